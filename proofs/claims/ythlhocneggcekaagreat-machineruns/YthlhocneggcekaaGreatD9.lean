/-
  Laid together: DropC, Kept, Bridge1.
-/
import Derived.Test.YthlhocneggcekaaGreatD6
import Derived.Test.YthlhocneggcekaaGreatD8
namespace Go.Proofs.YthlhocneggcekaaGreat
open Go.RowKit
def kpt (l:List Ln)(k d p:Int)(j:Nat):List Ln:=(l.take j).filter (fun x=>!goesB k d p x)
theorem cC (l:List Ln)(k d p:Int):kpt l k d p 0=[]:=by simp[kpt]
theorem fO {l:List Ln}{k d p:Int}{j:Nat}(hj:j<l.length)(h:goesB k d p (lth l j)=true):kpt l k d p (j+1)=kpt l k d p j:=by
 rw[cQ hj] at h
 unfold kpt
 rw[List.take_succ_eq_append_getElem hj,List.filter_append]
 simp[h]
theorem eS {l:List Ln}{k d p:Int}{j:Nat}(hj:j<l.length)(h:goesB k d p (lth l j)=false):kpt l k d p (j+1)=kpt l k d p j++[lth l j]:=by
 rw[cQ hj] at h ⊢
 unfold kpt
 rw[List.take_succ_eq_append_getElem hj,List.filter_append]
 simp[h]
theorem aBz (l:List Ln)(k d p:Int):kpt l k d p l.length=l.filter (fun x=>!goesB k d p x):=by simp[kpt]
theorem fC (l:List Ln)(k d p:Int)(j:Nat):(kpt l k d p j).length≤l.length:=by
 unfold kpt
 exact Nat.le_trans (List.length_filter_le _ _) (by simp;omega)
theorem goes0 (d p:Int)(x:Ln):goesB 0 d p x=false:=by simp[goesB]
theorem goes1 (d p:Int)(x:Ln):goesB 1 d p x=true:=by simp[goesB]
theorem goes2 (d p:Int)(x:Ln):goesB 2 d p x=decide (x.1=d):=by simp[goesB]
theorem goes3 (d p:Int)(x:Ln):goesB 3 d p x=hasB d p x:=by simp[goesB,hasB]
theorem dK {l:List Ln}{k d p:Int}(hc:chkC l=0)(h:0≤k∧k≤3):drE l k=0∧drC l k d p=kpt l k d p l.length:=by
 have he:drE l k=0:=by unfold drE;rw[if_pos hc,if_pos h]
 exact⟨he,by rw[drC,if_pos he,aBz]⟩
theorem keep3 {W w':World}{n:Nat}{u0 u1 u2:Value}(h0:W.cell? ⟨n,0,none⟩=some u0)(h1:W.cell? ⟨n,1,none⟩=some u1)(h2:W.cell? ⟨n,2,none⟩=some u2)(hn:n<W.heap.size)(hb:Below W.heap.size W w'):
  w'.cell? ⟨n,0,none⟩=some u0∧w'.cell? ⟨n,1,none⟩=some u1∧w'.cell? ⟨n,2,none⟩=some u2∧Below W.heap.size W w':=
 ⟨((bcell hb).1 n 0 hn).trans h0,((bcell hb).1 n 1 hn).trans h1,((bcell hb).1 n 2 hn).trans h2,hb⟩
theorem limb3 {A B C D:Prop}(h:A∧B∧C∧D):D:=h.2.2.2
set_option maxHeartbeats 1000000 in
theorem zW (v:Value)(l:List Ln)(k d p:Int)(w:World)(h:Ls w v l)(hc:¬chkC l=0):
  Calls Tryz.prog 64 #[v,.agg #[J k,J d,J p]] w fun e w'=>(∃v',e=.returned (.tuple #[v',J (drE l k)])∧Ls w' v' (drC l k d p)∧Fresh w.heap.size v')∧Below w.heap.size w w':=by
 have HL:Hid (Ls w v l):=h
 obtain⟨a0,cap,rfl,hl,hm,h⟩:=h
 have hq:(chkC l !=0)=true:=by simpa using hc
 have HE:Hid (drE l k=chkC l):=by unfold drE;exact if_neg hc
 have HF:Hid (drC l k d p=[]):=by unfold drC;exact if_neg (by rw[HE.out];exact hc)
 clear hc
 go_enter Tryz.func64,Tryz.ntmps64
 go_wp2_with fail
 refine (dE _ l _ (HL.out.keep (aA (Below.refl _ _) _))).mono ?_
 rintro e w1 ⟨rfl,b1⟩
 have B1:Hid (Below w.heap.size w w1):=aB (aA (Below.refl _ _) _) b1
 clear b1
 generalize chkC l=z at *
 go_wp2
 refine bodyPost_ret (v:=.tuple #[.slice none 0 0,J z]) (by simp[results,Tryz.results64,go_sem]) rfl ⟨⟨_,by rw[HE.out],by rw[HF.out];exact Ls.nothing _,Fresh.none _ _ _⟩,B1.out⟩
set_option maxHeartbeats 1000000 in
theorem zX (v:Value)(l:List Ln)(k d p:Int)(w:World)(h:Ls w v l)(hc:chkC l=0)(k0:-9223372036854775808≤k)(k1:k≤9223372036854775807)(hk:¬(0≤k∧k≤3)):
  Calls Tryz.prog 64 #[v,.agg #[J k,J d,J p]] w fun e w'=>(∃v',e=.returned (.tuple #[v',J (drE l k)])∧Ls w' v' (drC l k d p)∧Fresh w.heap.size v')∧Below w.heap.size w w':=by
 have HL:Hid (Ls w v l):=h
 have h6:l.length≤6:=(aW.1 hc).1
 obtain⟨a0,cap,rfl,hl,hm,h⟩:=h
 unfold maxLen at hm
 have HE:Hid (drE l k=3):=by unfold drE;rw[if_pos hc,if_neg hk];rfl
 have HF:Hid (drC l k d p=[]):=by unfold drC;exact if_neg (by rw[HE.out];decide)
 go_enter Tryz.func64,Tryz.ntmps64
 go_wp2_with fail
 refine (dE _ l _ (HL.out.keep (aA (Below.refl _ _) _))).mono ?_
 rw[hc]
 rintro e wx ⟨rfl,b1⟩
 have K1:=(Blk.new w #[J k,J d,J p] 115 (0,0)).keep b1
 have B1:Hid (Below w.heap.size w wx):=aB (aA (Below.refl _ _) _) b1
 obtain⟨c0,c1,c2⟩:=K1.three
 have s1:=K1.lt
 clear b1 K1
 go_wp2
 go_region_held3 (fun w'=>w'.cell? ⟨w.heap.size,0,none⟩=some (J k)∧w'.cell? ⟨w.heap.size,1,none⟩=some (J d)∧w'.cell? ⟨w.heap.size,2,none⟩=some (J p)∧Below wx.heap.size wx w')
  (with_reducible refine keep3 (by assumption) (by assumption) (by assumption) (by assumption) ?_;(repeat (first|with_reducible assumption|(with_reducible (refine limb3 (?_:_∧_∧_∧_);assumption))|with_reducible exact Below.refl _ _|with_reducible refine Below.drew ?_|with_reducible refine aH ?_ _|with_reducible refine aA ?_ _|with_reducible refine aB ?_ (by assumption))))
  (first|(go_at_call 99;refine (dM k d p _).mono ?_;rintro e wq ⟨⟨bq,rfl,hq⟩,bb⟩;have hlook:=hq.no k0 k1 hk))
 rename_i hH
 have HB2:Hid (Below w.heap.size w wq):=aB B1.out (limb3 hH)
 clear hH bb hq c0 c1 c2 s1 B1
 go_wp2
 refine bodyPost_ret (v:=.tuple #[.slice none 0 0,J 3]) (by simp[results,Tryz.results64,go_sem]) rfl ⟨⟨_,by rw[HE.out],by rw[HF.out];exact Ls.nothing _,Fresh.none _ _ _⟩,HB2.out⟩
set_option maxHeartbeats 1000000 in
theorem drop_0 (v:Value)(l:List Ln)(d p:Int)(w:World)(h:Ls w v l)(hc:chkC l=0):
  Calls Tryz.prog 64 #[v,.agg #[J (0:Int),J d,J p]] w fun e w'=>(∃v',e=.returned (.tuple #[v',J (drE l (0:Int))])∧Ls w' v' (drC l (0:Int) d p)∧Fresh w.heap.size v')∧Below w.heap.size w w':=by
 have HL:Hid (Ls w v l):=h
 have h6:l.length≤6:=(aW.1 hc).1
 obtain⟨a0,cap,rfl,hl,hm,h⟩:=h
 unfold maxLen at hm
 have HE:Hid (drE l 0=0):=(dK (d:=d) (p:=p) hc (by omega)).1
 have HF:Hid (drC l 0 d p=kpt l 0 d p l.length):=(dK hc (by omega)).2
 go_enter Tryz.func64,Tryz.ntmps64
 go_wp2_with fail
 refine (dE _ l _ (HL.out.keep (aA (Below.refl _ _) _))).mono ?_
 rw[hc]
 rintro e wx ⟨rfl,b1⟩
 have K1:=(Blk.new w #[J (0:Int),J d,J p] 115 (0,0)).keep b1
 have B1:Hid (Below w.heap.size w wx):=aB (aA (Below.refl _ _) _) b1
 obtain⟨c0,c1,c2⟩:=K1.three
 have s1:=K1.lt
 clear b1 K1
 go_wp2
 go_region_held3 (fun w'=>w'.cell? ⟨w.heap.size,0,none⟩=some (J (0:Int))∧w'.cell? ⟨w.heap.size,1,none⟩=some (J d)∧w'.cell? ⟨w.heap.size,2,none⟩=some (J p)∧Below wx.heap.size wx w')
  (with_reducible refine keep3 (by assumption) (by assumption) (by assumption) (by assumption) ?_;(repeat (first|with_reducible assumption|(with_reducible (refine limb3 (?_:_∧_∧_∧_);assumption))|with_reducible exact Below.refl _ _|with_reducible refine Below.drew ?_|with_reducible refine aH ?_ _|with_reducible refine aA ?_ _|with_reducible refine aB ?_ (by assumption))))
  (first|(go_at_call 99;refine (dM (0:Int) d p _).mono ?_;rintro e wq ⟨⟨bq,rfl,hq⟩,bb⟩;have hlook:=hq.at0))
 rename_i hH
 have HB2:Hid (Below w.heap.size w wq):=aB B1.out (limb3 hH)
 clear hH bb hq c0 c1 c2 s1 B1
 have HLq:Hid (Ls wq (.slice a0 l.length cap) l):=HL.out.keep HB2.out
 have HO0:Hid (OwnL (wq.alloc (.cells #[] 52)) wq.heap.size (.slice (some ⟨wq.heap.size,0,none⟩) 0 0) []):=OwnL.lit wq _ (Nat.le_refl _)
 clear HL hlook
 rcases h with rfl|⟨b,o,rfl,hb,_⟩
 ·go_wp2
  go_loopw [9,11,30] (fun v9 _ i w'=>v9=.slice (some ⟨wq.heap.size,0,none⟩) 0 0∧i=J 0∧w'=wq.alloc (.cells #[] 52)) (fun _ _ i _=>0)
  case atStart=>exact⟨rfl,rfl,rfl⟩
  case round=>
   obtain⟨rfl,rfl,rfl⟩:=hrel
   go_wp2
   refine bodyPost_ret (v:=.tuple #[.slice (some ⟨wq.heap.size,0,none⟩) 0 0,J 0]) (by simp[results,Tryz.results64,go_sem]) rfl ⟨⟨_,by rw[HE.out],?_,fun q hq=>Nat.le_trans HB2.out.size (OwnL.base HO0.out q hq)⟩,aA HB2.out _⟩
   rw[HF.out]
   exact OwnL.ls HO0.out
 ·go_wp2
  go_loopw [9,11,30] (fun v9 _ i w'=>∃(j:Nat) (a9:Option Addr) (c9:Nat),j≤l.length∧i=J j∧v9=.slice a9 (kpt l 0 d p j).length c9∧OwnL w' wq.heap.size v9 (kpt l 0 d p j)∧Below wq.heap.size wq w') (fun _ _ i _=>l.length-(intOf i).toNat)
  case atStart=>exact⟨0,_,_,Nat.zero_le _,rfl,by rw[cC];rfl,by rw[cC];exact HO0.out,aA (Below.refl _ _) _⟩
  case round=>
   obtain⟨j,a9,c9,hj,rfl,rfl,hO,hB⟩:=hrel
   have HO:Hid (OwnL wr wq.heap.size (.slice a9 (kpt l 0 d p j).length c9) (kpt l 0 d p j)):=hO
   have HB:Hid (Below wq.heap.size wq wr):=hB
   have hkl:(kpt l 0 d p j).length≤6:=Nat.le_trans (fC _ _ _ _ _) h6
   by_cases hlt:j<l.length
   ·have hx:=HLq.out.keep hB
    obtain⟨a',cap',e',_,_,hx⟩:=hx
    rcases hx with hx|⟨b',o',e2,hb',hc'⟩
    ·rw[hx] at hlt;exact absurd hlt (Nat.not_lt_zero _)
    simp only[Value.slice.injEq] at e'
    obtain⟨rfl,_,rfl⟩:=e'
    simp only[Option.some.injEq,Addr.mk.injEq,and_true] at e2
    obtain⟨rfl,rfl⟩:=e2
    obtain⟨g0,g1,g2,g3,g4⟩:=hc' j hlt
    clear hc'
    obtain⟨y,hy⟩:∃y,y=lth l j:=⟨_,rfl⟩
    have HY:Hid (y=lth l j):=hy
    rw[←hy] at g0 g1 g2 g3 g4
    clear hy
    have hszq:Hid (wq.heap.size≤wr.heap.size):=hB.size
    clear hB hO
    obtain⟨d1,p1,a1,r1,x1⟩:=y
    simp only at g0 g1 g2 g3 g4
    have hlt1:(j:Int)<l.length:=by omega
    go_wp2_with fail
    refine (q0_any d1 p1 a1 r1 x1 _).mono ?_
    rintro e w1 ⟨rfl,ob,rfl⟩
    have hg:=goes0 d p (d1,p1,a1,r1,x1)
    have HK:Hid (kpt l 0 d p (j+1)=kpt l 0 d p j++[(d1,p1,a1,r1,x1)]):=by show _=_;rw[eS hlt (by rw[←HY.out];exact hg),←HY.out]
    generalize hkj:kpt l 0 d p j=kj at *
    go_wp2_with (first|(at_builtin;refine bM rfl (.tmp 38) (.tmp 40) rfl wq.heap.size _ _ kj [(d1,p1,a1,r1,x1)] rfl rfl (((HO.out.alloc _).alloc _).alloc _) (bR (by simp) _ _ _ _ _ _) (by simp;omega) (by have:=hszq.out;simp;omega) (.inr (by simp)) ?_))
    intro g9 cg9 w9 hown9 _ hbel9 _
    have HN9:Hid ((kj++[(d1,p1,a1,r1,x1)]).length=kj.length+1):=by show _=_;simp
    have HO9:Hid (OwnL w9 wq.heap.size (.slice (some ⟨g9,0,none⟩) (kj.length+1) cg9) (kj++[(d1,p1,a1,r1,x1)])):=hown9
    have HB9:Hid (Below wq.heap.size wq w9):=(aA (aA (aA HB.out _) _) _).trans hbel9
    clear hown9 hbel9
    go_wp2
    exact⟨⟨j+1,some ⟨g9,0,none⟩,cg9,by omega,by go_num,by rw[HK.out,HN9.out],by rw[HK.out];exact HO9.out,HB9.out⟩,by simp[intOf];omega⟩
   ·obtain rfl:j=l.length:=by omega
    clear hB hO
    go_wp2
    refine bodyPost_ret (v:=.tuple #[.slice a9 (kpt l 0 d p l.length).length c9,J 0]) (by simp[results,Tryz.results64,go_sem]) rfl ⟨⟨_,by rw[HE.out],?_,fun q hq=>Nat.le_trans HB2.out.size (OwnL.base HO.out q hq)⟩,aB HB2.out HB.out⟩
    rw[HF.out]
    exact OwnL.ls HO.out
set_option maxHeartbeats 1000000 in
theorem drop_1 (v:Value)(l:List Ln)(d p:Int)(w:World)(h:Ls w v l)(hc:chkC l=0):
  Calls Tryz.prog 64 #[v,.agg #[J (1:Int),J d,J p]] w fun e w'=>(∃v',e=.returned (.tuple #[v',J (drE l (1:Int))])∧Ls w' v' (drC l (1:Int) d p)∧Fresh w.heap.size v')∧Below w.heap.size w w':=by
 have HL:Hid (Ls w v l):=h
 have h6:l.length≤6:=(aW.1 hc).1
 obtain⟨a0,cap,rfl,hl,hm,h⟩:=h
 unfold maxLen at hm
 have HE:Hid (drE l 1=0):=(dK (d:=d) (p:=p) hc (by omega)).1
 have HF:Hid (drC l 1 d p=kpt l 1 d p l.length):=(dK hc (by omega)).2
 go_enter Tryz.func64,Tryz.ntmps64
 go_wp2_with fail
 refine (dE _ l _ (HL.out.keep (aA (Below.refl _ _) _))).mono ?_
 rw[hc]
 rintro e wx ⟨rfl,b1⟩
 have K1:=(Blk.new w #[J (1:Int),J d,J p] 115 (0,0)).keep b1
 have B1:Hid (Below w.heap.size w wx):=aB (aA (Below.refl _ _) _) b1
 obtain⟨c0,c1,c2⟩:=K1.three
 have s1:=K1.lt
 clear b1 K1
 go_wp2
 go_region_held3 (fun w'=>w'.cell? ⟨w.heap.size,0,none⟩=some (J (1:Int))∧w'.cell? ⟨w.heap.size,1,none⟩=some (J d)∧w'.cell? ⟨w.heap.size,2,none⟩=some (J p)∧Below wx.heap.size wx w')
  (with_reducible refine keep3 (by assumption) (by assumption) (by assumption) (by assumption) ?_;(repeat (first|with_reducible assumption|(with_reducible (refine limb3 (?_:_∧_∧_∧_);assumption))|with_reducible exact Below.refl _ _|with_reducible refine Below.drew ?_|with_reducible refine aH ?_ _|with_reducible refine aA ?_ _|with_reducible refine aB ?_ (by assumption))))
  (first|(go_at_call 99;refine (dM (1:Int) d p _).mono ?_;rintro e wq ⟨⟨bq,rfl,hq⟩,bb⟩;have hlook:=hq.at1))
 rename_i hH
 have HB2:Hid (Below w.heap.size w wq):=aB B1.out (limb3 hH)
 clear hH bb hq c0 c1 c2 s1 B1
 have HLq:Hid (Ls wq (.slice a0 l.length cap) l):=HL.out.keep HB2.out
 have HO0:Hid (OwnL (wq.alloc (.cells #[] 52)) wq.heap.size (.slice (some ⟨wq.heap.size,0,none⟩) 0 0) []):=OwnL.lit wq _ (Nat.le_refl _)
 clear HL hlook
 rcases h with rfl|⟨b,o,rfl,hb,_⟩
 ·go_wp2
  go_loopw [9,11,30] (fun v9 _ i w'=>v9=.slice (some ⟨wq.heap.size,0,none⟩) 0 0∧i=J 0∧w'=wq.alloc (.cells #[] 52)) (fun _ _ i _=>0)
  case atStart=>exact⟨rfl,rfl,rfl⟩
  case round=>
   obtain⟨rfl,rfl,rfl⟩:=hrel
   go_wp2
   refine bodyPost_ret (v:=.tuple #[.slice (some ⟨wq.heap.size,0,none⟩) 0 0,J 0]) (by simp[results,Tryz.results64,go_sem]) rfl ⟨⟨_,by rw[HE.out],?_,fun q hq=>Nat.le_trans HB2.out.size (OwnL.base HO0.out q hq)⟩,aA HB2.out _⟩
   rw[HF.out]
   exact OwnL.ls HO0.out
 ·go_wp2
  go_loopw [9,11,30] (fun v9 _ i w'=>∃(j:Nat) (a9:Option Addr) (c9:Nat),j≤l.length∧i=J j∧v9=.slice a9 (kpt l 1 d p j).length c9∧OwnL w' wq.heap.size v9 (kpt l 1 d p j)∧Below wq.heap.size wq w') (fun _ _ i _=>l.length-(intOf i).toNat)
  case atStart=>exact⟨0,_,_,Nat.zero_le _,rfl,by rw[cC];rfl,by rw[cC];exact HO0.out,aA (Below.refl _ _) _⟩
  case round=>
   obtain⟨j,a9,c9,hj,rfl,rfl,hO,hB⟩:=hrel
   have HO:Hid (OwnL wr wq.heap.size (.slice a9 (kpt l 1 d p j).length c9) (kpt l 1 d p j)):=hO
   have HB:Hid (Below wq.heap.size wq wr):=hB
   have hkl:(kpt l 1 d p j).length≤6:=Nat.le_trans (fC _ _ _ _ _) h6
   by_cases hlt:j<l.length
   ·have hx:=HLq.out.keep hB
    obtain⟨a',cap',e',_,_,hx⟩:=hx
    rcases hx with hx|⟨b',o',e2,hb',hc'⟩
    ·rw[hx] at hlt;exact absurd hlt (Nat.not_lt_zero _)
    simp only[Value.slice.injEq] at e'
    obtain⟨rfl,_,rfl⟩:=e'
    simp only[Option.some.injEq,Addr.mk.injEq,and_true] at e2
    obtain⟨rfl,rfl⟩:=e2
    obtain⟨g0,g1,g2,g3,g4⟩:=hc' j hlt
    clear hc'
    obtain⟨y,hy⟩:∃y,y=lth l j:=⟨_,rfl⟩
    have HY:Hid (y=lth l j):=hy
    rw[←hy] at g0 g1 g2 g3 g4
    clear hy
    have hszq:Hid (wq.heap.size≤wr.heap.size):=hB.size
    clear hB hO
    obtain⟨d1,p1,a1,r1,x1⟩:=y
    simp only at g0 g1 g2 g3 g4
    have hlt1:(j:Int)<l.length:=by omega
    go_wp2_with fail
    refine (q1_any d1 p1 a1 r1 x1 _).mono ?_
    rintro e w1 ⟨rfl,ob,rfl⟩
    have hg:=goes1 d p (d1,p1,a1,r1,x1)
    have HK:Hid (kpt l 1 d p (j+1)=kpt l 1 d p j):=fO hlt (by rw[←HY.out];exact hg)
    go_wp2
    exact⟨⟨j+1,_,_,by omega,by go_num,by rw[HK.out],by rw[HK.out];exact (OwnL.alloc HO.out _).alloc _,aA (aA HB.out _) _⟩,by simp[intOf];omega⟩
   ·obtain rfl:j=l.length:=by omega
    clear hB hO
    go_wp2
    refine bodyPost_ret (v:=.tuple #[.slice a9 (kpt l 1 d p l.length).length c9,J 0]) (by simp[results,Tryz.results64,go_sem]) rfl ⟨⟨_,by rw[HE.out],?_,fun q hq=>Nat.le_trans HB2.out.size (OwnL.base HO.out q hq)⟩,aB HB2.out HB.out⟩
    rw[HF.out]
    exact OwnL.ls HO.out
set_option maxHeartbeats 1000000 in
theorem drop_2 (v:Value)(l:List Ln)(d p:Int)(w:World)(h:Ls w v l)(hc:chkC l=0):
  Calls Tryz.prog 64 #[v,.agg #[J (2:Int),J d,J p]] w fun e w'=>(∃v',e=.returned (.tuple #[v',J (drE l (2:Int))])∧Ls w' v' (drC l (2:Int) d p)∧Fresh w.heap.size v')∧Below w.heap.size w w':=by
 have HL:Hid (Ls w v l):=h
 have h6:l.length≤6:=(aW.1 hc).1
 obtain⟨a0,cap,rfl,hl,hm,h⟩:=h
 unfold maxLen at hm
 have HE:Hid (drE l 2=0):=(dK (d:=d) (p:=p) hc (by omega)).1
 have HF:Hid (drC l 2 d p=kpt l 2 d p l.length):=(dK hc (by omega)).2
 go_enter Tryz.func64,Tryz.ntmps64
 go_wp2_with fail
 refine (dE _ l _ (HL.out.keep (aA (Below.refl _ _) _))).mono ?_
 rw[hc]
 rintro e wx ⟨rfl,b1⟩
 have K1:=(Blk.new w #[J (2:Int),J d,J p] 115 (0,0)).keep b1
 have B1:Hid (Below w.heap.size w wx):=aB (aA (Below.refl _ _) _) b1
 obtain⟨c0,c1,c2⟩:=K1.three
 have s1:=K1.lt
 clear b1 K1
 go_wp2
 go_region_held3 (fun w'=>w'.cell? ⟨w.heap.size,0,none⟩=some (J (2:Int))∧w'.cell? ⟨w.heap.size,1,none⟩=some (J d)∧w'.cell? ⟨w.heap.size,2,none⟩=some (J p)∧Below wx.heap.size wx w')
  (with_reducible refine keep3 (by assumption) (by assumption) (by assumption) (by assumption) ?_;(repeat (first|with_reducible assumption|(with_reducible (refine limb3 (?_:_∧_∧_∧_);assumption))|with_reducible exact Below.refl _ _|with_reducible refine Below.drew ?_|with_reducible refine aH ?_ _|with_reducible refine aA ?_ _|with_reducible refine aB ?_ (by assumption))))
  (first|(go_at_call 99;refine (dM (2:Int) d p _).mono ?_;rintro e wq ⟨⟨bq,rfl,hq⟩,bb⟩;obtain⟨nq,hlook,hcq,hlq⟩:=hq.at2))
 rename_i hH
 have HB2:Hid (Below w.heap.size w wq):=aB B1.out (limb3 hH)
 clear hH bb hq c0 c1 c2 s1 B1
 have HCq:Hid (wq.cell? ⟨nq,1,none⟩=some (J d)):=hcq
 clear hcq
 have HLq:Hid (Ls wq (.slice a0 l.length cap) l):=HL.out.keep HB2.out
 have HO0:Hid (OwnL (wq.alloc (.cells #[] 52)) wq.heap.size (.slice (some ⟨wq.heap.size,0,none⟩) 0 0) []):=OwnL.lit wq _ (Nat.le_refl _)
 clear HL hlook
 rcases h with rfl|⟨b,o,rfl,hb,_⟩
 ·go_wp2
  go_loopw [9,11,30] (fun v9 _ i w'=>v9=.slice (some ⟨wq.heap.size,0,none⟩) 0 0∧i=J 0∧w'=wq.alloc (.cells #[] 52)) (fun _ _ i _=>0)
  case atStart=>exact⟨rfl,rfl,rfl⟩
  case round=>
   obtain⟨rfl,rfl,rfl⟩:=hrel
   go_wp2
   refine bodyPost_ret (v:=.tuple #[.slice (some ⟨wq.heap.size,0,none⟩) 0 0,J 0]) (by simp[results,Tryz.results64,go_sem]) rfl ⟨⟨_,by rw[HE.out],?_,fun q hq=>Nat.le_trans HB2.out.size (OwnL.base HO0.out q hq)⟩,aA HB2.out _⟩
   rw[HF.out]
   exact OwnL.ls HO0.out
 ·go_wp2
  go_loopw [9,11,30] (fun v9 _ i w'=>∃(j:Nat) (a9:Option Addr) (c9:Nat),j≤l.length∧i=J j∧v9=.slice a9 (kpt l 2 d p j).length c9∧OwnL w' wq.heap.size v9 (kpt l 2 d p j)∧Below wq.heap.size wq w') (fun _ _ i _=>l.length-(intOf i).toNat)
  case atStart=>exact⟨0,_,_,Nat.zero_le _,rfl,by rw[cC];rfl,by rw[cC];exact HO0.out,aA (Below.refl _ _) _⟩
  case round=>
   obtain⟨j,a9,c9,hj,rfl,rfl,hO,hB⟩:=hrel
   have HO:Hid (OwnL wr wq.heap.size (.slice a9 (kpt l 2 d p j).length c9) (kpt l 2 d p j)):=hO
   have HB:Hid (Below wq.heap.size wq wr):=hB
   have hkl:(kpt l 2 d p j).length≤6:=Nat.le_trans (fC _ _ _ _ _) h6
   by_cases hlt:j<l.length
   ·have hx:=HLq.out.keep hB
    obtain⟨a',cap',e',_,_,hx⟩:=hx
    rcases hx with hx|⟨b',o',e2,hb',hc'⟩
    ·rw[hx] at hlt;exact absurd hlt (Nat.not_lt_zero _)
    simp only[Value.slice.injEq] at e'
    obtain⟨rfl,_,rfl⟩:=e'
    simp only[Option.some.injEq,Addr.mk.injEq,and_true] at e2
    obtain⟨rfl,rfl⟩:=e2
    obtain⟨g0,g1,g2,g3,g4⟩:=hc' j hlt
    clear hc'
    obtain⟨y,hy⟩:∃y,y=lth l j:=⟨_,rfl⟩
    have HY:Hid (y=lth l j):=hy
    rw[←hy] at g0 g1 g2 g3 g4
    clear hy
    have cq:Hid (wr.cell? ⟨nq,1,none⟩=some (J d)):=((bcell hB).1 nq 1 hlq).trans HCq.out
    have lq:nq<wr.heap.size:=Nat.lt_of_lt_of_le hlq hB.size
    have hszq:Hid (wq.heap.size≤wr.heap.size):=hB.size
    clear hB hO
    obtain⟨d1,p1,a1,r1,x1⟩:=y
    simp only at g0 g1 g2 g3 g4
    have hlt1:(j:Int)<l.length:=by omega
    go_wp2_with fail
    refine (q2_any nq d d1 p1 a1 r1 x1 _ (by rw[World.cell?_alloc_past _ _ _ lq];exact cq.out) (by simp;omega)).mono ?_
    rintro e w1 ⟨rfl,ob,rfl⟩
    have hgo:=(goes2 d p (d1,p1,a1,r1,x1)).symm
    simp only at hgo
    rw[hgo]
    clear hgo
    cases hg:goesB 2 d p (d1,p1,a1,r1,x1)
    ·have HK:Hid (kpt l 2 d p (j+1)=kpt l 2 d p j++[(d1,p1,a1,r1,x1)]):=by show _=_;rw[eS hlt (by rw[←HY.out];exact hg),←HY.out]
     generalize hkj:kpt l 2 d p j=kj at *
     go_wp2_with (first|(at_builtin;refine bM rfl (.tmp 38) (.tmp 40) rfl wq.heap.size _ _ kj [(d1,p1,a1,r1,x1)] rfl rfl (((HO.out.alloc _).alloc _).alloc _) (bR (by simp) _ _ _ _ _ _) (by simp;omega) (by have:=hszq.out;simp;omega) (.inr (by simp)) ?_))
     intro g9 cg9 w9 hown9 _ hbel9 _
     have HN9:Hid ((kj++[(d1,p1,a1,r1,x1)]).length=kj.length+1):=by show _=_;simp
     have HO9:Hid (OwnL w9 wq.heap.size (.slice (some ⟨g9,0,none⟩) (kj.length+1) cg9) (kj++[(d1,p1,a1,r1,x1)])):=hown9
     have HB9:Hid (Below wq.heap.size wq w9):=(aA (aA (aA HB.out _) _) _).trans hbel9
     clear hown9 hbel9
     go_wp2
     exact⟨⟨j+1,some ⟨g9,0,none⟩,cg9,by omega,by go_num,by rw[HK.out,HN9.out],by rw[HK.out];exact HO9.out,HB9.out⟩,by simp[intOf];omega⟩
    ·have HK:Hid (kpt l 2 d p (j+1)=kpt l 2 d p j):=fO hlt (by rw[←HY.out];exact hg)
     go_wp2
     exact⟨⟨j+1,_,_,by omega,by go_num,by rw[HK.out],by rw[HK.out];exact (OwnL.alloc HO.out _).alloc _,aA (aA HB.out _) _⟩,by simp[intOf];omega⟩
   ·obtain rfl:j=l.length:=by omega
    clear hB hO
    go_wp2
    refine bodyPost_ret (v:=.tuple #[.slice a9 (kpt l 2 d p l.length).length c9,J 0]) (by simp[results,Tryz.results64,go_sem]) rfl ⟨⟨_,by rw[HE.out],?_,fun q hq=>Nat.le_trans HB2.out.size (OwnL.base HO.out q hq)⟩,aB HB2.out HB.out⟩
    rw[HF.out]
    exact OwnL.ls HO.out
set_option maxHeartbeats 1000000 in
theorem drop_3 (v:Value)(l:List Ln)(d p:Int)(w:World)(h:Ls w v l)(hc:chkC l=0):
  Calls Tryz.prog 64 #[v,.agg #[J (3:Int),J d,J p]] w fun e w'=>(∃v',e=.returned (.tuple #[v',J (drE l (3:Int))])∧Ls w' v' (drC l (3:Int) d p)∧Fresh w.heap.size v')∧Below w.heap.size w w':=by
 have HL:Hid (Ls w v l):=h
 have h6:l.length≤6:=(aW.1 hc).1
 obtain⟨a0,cap,rfl,hl,hm,h⟩:=h
 unfold maxLen at hm
 have HE:Hid (drE l 3=0):=(dK (d:=d) (p:=p) hc (by omega)).1
 have HF:Hid (drC l 3 d p=kpt l 3 d p l.length):=(dK hc (by omega)).2
 go_enter Tryz.func64,Tryz.ntmps64
 go_wp2_with fail
 refine (dE _ l _ (HL.out.keep (aA (Below.refl _ _) _))).mono ?_
 rw[hc]
 rintro e wx ⟨rfl,b1⟩
 have K1:=(Blk.new w #[J (3:Int),J d,J p] 115 (0,0)).keep b1
 have B1:Hid (Below w.heap.size w wx):=aB (aA (Below.refl _ _) _) b1
 obtain⟨c0,c1,c2⟩:=K1.three
 have s1:=K1.lt
 clear b1 K1
 go_wp2
 go_region_held3 (fun w'=>w'.cell? ⟨w.heap.size,0,none⟩=some (J (3:Int))∧w'.cell? ⟨w.heap.size,1,none⟩=some (J d)∧w'.cell? ⟨w.heap.size,2,none⟩=some (J p)∧Below wx.heap.size wx w')
  (with_reducible refine keep3 (by assumption) (by assumption) (by assumption) (by assumption) ?_;(repeat (first|with_reducible assumption|(with_reducible (refine limb3 (?_:_∧_∧_∧_);assumption))|with_reducible exact Below.refl _ _|with_reducible refine Below.drew ?_|with_reducible refine aH ?_ _|with_reducible refine aA ?_ _|with_reducible refine aB ?_ (by assumption))))
  (first|(go_at_call 99;refine (dM (3:Int) d p _).mono ?_;rintro e wq ⟨⟨bq,rfl,hq⟩,bb⟩;obtain⟨uq,vq,hlook,⟨hcu,hlu⟩,⟨hcv,hlv⟩⟩:=hq.at3))
 rename_i hH
 have HB2:Hid (Below w.heap.size w wq):=aB B1.out (limb3 hH)
 clear hH bb hq c0 c1 c2 s1 B1
 have HCu:Hid (wq.cell? ⟨uq,0,none⟩=some (J d)):=hcu
 have HCv:Hid (wq.cell? ⟨vq,0,none⟩=some (J p)):=hcv
 clear hcu hcv
 have HLq:Hid (Ls wq (.slice a0 l.length cap) l):=HL.out.keep HB2.out
 have HO0:Hid (OwnL (wq.alloc (.cells #[] 52)) wq.heap.size (.slice (some ⟨wq.heap.size,0,none⟩) 0 0) []):=OwnL.lit wq _ (Nat.le_refl _)
 clear HL hlook
 rcases h with rfl|⟨b,o,rfl,hb,_⟩
 ·go_wp2
  go_loopw [9,11,30] (fun v9 _ i w'=>v9=.slice (some ⟨wq.heap.size,0,none⟩) 0 0∧i=J 0∧w'=wq.alloc (.cells #[] 52)) (fun _ _ i _=>0)
  case atStart=>exact⟨rfl,rfl,rfl⟩
  case round=>
   obtain⟨rfl,rfl,rfl⟩:=hrel
   go_wp2
   refine bodyPost_ret (v:=.tuple #[.slice (some ⟨wq.heap.size,0,none⟩) 0 0,J 0]) (by simp[results,Tryz.results64,go_sem]) rfl ⟨⟨_,by rw[HE.out],?_,fun q hq=>Nat.le_trans HB2.out.size (OwnL.base HO0.out q hq)⟩,aA HB2.out _⟩
   rw[HF.out]
   exact OwnL.ls HO0.out
 ·go_wp2
  go_loopw [9,11,30] (fun v9 _ i w'=>∃(j:Nat) (a9:Option Addr) (c9:Nat),j≤l.length∧i=J j∧v9=.slice a9 (kpt l 3 d p j).length c9∧OwnL w' wq.heap.size v9 (kpt l 3 d p j)∧Below wq.heap.size wq w') (fun _ _ i _=>l.length-(intOf i).toNat)
  case atStart=>exact⟨0,_,_,Nat.zero_le _,rfl,by rw[cC];rfl,by rw[cC];exact HO0.out,aA (Below.refl _ _) _⟩
  case round=>
   obtain⟨j,a9,c9,hj,rfl,rfl,hO,hB⟩:=hrel
   have HO:Hid (OwnL wr wq.heap.size (.slice a9 (kpt l 3 d p j).length c9) (kpt l 3 d p j)):=hO
   have HB:Hid (Below wq.heap.size wq wr):=hB
   have hkl:(kpt l 3 d p j).length≤6:=Nat.le_trans (fC _ _ _ _ _) h6
   by_cases hlt:j<l.length
   ·have hx:=HLq.out.keep hB
    obtain⟨a',cap',e',_,_,hx⟩:=hx
    rcases hx with hx|⟨b',o',e2,hb',hc'⟩
    ·rw[hx] at hlt;exact absurd hlt (Nat.not_lt_zero _)
    simp only[Value.slice.injEq] at e'
    obtain⟨rfl,_,rfl⟩:=e'
    simp only[Option.some.injEq,Addr.mk.injEq,and_true] at e2
    obtain⟨rfl,rfl⟩:=e2
    obtain⟨g0,g1,g2,g3,g4⟩:=hc' j hlt
    clear hc'
    obtain⟨y,hy⟩:∃y,y=lth l j:=⟨_,rfl⟩
    have HY:Hid (y=lth l j):=hy
    rw[←hy] at g0 g1 g2 g3 g4
    clear hy
    have cu:Hid (wr.cell? ⟨uq,0,none⟩=some (J d)):=((bcell hB).1 uq 0 hlu).trans HCu.out
    have lu:uq<wr.heap.size:=Nat.lt_of_lt_of_le hlu hB.size
    have cv:Hid (wr.cell? ⟨vq,0,none⟩=some (J p)):=((bcell hB).1 vq 0 hlv).trans HCv.out
    have lv:vq<wr.heap.size:=Nat.lt_of_lt_of_le hlv hB.size
    have hszq:Hid (wq.heap.size≤wr.heap.size):=hB.size
    clear hB hO
    obtain⟨d1,p1,a1,r1,x1⟩:=y
    simp only at g0 g1 g2 g3 g4
    have hlt1:(j:Int)<l.length:=by omega
    go_wp2_with fail
    refine (yQ uq vq d p d1 p1 a1 r1 x1 _ (by rw[World.cell?_alloc_past _ _ _ lu];exact cu.out) (by rw[World.cell?_alloc_past _ _ _ lv];exact cv.out) (by simp;omega) (by simp;omega)).mono ?_
    rintro e w1 ⟨rfl,ob,rfl⟩
    rw[←goes3 d p (d1,p1,a1,r1,x1)]
    cases hg:goesB 3 d p (d1,p1,a1,r1,x1)
    ·have HK:Hid (kpt l 3 d p (j+1)=kpt l 3 d p j++[(d1,p1,a1,r1,x1)]):=by show _=_;rw[eS hlt (by rw[←HY.out];exact hg),←HY.out]
     generalize hkj:kpt l 3 d p j=kj at *
     go_wp2_with (first|(at_builtin;refine bM rfl (.tmp 38) (.tmp 40) rfl wq.heap.size _ _ kj [(d1,p1,a1,r1,x1)] rfl rfl (((HO.out.alloc _).alloc _).alloc _) (bR (by simp) _ _ _ _ _ _) (by simp;omega) (by have:=hszq.out;simp;omega) (.inr (by simp)) ?_))
     intro g9 cg9 w9 hown9 _ hbel9 _
     have HN9:Hid ((kj++[(d1,p1,a1,r1,x1)]).length=kj.length+1):=by show _=_;simp
     have HO9:Hid (OwnL w9 wq.heap.size (.slice (some ⟨g9,0,none⟩) (kj.length+1) cg9) (kj++[(d1,p1,a1,r1,x1)])):=hown9
     have HB9:Hid (Below wq.heap.size wq w9):=(aA (aA (aA HB.out _) _) _).trans hbel9
     clear hown9 hbel9
     go_wp2
     exact⟨⟨j+1,some ⟨g9,0,none⟩,cg9,by omega,by go_num,by rw[HK.out,HN9.out],by rw[HK.out];exact HO9.out,HB9.out⟩,by simp[intOf];omega⟩
    ·have HK:Hid (kpt l 3 d p (j+1)=kpt l 3 d p j):=fO hlt (by rw[←HY.out];exact hg)
     go_wp2
     exact⟨⟨j+1,_,_,by omega,by go_num,by rw[HK.out],by rw[HK.out];exact (OwnL.alloc HO.out _).alloc _,aA (aA HB.out _) _⟩,by simp[intOf];omega⟩
   ·obtain rfl:j=l.length:=by omega
    clear hB hO
    go_wp2
    refine bodyPost_ret (v:=.tuple #[.slice a9 (kpt l 3 d p l.length).length c9,J 0]) (by simp[results,Tryz.results64,go_sem]) rfl ⟨⟨_,by rw[HE.out],?_,fun q hq=>Nat.le_trans HB2.out.size (OwnL.base HO.out q hq)⟩,aB HB2.out HB.out⟩
    rw[HF.out]
    exact OwnL.ls HO.out
theorem wC (v:Value)(l:List Ln)(k d p:Int)(w:World)(h:Ls w v l)(k0:-9223372036854775808≤k)(k1:k≤9223372036854775807):
  Calls Tryz.prog 64 #[v,.agg #[J k,J d,J p]] w fun e w'=>(∃v',e=.returned (.tuple #[v',J (drE l k)])∧Ls w' v' (drC l k d p)∧Fresh w.heap.size v')∧Below w.heap.size w w':=by
 by_cases hc:chkC l=0
 ·by_cases hk:0≤k∧k≤3
  ·have:k=0∨k=1∨k=2∨k=3:=by omega
   rcases this with rfl|rfl|rfl|rfl
   ·exact drop_0 v l d p w h hc
   ·exact drop_1 v l d p w h hc
   ·exact drop_2 v l d p w h hc
   ·exact drop_3 v l d p w h hc
  ·exact zX v l k d p w h hc k0 k1 hk
 ·exact zW v l k d p w h hc
theorem Ls.shape {w:World}{v:Value}{l:List Ln}(h:Ls w v l):∃a cap,v=.slice a l.length cap∧Ls w (.slice a l.length cap) l:=by
 have h':=h
 obtain⟨a,cap,rfl,_⟩:=h
 exact⟨a,cap,rfl,h'⟩
theorem zY {v:Value}{l:List Ln}{d p a:Int}{r x:Bool}{w:World}(h:Ls w v l){e0:Int}{c:List Ln}(hE:flE l (d,p,a,r,x)=e0)(hC:flC l (d,p,a,r,x)=c):
  Calls Tryz.prog 124 #[v,.agg #[J d,J p,J a,.bool r,.bool x]] w fun e w'=>∃b cap,e=.returned (.tuple #[.slice b c.length cap,J e0])∧Ls w' (.slice b c.length cap) c∧Fresh w.heap.size (.slice b c.length cap)∧Below w.heap.size w w':=by
 subst hE hC
 refine (yT v l d p a r x w h).mono ?_
 rintro e w' ⟨⟨v',rfl,hs,hn⟩,hb⟩
 obtain⟨b,cap,rfl,hs'⟩:=hs.shape
 exact⟨b,cap,rfl,hs',hn,hb⟩
theorem zZ {v:Value}{l:List Ln}{k d p:Int}{w:World}(h:Ls w v l)(k0:-9223372036854775808≤k)(k1:k≤9223372036854775807){e0:Int}{c:List Ln}(hE:drE l k=e0)(hC:drC l k d p=c):
  Calls Tryz.prog 64 #[v,.agg #[J k,J d,J p]] w fun e w'=>∃b cap,e=.returned (.tuple #[.slice b c.length cap,J e0])∧Ls w' (.slice b c.length cap) c∧Fresh w.heap.size (.slice b c.length cap)∧Below w.heap.size w w':=by
 subst hE hC
 refine (wC v l k d p w h k0 k1).mono ?_
 rintro e w' ⟨⟨v',rfl,hs,hf⟩,hb⟩
 obtain⟨b,cap,rfl,hs'⟩:=hs.shape
 exact⟨b,cap,rfl,hs',hf,hb⟩
def fenR (z:Int):Bool:=decide (0≤z∧z<1000)
theorem fD (z:Int)(w:World):Calls Tryz.prog 73 #[J z] w fun e w'=>e=.returned (.bool (pageR z))∧w'=w:=by
 by_cases h1:0≤z
 ·by_cases h2:z<64
  ·have:pageR z=true:=by simp[pageR,h1,h2]
   rw[this]
   go_enter Tryz.func73,Tryz.ntmps73
   go_wp2
   go_ret
   exact⟨rfl,rfl⟩
  ·have:pageR z=false:=by simp[pageR,h2]
   rw[this]
   go_enter Tryz.func73,Tryz.ntmps73
   go_wp2
   go_ret
   exact⟨rfl,rfl⟩
 ·have:pageR z=false:=by simp[pageR,h1]
  rw[this]
  go_enter Tryz.func73,Tryz.ntmps73
  go_wp2
  go_ret
  exact⟨rfl,rfl⟩
theorem mB (z:Int)(w:World):Calls Tryz.prog 86 #[J z] w fun e w'=>e=.returned (.bool (stepR z))∧w'=w:=by
 by_cases h1:0≤z
 ·by_cases h2:z<8
  ·have:stepR z=true:=by simp[stepR,h1,h2]
   rw[this]
   go_enter Tryz.func86,Tryz.ntmps86
   go_wp2
   go_ret
   exact⟨rfl,rfl⟩
  ·have:stepR z=false:=by simp[stepR,h2]
   rw[this]
   go_enter Tryz.func86,Tryz.ntmps86
   go_wp2
   go_ret
   exact⟨rfl,rfl⟩
 ·have:stepR z=false:=by simp[stepR,h1]
  rw[this]
  go_enter Tryz.func86,Tryz.ntmps86
  go_wp2
  go_ret
  exact⟨rfl,rfl⟩
theorem jA (z:Int)(w:World):Calls Tryz.prog 74 #[J z] w fun e w'=>e=.returned (.bool (fenR z))∧w'=w:=by
 by_cases h1:0≤z
 ·by_cases h2:z<1000
  ·have:fenR z=true:=by simp[fenR,h1,h2]
   rw[this]
   go_enter Tryz.func74,Tryz.ntmps74
   go_wp2
   go_ret
   exact⟨rfl,rfl⟩
  ·have:fenR z=false:=by simp[fenR,h2]
   rw[this]
   go_enter Tryz.func74,Tryz.ntmps74
   go_wp2
   go_ret
   exact⟨rfl,rfl⟩
 ·have:fenR z=false:=by simp[fenR,h1]
  rw[this]
  go_enter Tryz.func74,Tryz.ntmps74
  go_wp2
  go_ret
  exact⟨rfl,rfl⟩
theorem tG {b:Br}:(rngBr b=true∧¬b.mode<0∧¬2<b.mode∧pageR b.base=true∧fenR b.fen=true)∨
  (rngBr b=false∧(b.mode<0∨(¬b.mode<0∧2<b.mode)∨(¬b.mode<0∧¬2<b.mode∧pageR b.base=false)∨(¬b.mode<0∧¬2<b.mode∧pageR b.base=true∧fenR b.fen=false))):=by
 simp only[rngBr,pageR,fenR]
 by_cases h1:b.mode<0
 ·exact .inr ⟨by simp;omega,.inl h1⟩
 by_cases h2:2<b.mode
 ·exact .inr ⟨by simp;omega,.inr (.inl ⟨h1,h2⟩)⟩
 by_cases h3:0≤b.base∧b.base<64
 ·by_cases h4:0≤b.fen∧b.fen<1000
  ·exact .inl ⟨by simp;omega,h1,h2,by simp[h3],by simp[h4]⟩
  ·exact .inr ⟨by simp;omega,.inr (.inr (.inr ⟨h1,h2,by simp[h3],by simpa using h4⟩))⟩
 ·exact .inr ⟨by simp;omega,.inr (.inr (.inl ⟨h1,h2,by simpa using h3⟩))⟩
set_option maxHeartbeats 2000000 in
theorem cV (mo ba op oh ot fe fp fh ft:Int)(st lo:Bool)(vc:Value)(l:List Ln)(w:World)(h:Ls w vc l):
  Calls Tryz.prog 43 #[.agg (rB mo ba vc op oh ot st fe fp fh ft lo)] w fun e w'=>e=.returned (J (chkB ⟨mo,ba,l,op,oh,ot,st,fe,fp,fh,ft,lo⟩))∧Below w.heap.size w w':=by
 have HS:Hid (Ls w vc l):=h
 obtain⟨va,vk,rfl,-⟩:=h.shape
 clear h
 rcases tG (b:=⟨mo,ba,l,op,oh,ot,st,fe,fp,fh,ft,lo⟩) with ⟨hr,h1,h2,h3,h4⟩|⟨hr,hw⟩
 rotate_left
 ·have HE:Hid (chkB ⟨mo,ba,l,op,oh,ot,st,fe,fp,fh,ft,lo⟩=2):=by show _=_;rw[chkB,hr];rfl
  clear hr
  dsimp only at hw
  rcases hw with h1|⟨h1,h2⟩|⟨h1,h2,h3⟩|⟨h1,h2,h3,h4⟩
  all_goals
   go_enter Tryz.func43,Tryz.ntmps43
   go_wp2_with (first|(go_at_call 73;refine (fD _ _).mono ?_;rintro e w' ⟨rfl,rfl⟩)|(go_at_call 74;refine (jA _ _).mono ?_;rintro e w' ⟨rfl,rfl⟩))
   go_ret
   exact⟨aM HE.out.symm,aA (Below.refl _ _) _⟩
 dsimp only at h1 h2 h3 h4
 have HR:Hid (rngBr ⟨mo,ba,l,op,oh,ot,st,fe,fp,fh,ft,lo⟩=true):=hr
 clear hr
 go_enter Tryz.func43,Tryz.ntmps43
 go_wp2_with (first|(go_at_call 73;refine (fD _ _).mono ?_;rintro e w' ⟨rfl,rfl⟩)|(go_at_call 74;refine (jA _ _).mono ?_;rintro e w' ⟨rfl,rfl⟩))
 refine (dE _ l _ (HS.out.alloc _)).mono ?_
 rintro e w1 ⟨rfl,b1⟩
 have X0:=(Box.newAt (n:=w.heap.size) rfl 31 (rB mo ba (.slice va l.length vk) op oh ot st fe fp fh ft lo)).keep b1
 have B1:Hid (Below w.heap.size w w1):=aB (aA (Below.refl _ _) _) b1
 clear b1
 obtain⟨⟨q0,q1,q2,q3,q4,q5,q6,q7,q8,q9,q10,q11⟩,s0⟩:=X0.twelve
 by_cases hc:chkC l=0
 rotate_left
 ·have HE:Hid (chkB ⟨mo,ba,l,op,oh,ot,st,fe,fp,fh,ft,lo⟩=chkC l):=by show _=_;rw[chkB,if_pos HR.out,if_neg hc]
  have hq:(chkC l !=0)=true:=by simpa using hc
  go_wp2
  go_ret
  exact⟨aM HE.out.symm,B1.out⟩
 rw[hc]
 go_wp2_with fail
 refine (iH _ _ _ _).mono ?_
 rintro e w2 ⟨rfl,rfl⟩
 by_cases hk:chkR op oh ot=0
 rotate_left
 ·have HE:Hid (chkB ⟨mo,ba,l,op,oh,ot,st,fe,fp,fh,ft,lo⟩=chkR op oh ot):=by show _=_;rw[chkB,if_pos HR.out,if_pos hc,if_neg hk]
  have hq:(chkR op oh ot !=0)=true:=by simpa using hk
  go_wp2
  go_ret
  exact⟨aM HE.out.symm,aA B1.out _⟩
 have HE:Hid (chkB ⟨mo,ba,l,op,oh,ot,st,fe,fp,fh,ft,lo⟩=chkR fp fh ft):=by show _=_;rw[chkB,if_pos HR.out,if_pos hc,if_pos hk]
 rw[hk]
 go_wp2_with fail
 refine (iH _ _ _ _).mono ?_
 rintro e w2 ⟨rfl,rfl⟩
 go_wp2
 go_ret
 exact⟨aM HE.out.symm,aA (aA B1.out _) _⟩
set_option maxHeartbeats 2000000 in
theorem eT (v:Value)(zs:List Int)(mo ba op oh ot fe fp fh ft:Int)(st lo:Bool)(vc:Value)(l:List Ln)(w:World)(hs:Sl w v zs)(h:Ls w vc l):
  Calls Tryz.prog 85 #[.agg #[v],.agg (rB mo ba vc op oh ot st fe fp fh ft lo)] w fun e w'=>e=.returned (J (bothB zs ⟨mo,ba,l,op,oh,ot,st,fe,fp,fh,ft,lo⟩))∧Below w.heap.size w w':=by
 have HS:Hid (Ls w vc l):=h
 obtain⟨va,vk,rfl,-⟩:=h.shape
 clear h
 go_enter Tryz.func85,Tryz.ntmps85
 go_wp2_with fail
 refine (cE _ zs _ (hs.keep (aA (aA (Below.refl _ _) _) _))).mono ?_
 rintro e w1 ⟨rfl,b1⟩
 have X0:=(Box.newAt (n:=w.heap.size+1) (by simp) 31 (rB mo ba (.slice va l.length vk) op oh ot st fe fp fh ft lo)).keep b1
 have B1:Hid (Below w.heap.size w w1):=aB (aA (aA (Below.refl _ _) _) _) b1
 clear b1
 obtain⟨⟨q0,q1,q2,q3,q4,q5,q6,q7,q8,q9,q10,q11⟩,s0⟩:=X0.twelve
 by_cases hk:chk zs=0
 ·have HE:Hid (bothB zs ⟨mo,ba,l,op,oh,ot,st,fe,fp,fh,ft,lo⟩=chkB ⟨mo,ba,l,op,oh,ot,st,fe,fp,fh,ft,lo⟩):=if_pos hk
  rw[hk]
  go_wp2_with fail
  refine (cV mo ba op oh ot fe fp fh ft st lo (.slice va l.length vk) l _ (HS.out.keep B1.out)).mono ?_
  rintro e w2 ⟨rfl,b2⟩
  go_wp2
  go_ret
  exact⟨aM HE.out.symm,aB B1.out b2⟩
 ·have HE:Hid (bothB zs ⟨mo,ba,l,op,oh,ot,st,fe,fp,fh,ft,lo⟩=chk zs):=if_neg hk
  have hq:(chk zs !=0)=true:=by simpa using hk
  go_wp2
  go_ret
  exact⟨aM HE.out.symm,B1.out⟩
theorem tH (d p a:Int)(r x wr:Bool)(w:World):
  Calls Tryz.prog 121 #[.agg #[J d,J p,J a,.bool r,.bool x],.bool wr] w fun e w'=>
   e=.returned (.tuple #[J (if (wr&&!x)=true then 0 else a),J (if (wr&&!x)=true then 5 else 0)])∧Below w.heap.size w w':=by
 cases wr <;> cases x
 all_goals
  go_enter Tryz.func121,Tryz.ntmps121
  go_wp2
  first
   | exact bodyPost_ret (v:=.tuple #[J a,J 0]) (by simp[results,Tryz.results121,go_sem, *];done) rfl ⟨rfl,aA (Below.refl _ _) _⟩
   | exact bodyPost_ret (v:=.tuple #[J 0,J 5]) (by simp[results,Tryz.results121,go_sem, *];done) rfl ⟨rfl,aA (Below.refl _ _) _⟩
end Go.Proofs.YthlhocneggcekaaGreat
