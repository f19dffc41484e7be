/-
  Laid together: LineAt, FilledR, DroppedR.
-/
import Derived.Test.YthlhocneggcekaaGreatD10
namespace Go.Proofs.YthlhocneggcekaaGreat
open Go.RowKit
set_option maxHeartbeats 1000000 in
theorem tR (v:Value)(l:List Ln)(d p:Int)(w:World)(h:Ls w v l):
  Calls Tryz.prog 144 #[v,J d,J p] w fun e w'=>e=.returned (J (fndC l d p))∧Below w.heap.size w w':=by
 obtain⟨a,cap,rfl,hl,hm,h⟩:=h
 unfold maxLen at hm
 rcases h with rfl|⟨b,o,rfl,hb,hc⟩
 ·go_enter Tryz.func144,Tryz.ntmps144
  go_wp2
  go_loopw [7,8,11] (fun _ _ i w'=>i=J 0∧w'=w) (fun _ _ i _=>0)
  case atStart=>exact⟨rfl,rfl⟩
  case round=>
   obtain⟨rfl,rfl⟩:=hrel
   go_wp2
   go_ret
   exact⟨aM (fL (fun j hj=>absurd hj (Nat.not_lt_zero _))).symm,Below.refl _ _⟩
 ·have HC:Hid _:=hc
  clear hc
  go_enter Tryz.func144,Tryz.ntmps144
  go_wp2
  go_loopw [7,8,11] (fun _ _ i w'=>∃k:Nat,k≤l.length∧i=J k∧(∀j,j<k→hasB d p (lth l j)=false)∧Below w.heap.size w w') (fun _ _ i _=>l.length-(intOf i).toNat)
  case atStart=>exact⟨0,Nat.zero_le _,rfl,fun j hj=>absurd hj (Nat.not_lt_zero _),Below.refl _ _⟩
  case round=>
   obtain⟨k,hk,rfl,hpre,hB⟩:=hrel
   have HP:Hid _:=hpre
   have HB:Hid _:=hB
   by_cases hlt:k<l.length
   ·obtain⟨g0,g1,g2,g3,g4⟩:=(HC.out k hlt).keep hB hb
    have hb':b<wr.heap.size:=Nat.lt_of_lt_of_le hb hB.size
    obtain⟨y,hy⟩:∃y,y=lth l k:=⟨_,rfl⟩
    have HY:Hid _:=hy
    rw[←hy] at g0 g1 g2 g3 g4
    clear hy hpre hB
    obtain⟨d1,p1,a1,r1,x1⟩:=y
    simp only at g0 g1 g2 g3 g4
    have hlt1:(k:Int)<l.length:=by omega
    by_cases e1:d1=d
    ·by_cases e2:p1=p
     ·subst e1 e2
      have HF:Hid (fndC l d1 p1=k):=kU hlt (by rw[←HY.out];simp[hasB]) HP.out
      go_wp2
      go_ret
      exact⟨aM HF.out.symm,aA HB.out _⟩
     ·have q1:(d1==d)=true:=by simpa using e1
      have q2:(p1==p)=false:=by simpa using e2
      have HN:Hid (hasB d p (lth l k)=false):=by show _=_;rw[←HY.out];simp[hasB,e2]
      clear e1 e2
      go_wp2
      exact⟨⟨k+1,by omega,by go_num,dI HP.out HN.out,aA HB.out _⟩,by simp[intOf];omega⟩
    ·have q1:(d1==d)=false:=by simpa using e1
     have HN:Hid (hasB d p (lth l k)=false):=by show _=_;rw[←HY.out];simp[hasB,e1]
     clear e1
     go_wp2
     exact⟨⟨k+1,by omega,by go_num,dI HP.out HN.out,aA HB.out _⟩,by simp[intOf];omega⟩
   ·have HF:Hid (fndC l d p=-1):=fL fun j hj=>HP.out j (by omega)
    clear hpre hB
    go_wp2
    go_ret
    exact⟨aM HF.out.symm,HB.out⟩
set_option maxHeartbeats 1000000 in
theorem tS (v:Value)(l:List Ln)(d p a:Int)(r x:Bool)(w:World)(h:Ls w v l):
  Calls Tryz.prog 117 #[v,.agg #[J d,J p,J a,.bool r,.bool x]] w fun e w'=>(∃v',e=.returned (.tuple #[v',J (flE l (d,p,a,r,x))])∧Ls w' v' (flC l (d,p,a,r,x))∧Fresh w.heap.size v')∧Below w.heap.size w w':=by
 have HL:Hid (Ls w v l):=h
 obtain⟨a0,cap,rfl,hl,hm,h⟩:=h
 unfold maxLen at hm
 go_enter Tryz.func117,Tryz.ntmps117
 go_wp2_with fail
 refine (bT _ l _ (HL.out.keep (aA (Below.refl _ _) _))).mono ?_
 rintro e w1 ⟨rfl,b1⟩
 have K1:=(Blk.new w #[J d,J p,J a,.bool r,.bool x] 52 (0,0)).keep b1
 have B1:Hid (Below w.heap.size w w1):=aB (aA (Below.refl _ _) _) b1
 clear b1
 by_cases hc:chkC l=0
 rotate_left
 ·have hq:(chkC l !=0)=true:=by simpa using hc
  have HE:Hid (flE l (d,p,a,r,x)=chkC l):=by unfold flE;exact if_neg hc
  have HF:Hid (flC l (d,p,a,r,x)=[]):=by unfold flC;exact if_neg (by rw[HE.out];exact hc)
  go_wp2
  refine bodyPost_ret (v:=.tuple #[.slice none 0 0,J (chkC l)]) (by simp[results,Tryz.results117,go_sem]) rfl ⟨⟨_,by rw[HE.out],by rw[HF.out];exact Ls.nothing _,Fresh.none _ _ _⟩,B1.out⟩
 rw[hc]
 obtain⟨c0,c1,c2,c3,c4⟩:=K1.five
 have s1:=K1.lt
 go_wp2_with fail
 refine (bT _ [(d,p,a,r,x)] _ (yS _ _ _ _ _ _ _)).mono ?_
 rw[eR]
 rintro e w2 ⟨rfl,b2⟩
 have K2:=(K1.past _).keep b2
 have B2:Hid (Below w.heap.size w w2):=aB (aA B1.out _) b2
 clear B1 K1 b2 c0 c1 c2 c3 c4 s1
 obtain⟨c0,c1,c2,c3,c4⟩:=K2.five
 have s1:=K2.lt
 by_cases ho:own (d,p,a,r,x)=0
 rotate_left
 ·have hq:(own (d,p,a,r,x) !=0)=true:=by simpa using ho
  have HE:Hid (flE l (d,p,a,r,x)=own (d,p,a,r,x)):=by
   unfold flE
   rw[if_pos hc,eR,if_neg ho]
   rfl
  have HF:Hid (flC l (d,p,a,r,x)=[]):=by unfold flC;exact if_neg (by rw[HE.out];exact ho)
  generalize own (d,p,a,r,x)=z at *
  go_wp2
  refine bodyPost_ret (v:=.tuple #[.slice none 0 0,J z]) (by simp[results,Tryz.results117,go_sem]) rfl ⟨⟨_,by rw[HE.out],by rw[HF.out];exact Ls.nothing _,Fresh.none _ _ _⟩,B2.out⟩
 rw[ho]
 go_wp2_with fail
 refine (tR _ l d p _ (HL.out.keep B2.out)).mono ?_
 rintro e wx ⟨rfl,b3⟩
 have K3:=K2.keep b3
 have B3:Hid (Below w.heap.size w wx):=aB B2.out b3
 clear B2 K2 b3 c0 c1 c2 c3 c4 s1
 obtain⟨c0,c1,c2,c3,c4⟩:=K3.five
 have s1:=K3.lt
 by_cases hf:0≤fndC l d p
 ·have HE:Hid (flE l (d,p,a,r,x)=5):=by
   unfold flE
   rw[if_pos hc,eR,if_pos ho]
   exact if_pos hf
  have HF:Hid (flC l (d,p,a,r,x)=[]):=by unfold flC;exact if_neg (by rw[HE.out];decide)
  go_wp2
  refine bodyPost_ret (v:=.tuple #[.slice none 0 0,J 5]) (by simp[results,Tryz.results117,go_sem]) rfl ⟨⟨_,by rw[HE.out],by rw[HF.out];exact Ls.nothing _,Fresh.none _ _ _⟩,B3.out⟩
 have HE:Hid (flE l (d,p,a,r,x)=0):=by
  unfold flE
  rw[if_pos hc,eR,if_pos ho]
  exact if_neg hf
 have HF:Hid (flC l (d,p,a,r,x)=oldC l++[(d,p,a,r,x)]):=sZ HE.out
 have h6:l.length≤6:=(aW.1 hc).1
 have HT0:Hid (Ls wx (.slice a0 l.length cap) l):=HL.out.keep B3.out
 clear HL K3
 obtain⟨m,hm'⟩:∃m,m=oldC l:=⟨_,rfl⟩
 have HM:Hid (m=oldC l):=hm'
 have hm5:m.length≤5:=by rw[hm'];exact (lJ h6).1
 clear hm'
 by_cases hl6:l.length=6
 ·rcases h with rfl|⟨b,o,rfl,hb,_⟩
  ·exact absurd hl6 (by simp)
  have HT:Hid (Ls wx (.slice (some ⟨b,o+5,none⟩) 5 (cap-1)) m):=by
   have:=HT0.out.drop (k:=1) (by omega)
   rw[HM.out,oldC,if_pos hl6]
   rw[hl6] at this
   exact this
  rw[hl6] at hl ⊢
  have z1:(1:Int)≤cap:=by omega
  have z2:(6:Int)≤cap:=by omega
  have z3:¬cap=1:=by omega
  have z4:1≤cap:=by omega
  go_wp2
  go_region_held3 (fun w'=>w'.cell? ⟨w.heap.size,0,none⟩=some (J d)∧w'.cell? ⟨w.heap.size,1,none⟩=some (J p)∧w'.cell? ⟨w.heap.size,2,none⟩=some (J a)∧w'.cell? ⟨w.heap.size,3,none⟩=some (.bool r)∧w'.cell? ⟨w.heap.size,4,none⟩=some (.bool x)∧Below wx.heap.size wx w')
   (with_reducible refine keep5 (by assumption) (by assumption) (by assumption) (by assumption) (by assumption) (by assumption) ?_;(repeat (first|with_reducible assumption|(with_reducible (refine limb5 (?_:_∧_∧_∧_∧_∧_);assumption))|with_reducible exact Below.refl _ _|with_reducible refine Below.drew ?_|with_reducible refine aH ?_ _|with_reducible refine aA ?_ _|with_reducible refine Below.trans ?_ (by assumption))))
   (first
    | (refine bQ rfl (.tmp 31) (.tmp 32) rfl wx.heap.size (.slice (some ⟨_,0,none⟩) 0 0) _ [] m rfl rfl ?_ ?_ (by first|(simp;done)|(simp;omega)) (by first|(simp;done)|(simp;omega)) (.inl ⟨_,_,_,rfl⟩) ?_;(focus (first|exact OwnL.litAt (by simp) _ (by simp)|exact (OwnL.litAt (by simp) _ (by simp)).alloc _));(focus (first|exact HT.out.keep (aA (aA (Below.drew (Below.refl _ _)) _) _)|exact HT.out.keep (aA (Below.drew (Below.refl _ _)) _)));intro g cg w4 hown hgr hbel _)
    | (refine bQ rfl (.tmp 33) (.tmp 35) rfl wx.heap.size (.slice (some ⟨_,0,none⟩) _ _) (.slice (some ⟨_,0,none⟩) 1 1) m [(d,p,a,r,x)] rfl rfl ?_ ?_ (by simp;omega) (by have hs4:=hgr.size;simp at hs4 ⊢;omega) (.inl ⟨_,_,_,rfl⟩) ?_;(focus (first|exact hown|exact hown.alloc _));(focus (first|exact bR (by simp) _ _ _ _ _ _|(refine Ls.grown ?_ hgr (by simp[Value.ownBlock]);first|exact bR (by simp) _ _ _ _ _ _|exact Ls.alloc (bR (by simp) _ _ _ _ _ _) _)));intro g2 cg2 w5 hown2 _ hbel2 _))
  all_goals
   rename_i hH
   have HB5:Hid (Below wx.heap.size wx w5):=limb5 hH
   have HO2:Hid _:=hown2
   have HG2:Hid (w.heap.size≤g2):=Nat.le_trans B3.out.size (hown2.base g2 rfl)
   clear hH hown2 hown hgr hbel hbel2
   go_wp2
   refine bodyPost_ret (v:=.tuple #[.slice (some ⟨g2,0,none⟩) (m.length+1) cg2,J 0]) (by simp[results,Tryz.results117,go_sem]) rfl ⟨⟨_,by rw[HE.out],?_,bJ HG2.out _ _ _⟩,aB B3.out HB5.out⟩
   rw[HF.out,←HM.out]
   simpa using OwnL.ls HO2.out
 ·have hq6:((l.length:Int)==6)=false:=by simp;omega
  have HT:Hid (Ls wx (.slice a0 l.length cap) m):=by
   rw[HM.out,oldC,if_neg hl6]
   exact HT0.out
  go_wp2
  go_region_held3 (fun w'=>w'.cell? ⟨w.heap.size,0,none⟩=some (J d)∧w'.cell? ⟨w.heap.size,1,none⟩=some (J p)∧w'.cell? ⟨w.heap.size,2,none⟩=some (J a)∧w'.cell? ⟨w.heap.size,3,none⟩=some (.bool r)∧w'.cell? ⟨w.heap.size,4,none⟩=some (.bool x)∧Below wx.heap.size wx w')
   (with_reducible refine keep5 (by assumption) (by assumption) (by assumption) (by assumption) (by assumption) (by assumption) ?_;(repeat (first|with_reducible assumption|(with_reducible (refine limb5 (?_:_∧_∧_∧_∧_∧_);assumption))|with_reducible exact Below.refl _ _|with_reducible refine Below.drew ?_|with_reducible refine aH ?_ _|with_reducible refine aA ?_ _|with_reducible refine Below.trans ?_ (by assumption))))
   (first
    | (refine bQ rfl (.tmp 31) (.tmp 32) rfl wx.heap.size (.slice (some ⟨_,0,none⟩) 0 0) _ [] m rfl rfl ?_ ?_ (by first|(simp;done)|(simp;omega)) (by first|(simp;done)|(simp;omega)) (.inl ⟨_,_,_,rfl⟩) ?_;(focus (first|exact OwnL.litAt (by simp) _ (by simp)|exact (OwnL.litAt (by simp) _ (by simp)).alloc _));(focus (first|exact HT.out.keep (aA (aA (Below.drew (Below.refl _ _)) _) _)|exact HT.out.keep (aA (Below.drew (Below.refl _ _)) _)));intro g cg w4 hown hgr hbel _)
    | (refine bQ rfl (.tmp 33) (.tmp 35) rfl wx.heap.size (.slice (some ⟨_,0,none⟩) _ _) (.slice (some ⟨_,0,none⟩) 1 1) m [(d,p,a,r,x)] rfl rfl ?_ ?_ (by simp;omega) (by have hs4:=hgr.size;simp at hs4 ⊢;omega) (.inl ⟨_,_,_,rfl⟩) ?_;(focus (first|exact hown|exact hown.alloc _));(focus (first|exact bR (by simp) _ _ _ _ _ _|(refine Ls.grown ?_ hgr (by simp[Value.ownBlock]);first|exact bR (by simp) _ _ _ _ _ _|exact Ls.alloc (bR (by simp) _ _ _ _ _ _) _)));intro g2 cg2 w5 hown2 _ hbel2 _))
  all_goals
   rename_i hH
   have HB5:Hid (Below wx.heap.size wx w5):=limb5 hH
   have HO2:Hid _:=hown2
   have HG2:Hid (w.heap.size≤g2):=Nat.le_trans B3.out.size (hown2.base g2 rfl)
   clear hH hown2 hown hgr hbel hbel2
   go_wp2
   refine bodyPost_ret (v:=.tuple #[.slice (some ⟨g2,0,none⟩) (m.length+1) cg2,J 0]) (by simp[results,Tryz.results117,go_sem]) rfl ⟨⟨_,by rw[HE.out],?_,bJ HG2.out _ _ _⟩,aB B3.out HB5.out⟩
   rw[HF.out,←HM.out]
   simpa using OwnL.ls HO2.out
set_option maxHeartbeats 1000000 in
theorem rR (v:Value)(l:List Ln)(k d p:Int)(w:World)(h:Ls w v l)(hc:¬chkC l=0):
  Calls Tryz.prog 81 #[v,.agg #[J k,J d,J p]] w fun e w'=>(∃v',e=.returned (.tuple #[v',J (drE l k)])∧Ls w' v' (drC l k d p)∧Fresh w.heap.size v')∧Below w.heap.size w w':=by
 have HL:Hid (Ls w v l):=h
 obtain⟨a0,cap,rfl,hl,hm,h⟩:=h
 have hq:(chkC l !=0)=true:=by simpa using hc
 have HE:Hid (drE l k=chkC l):=by unfold drE;exact if_neg hc
 have HF:Hid (drC l k d p=[]):=by unfold drC;exact if_neg (by rw[HE.out];exact hc)
 clear hc
 go_enter Tryz.func81,Tryz.ntmps81
 go_wp2_with fail
 refine (bT _ l _ (HL.out.keep (aA (Below.refl _ _) _))).mono ?_
 rintro e w1 ⟨rfl,b1⟩
 have B1:Hid (Below w.heap.size w w1):=aB (aA (Below.refl _ _) _) b1
 clear b1
 generalize chkC l=z at *
 go_wp2
 refine bodyPost_ret (v:=.tuple #[.slice none 0 0,J z]) (by simp[results,Tryz.results81,go_sem]) rfl ⟨⟨_,by rw[HE.out],by rw[HF.out];exact Ls.nothing _,Fresh.none _ _ _⟩,B1.out⟩
set_option maxHeartbeats 1000000 in
theorem rT (v:Value)(l:List Ln)(k d p:Int)(w:World)(h:Ls w v l)(hc:chkC l=0)(hk:¬(0≤k∧k≤3)):
  Calls Tryz.prog 81 #[v,.agg #[J k,J d,J p]] w fun e w'=>(∃v',e=.returned (.tuple #[v',J (drE l k)])∧Ls w' v' (drC l k d p)∧Fresh w.heap.size v')∧Below w.heap.size w w':=by
 have HL:Hid (Ls w v l):=h
 have h6:l.length≤6:=(aW.1 hc).1
 obtain⟨a0,cap,rfl,hl,hm,h⟩:=h
 unfold maxLen at hm
 have HE:Hid (drE l k=3):=by unfold drE;rw[if_pos hc,if_neg hk];rfl
 have HF:Hid (drC l k d p=[]):=by unfold drC;exact if_neg (by rw[HE.out];decide)
 have hin:inB k 0 3=false:=by unfold inB;exact decide_eq_false hk
 go_enter Tryz.func81,Tryz.ntmps81
 go_wp2_with fail
 refine (bT _ l _ (HL.out.keep (aA (Below.refl _ _) _))).mono ?_
 rw[hc]
 rintro e wp0 ⟨rfl,b1⟩
 have K1:=(Blk.new w #[J k,J d,J p] 115 (0,0)).keep b1
 have HB2:Hid (Below w.heap.size w wp0):=aB (aA (Below.refl _ _) _) b1
 obtain⟨c0,c1,c2⟩:=K1.three
 have s1:=K1.lt
 have HK1:Hid _:=K1
 clear b1 K1
 go_wp2_with fail
 refine (dV _ _ _ _).mono ?_
 rw[hin]
 rintro e wq ⟨rfl,rfl⟩
 go_wp2
 refine bodyPost_ret (v:=.tuple #[.slice none 0 0,J 3]) (by simp[results,Tryz.results81,go_sem]) rfl ⟨⟨_,by rw[HE.out],by rw[HF.out];exact Ls.nothing _,Fresh.none _ _ _⟩,HB2.out⟩
set_option maxHeartbeats 1000000 in
theorem wP (v:Value)(l:List Ln)(d p:Int)(w:World)(h:Ls w v l)(hc:chkC l=0):
  Calls Tryz.prog 81 #[v,.agg #[J (0:Int),J d,J p]] w fun e w'=>(∃v',e=.returned (.tuple #[v',J (drE l (0:Int))])∧Ls w' v' (drC l (0:Int) d p)∧Fresh w.heap.size v')∧Below w.heap.size w w':=by
 have HL:Hid (Ls w v l):=h
 have h6:l.length≤6:=(aW.1 hc).1
 obtain⟨a0,cap,rfl,hl,hm,h⟩:=h
 unfold maxLen at hm
 have HE:Hid (drE l 0=0):=(dK (d:=d) (p:=p) hc (by omega)).1
 have HF:Hid (drC l 0 d p=kpt l 0 d p l.length):=(dK hc (by omega)).2
 have hin:inB (0:Int) 0 3=true:=by decide
 go_enter Tryz.func81,Tryz.ntmps81
 go_wp2_with fail
 refine (bT _ l _ (HL.out.keep (aA (Below.refl _ _) _))).mono ?_
 rw[hc]
 rintro e wp0 ⟨rfl,b1⟩
 have K1:=(Blk.new w #[J (0:Int),J d,J p] 115 (0,0)).keep b1
 have HB2:Hid (Below w.heap.size w wp0):=aB (aA (Below.refl _ _) _) b1
 obtain⟨c0,c1,c2⟩:=K1.three
 have s1:=K1.lt
 have HK1:Hid _:=K1
 clear b1 K1
 go_wp2_with fail
 refine (dV _ _ _ _).mono ?_
 rw[hin]
 rintro e wq ⟨rfl,rfl⟩
 have HLq:Hid (Ls wq (.slice a0 l.length cap) l):=HL.out.keep HB2.out
 clear HL c0 c1 c2
 rcases h with rfl|⟨b,o,rfl,hb,_⟩
 ·go_wp2
  go_loopw [7,9,10,22] (fun v9 _ _ i w'=>v9=.slice none 0 0∧i=J 0∧w'=wq) (fun _ _ _ i _=>0)
  case atStart=>exact⟨rfl,rfl,rfl⟩
  case round=>
   obtain⟨rfl,rfl,rfl⟩:=hrel
   go_wp2
   refine bodyPost_ret (v:=.tuple #[.slice none 0 0,J 0]) (by simp[results,Tryz.results81,go_sem]) rfl ⟨⟨_,by rw[HE.out],?_⟩,HB2.out⟩
   rw[HF.out]
   exact⟨Ls.nothing _,Fresh.none _ _ _⟩
 ·go_wp2
  go_loopw [7,9,10,22] (fun v9 _ _ i w'=>∃(j:Nat) (a9:Option Addr) (c9:Nat),j≤l.length∧i=J j∧v9=.slice a9 (kpt l 0 d p j).length c9∧OwnL w' wq.heap.size v9 (kpt l 0 d p j)∧Below wq.heap.size wq w') (fun _ _ _ i _=>l.length-(intOf i).toNat)
  case atStart=>exact⟨0,_,_,Nat.zero_le _,rfl,by rw[cC];rfl,by rw[cC];exact OwnL.nothing _ _,Below.refl _ _⟩
  case round=>
   obtain⟨j,a9,c9,hj,rfl,rfl,hO,hB⟩:=hrel
   have HO:Hid (OwnL wr wq.heap.size (.slice a9 (kpt l 0 d p j).length c9) (kpt l 0 d p j)):=hO
   have HB:Hid (Below wq.heap.size wq wr):=hB
   have hkl:(kpt l 0 d p j).length≤6:=Nat.le_trans (fC _ _ _ _ _) h6
   by_cases hlt:j<l.length
   ·have hx:=HLq.out.keep hB
    obtain⟨a',cap',e',_,_,hx⟩:=hx
    rcases hx with hx|⟨b',o',e2,hb',hc'⟩
    ·rw[hx] at hlt;exact absurd hlt (Nat.not_lt_zero _)
    simp only[Value.slice.injEq] at e'
    obtain⟨rfl,_,rfl⟩:=e'
    simp only[Option.some.injEq,Addr.mk.injEq,and_true] at e2
    obtain⟨rfl,rfl⟩:=e2
    obtain⟨g0,g1,g2,g3,g4⟩:=hc' j hlt
    clear hc'
    obtain⟨y,hy⟩:∃y,y=lth l j:=⟨_,rfl⟩
    have HY:Hid (y=lth l j):=hy
    rw[←hy] at g0 g1 g2 g3 g4
    clear hy
    obtain⟨c0,c1,c2⟩:=(Blk.keep HK1.out hB).three
    have s2:w.heap.size<wr.heap.size:=Nat.lt_of_lt_of_le s1 hB.size
    have hszq:Hid (wq.heap.size≤wr.heap.size):=hB.size
    clear hB hO
    obtain⟨d1,p1,a1,r1,x1⟩:=y
    simp only at g0 g1 g2 g3 g4
    have hlt1:(j:Int)<l.length:=by omega
    have hg:Hid (goesB 0 d p (d1,p1,a1,r1,x1)=false):=goes0 d p (d1,p1,a1,r1,x1)
    have HK:Hid (kpt l 0 d p (j+1)=kpt l 0 d p j++[(d1,p1,a1,r1,x1)]):=by show _=_;rw[eS hlt (by rw[←HY.out];exact hg.out),←HY.out]
    generalize hkj:kpt l 0 d p j=kj at *
    go_wp2_with (first|(at_builtin;refine bM rfl (.tmp 62) (.tmp 64) rfl wq.heap.size _ _ kj [(d1,p1,a1,r1,x1)] rfl rfl ((HO.out.alloc _).alloc _) (bR (by simp) _ _ _ _ _ _) (by simp;omega) (by have:=hszq.out;simp;omega) (.inr (by simp)) ?_))
    intro g9 cg9 w9 hown9 _ hbel9 _
    have HN9:Hid ((kj++[(d1,p1,a1,r1,x1)]).length=kj.length+1):=by show _=_;simp
    have HO9:Hid (OwnL w9 wq.heap.size (.slice (some ⟨g9,0,none⟩) (kj.length+1) cg9) (kj++[(d1,p1,a1,r1,x1)])):=hown9
    have HB9:Hid (Below wq.heap.size wq w9):=(aA (aA HB.out _) _).trans hbel9
    clear hown9 hbel9
    go_wp2
    exact⟨⟨j+1,some ⟨g9,0,none⟩,cg9,by omega,by go_num,by rw[HK.out,HN9.out],by rw[HK.out];exact HO9.out,HB9.out⟩,by simp[intOf];omega⟩
   ·obtain rfl:j=l.length:=by omega
    clear hB hO
    go_wp2
    refine bodyPost_ret (v:=.tuple #[.slice a9 (kpt l 0 d p l.length).length c9,J 0]) (by simp[results,Tryz.results81,go_sem]) rfl ⟨⟨_,by rw[HE.out],?_,fun q hq=>by have:=OwnL.base HO.out q hq;have:=HB2.out.size;omega⟩,aB HB2.out HB.out⟩
    rw[HF.out]
    exact OwnL.ls HO.out
set_option maxHeartbeats 1000000 in
theorem wQ (v:Value)(l:List Ln)(d p:Int)(w:World)(h:Ls w v l)(hc:chkC l=0):
  Calls Tryz.prog 81 #[v,.agg #[J (1:Int),J d,J p]] w fun e w'=>(∃v',e=.returned (.tuple #[v',J (drE l (1:Int))])∧Ls w' v' (drC l (1:Int) d p)∧Fresh w.heap.size v')∧Below w.heap.size w w':=by
 have HL:Hid (Ls w v l):=h
 have h6:l.length≤6:=(aW.1 hc).1
 obtain⟨a0,cap,rfl,hl,hm,h⟩:=h
 unfold maxLen at hm
 have HE:Hid (drE l 1=0):=(dK (d:=d) (p:=p) hc (by omega)).1
 have HF:Hid (drC l 1 d p=kpt l 1 d p l.length):=(dK hc (by omega)).2
 have hin:inB (1:Int) 0 3=true:=by decide
 go_enter Tryz.func81,Tryz.ntmps81
 go_wp2_with fail
 refine (bT _ l _ (HL.out.keep (aA (Below.refl _ _) _))).mono ?_
 rw[hc]
 rintro e wp0 ⟨rfl,b1⟩
 have K1:=(Blk.new w #[J (1:Int),J d,J p] 115 (0,0)).keep b1
 have HB2:Hid (Below w.heap.size w wp0):=aB (aA (Below.refl _ _) _) b1
 obtain⟨c0,c1,c2⟩:=K1.three
 have s1:=K1.lt
 have HK1:Hid _:=K1
 clear b1 K1
 go_wp2_with fail
 refine (dV _ _ _ _).mono ?_
 rw[hin]
 rintro e wq ⟨rfl,rfl⟩
 have HLq:Hid (Ls wq (.slice a0 l.length cap) l):=HL.out.keep HB2.out
 clear HL c0 c1 c2
 rcases h with rfl|⟨b,o,rfl,hb,_⟩
 ·go_wp2
  go_loopw [7,9,10,22] (fun v9 _ _ i w'=>v9=.slice none 0 0∧i=J 0∧w'=wq) (fun _ _ _ i _=>0)
  case atStart=>exact⟨rfl,rfl,rfl⟩
  case round=>
   obtain⟨rfl,rfl,rfl⟩:=hrel
   go_wp2
   refine bodyPost_ret (v:=.tuple #[.slice none 0 0,J 0]) (by simp[results,Tryz.results81,go_sem]) rfl ⟨⟨_,by rw[HE.out],?_⟩,HB2.out⟩
   rw[HF.out]
   exact⟨Ls.nothing _,Fresh.none _ _ _⟩
 ·go_wp2
  go_loopw [7,9,10,22] (fun v9 _ _ i w'=>∃(j:Nat) (a9:Option Addr) (c9:Nat),j≤l.length∧i=J j∧v9=.slice a9 (kpt l 1 d p j).length c9∧OwnL w' wq.heap.size v9 (kpt l 1 d p j)∧Below wq.heap.size wq w') (fun _ _ _ i _=>l.length-(intOf i).toNat)
  case atStart=>exact⟨0,_,_,Nat.zero_le _,rfl,by rw[cC];rfl,by rw[cC];exact OwnL.nothing _ _,Below.refl _ _⟩
  case round=>
   obtain⟨j,a9,c9,hj,rfl,rfl,hO,hB⟩:=hrel
   have HO:Hid (OwnL wr wq.heap.size (.slice a9 (kpt l 1 d p j).length c9) (kpt l 1 d p j)):=hO
   have HB:Hid (Below wq.heap.size wq wr):=hB
   have hkl:(kpt l 1 d p j).length≤6:=Nat.le_trans (fC _ _ _ _ _) h6
   by_cases hlt:j<l.length
   ·have hx:=HLq.out.keep hB
    obtain⟨a',cap',e',_,_,hx⟩:=hx
    rcases hx with hx|⟨b',o',e2,hb',hc'⟩
    ·rw[hx] at hlt;exact absurd hlt (Nat.not_lt_zero _)
    simp only[Value.slice.injEq] at e'
    obtain⟨rfl,_,rfl⟩:=e'
    simp only[Option.some.injEq,Addr.mk.injEq,and_true] at e2
    obtain⟨rfl,rfl⟩:=e2
    obtain⟨g0,g1,g2,g3,g4⟩:=hc' j hlt
    clear hc'
    obtain⟨y,hy⟩:∃y,y=lth l j:=⟨_,rfl⟩
    have HY:Hid (y=lth l j):=hy
    rw[←hy] at g0 g1 g2 g3 g4
    clear hy
    obtain⟨c0,c1,c2⟩:=(Blk.keep HK1.out hB).three
    have s2:w.heap.size<wr.heap.size:=Nat.lt_of_lt_of_le s1 hB.size
    have hszq:Hid (wq.heap.size≤wr.heap.size):=hB.size
    clear hB hO
    obtain⟨d1,p1,a1,r1,x1⟩:=y
    simp only at g0 g1 g2 g3 g4
    have hlt1:(j:Int)<l.length:=by omega
    have hg:Hid (goesB 1 d p (d1,p1,a1,r1,x1)=true):=goes1 d p (d1,p1,a1,r1,x1)
    have HK:Hid (kpt l 1 d p (j+1)=kpt l 1 d p j):=fO hlt (by rw[←HY.out];exact hg.out)
    go_wp2
    exact⟨⟨j+1,_,_,by omega,by go_num,by rw[HK.out],by rw[HK.out];exact OwnL.alloc HO.out _,aA HB.out _⟩,by simp[intOf];omega⟩
   ·obtain rfl:j=l.length:=by omega
    clear hB hO
    go_wp2
    refine bodyPost_ret (v:=.tuple #[.slice a9 (kpt l 1 d p l.length).length c9,J 0]) (by simp[results,Tryz.results81,go_sem]) rfl ⟨⟨_,by rw[HE.out],?_,fun q hq=>by have:=OwnL.base HO.out q hq;have:=HB2.out.size;omega⟩,aB HB2.out HB.out⟩
    rw[HF.out]
    exact OwnL.ls HO.out
set_option maxHeartbeats 1000000 in
theorem wR (v:Value)(l:List Ln)(d p:Int)(w:World)(h:Ls w v l)(hc:chkC l=0):
  Calls Tryz.prog 81 #[v,.agg #[J (2:Int),J d,J p]] w fun e w'=>(∃v',e=.returned (.tuple #[v',J (drE l (2:Int))])∧Ls w' v' (drC l (2:Int) d p)∧Fresh w.heap.size v')∧Below w.heap.size w w':=by
 have HL:Hid (Ls w v l):=h
 have h6:l.length≤6:=(aW.1 hc).1
 obtain⟨a0,cap,rfl,hl,hm,h⟩:=h
 unfold maxLen at hm
 have HE:Hid (drE l 2=0):=(dK (d:=d) (p:=p) hc (by omega)).1
 have HF:Hid (drC l 2 d p=kpt l 2 d p l.length):=(dK hc (by omega)).2
 have hin:inB (2:Int) 0 3=true:=by decide
 go_enter Tryz.func81,Tryz.ntmps81
 go_wp2_with fail
 refine (bT _ l _ (HL.out.keep (aA (Below.refl _ _) _))).mono ?_
 rw[hc]
 rintro e wp0 ⟨rfl,b1⟩
 have K1:=(Blk.new w #[J (2:Int),J d,J p] 115 (0,0)).keep b1
 have HB2:Hid (Below w.heap.size w wp0):=aB (aA (Below.refl _ _) _) b1
 obtain⟨c0,c1,c2⟩:=K1.three
 have s1:=K1.lt
 have HK1:Hid _:=K1
 clear b1 K1
 go_wp2_with fail
 refine (dV _ _ _ _).mono ?_
 rw[hin]
 rintro e wq ⟨rfl,rfl⟩
 have HLq:Hid (Ls wq (.slice a0 l.length cap) l):=HL.out.keep HB2.out
 clear HL c0 c1 c2
 rcases h with rfl|⟨b,o,rfl,hb,_⟩
 ·go_wp2
  go_loopw [7,9,10,22] (fun v9 _ _ i w'=>v9=.slice none 0 0∧i=J 0∧w'=wq) (fun _ _ _ i _=>0)
  case atStart=>exact⟨rfl,rfl,rfl⟩
  case round=>
   obtain⟨rfl,rfl,rfl⟩:=hrel
   go_wp2
   refine bodyPost_ret (v:=.tuple #[.slice none 0 0,J 0]) (by simp[results,Tryz.results81,go_sem]) rfl ⟨⟨_,by rw[HE.out],?_⟩,HB2.out⟩
   rw[HF.out]
   exact⟨Ls.nothing _,Fresh.none _ _ _⟩
 ·go_wp2
  go_loopw [7,9,10,22] (fun v9 _ _ i w'=>∃(j:Nat) (a9:Option Addr) (c9:Nat),j≤l.length∧i=J j∧v9=.slice a9 (kpt l 2 d p j).length c9∧OwnL w' wq.heap.size v9 (kpt l 2 d p j)∧Below wq.heap.size wq w') (fun _ _ _ i _=>l.length-(intOf i).toNat)
  case atStart=>exact⟨0,_,_,Nat.zero_le _,rfl,by rw[cC];rfl,by rw[cC];exact OwnL.nothing _ _,Below.refl _ _⟩
  case round=>
   obtain⟨j,a9,c9,hj,rfl,rfl,hO,hB⟩:=hrel
   have HO:Hid (OwnL wr wq.heap.size (.slice a9 (kpt l 2 d p j).length c9) (kpt l 2 d p j)):=hO
   have HB:Hid (Below wq.heap.size wq wr):=hB
   have hkl:(kpt l 2 d p j).length≤6:=Nat.le_trans (fC _ _ _ _ _) h6
   by_cases hlt:j<l.length
   ·have hx:=HLq.out.keep hB
    obtain⟨a',cap',e',_,_,hx⟩:=hx
    rcases hx with hx|⟨b',o',e2,hb',hc'⟩
    ·rw[hx] at hlt;exact absurd hlt (Nat.not_lt_zero _)
    simp only[Value.slice.injEq] at e'
    obtain⟨rfl,_,rfl⟩:=e'
    simp only[Option.some.injEq,Addr.mk.injEq,and_true] at e2
    obtain⟨rfl,rfl⟩:=e2
    obtain⟨g0,g1,g2,g3,g4⟩:=hc' j hlt
    clear hc'
    obtain⟨y,hy⟩:∃y,y=lth l j:=⟨_,rfl⟩
    have HY:Hid (y=lth l j):=hy
    rw[←hy] at g0 g1 g2 g3 g4
    clear hy
    obtain⟨c0,c1,c2⟩:=(Blk.keep HK1.out hB).three
    have s2:w.heap.size<wr.heap.size:=Nat.lt_of_lt_of_le s1 hB.size
    have hszq:Hid (wq.heap.size≤wr.heap.size):=hB.size
    clear hB hO
    obtain⟨d1,p1,a1,r1,x1⟩:=y
    simp only at g0 g1 g2 g3 g4
    have hlt1:(j:Int)<l.length:=by omega
    by_cases e1:d1=d
    ·have hg:Hid (goesB 2 d p (d1,p1,a1,r1,x1)=true):=by show _=_;rw[goes2];simp[e1]
     have q1:(d1==d)=true:=by simpa using e1
     clear e1
     have HK:Hid (kpt l 2 d p (j+1)=kpt l 2 d p j):=fO hlt (by rw[←HY.out];exact hg.out)
     go_wp2
     exact⟨⟨j+1,_,_,by omega,by go_num,by rw[HK.out],by rw[HK.out];exact OwnL.alloc HO.out _,aA HB.out _⟩,by simp[intOf];omega⟩
    ·have hg:Hid (goesB 2 d p (d1,p1,a1,r1,x1)=false):=by show _=_;rw[goes2];simp[e1]
     have q1:(d1==d)=false:=by simpa using e1
     clear e1
     have HK:Hid (kpt l 2 d p (j+1)=kpt l 2 d p j++[(d1,p1,a1,r1,x1)]):=by show _=_;rw[eS hlt (by rw[←HY.out];exact hg.out),←HY.out]
     generalize hkj:kpt l 2 d p j=kj at *
     go_wp2_with (first|(at_builtin;refine bM rfl (.tmp 62) (.tmp 64) rfl wq.heap.size _ _ kj [(d1,p1,a1,r1,x1)] rfl rfl ((HO.out.alloc _).alloc _) (bR (by simp) _ _ _ _ _ _) (by simp;omega) (by have:=hszq.out;simp;omega) (.inr (by simp)) ?_))
     intro g9 cg9 w9 hown9 _ hbel9 _
     have HN9:Hid ((kj++[(d1,p1,a1,r1,x1)]).length=kj.length+1):=by show _=_;simp
     have HO9:Hid (OwnL w9 wq.heap.size (.slice (some ⟨g9,0,none⟩) (kj.length+1) cg9) (kj++[(d1,p1,a1,r1,x1)])):=hown9
     have HB9:Hid (Below wq.heap.size wq w9):=(aA (aA HB.out _) _).trans hbel9
     clear hown9 hbel9
     go_wp2
     exact⟨⟨j+1,some ⟨g9,0,none⟩,cg9,by omega,by go_num,by rw[HK.out,HN9.out],by rw[HK.out];exact HO9.out,HB9.out⟩,by simp[intOf];omega⟩
   ·obtain rfl:j=l.length:=by omega
    clear hB hO
    go_wp2
    refine bodyPost_ret (v:=.tuple #[.slice a9 (kpt l 2 d p l.length).length c9,J 0]) (by simp[results,Tryz.results81,go_sem]) rfl ⟨⟨_,by rw[HE.out],?_,fun q hq=>by have:=OwnL.base HO.out q hq;have:=HB2.out.size;omega⟩,aB HB2.out HB.out⟩
    rw[HF.out]
    exact OwnL.ls HO.out
set_option maxHeartbeats 1000000 in
theorem wS (v:Value)(l:List Ln)(d p:Int)(w:World)(h:Ls w v l)(hc:chkC l=0):
  Calls Tryz.prog 81 #[v,.agg #[J (3:Int),J d,J p]] w fun e w'=>(∃v',e=.returned (.tuple #[v',J (drE l (3:Int))])∧Ls w' v' (drC l (3:Int) d p)∧Fresh w.heap.size v')∧Below w.heap.size w w':=by
 have HL:Hid (Ls w v l):=h
 have h6:l.length≤6:=(aW.1 hc).1
 obtain⟨a0,cap,rfl,hl,hm,h⟩:=h
 unfold maxLen at hm
 have HE:Hid (drE l 3=0):=(dK (d:=d) (p:=p) hc (by omega)).1
 have HF:Hid (drC l 3 d p=kpt l 3 d p l.length):=(dK hc (by omega)).2
 have hin:inB (3:Int) 0 3=true:=by decide
 go_enter Tryz.func81,Tryz.ntmps81
 go_wp2_with fail
 refine (bT _ l _ (HL.out.keep (aA (Below.refl _ _) _))).mono ?_
 rw[hc]
 rintro e wp0 ⟨rfl,b1⟩
 have K1:=(Blk.new w #[J (3:Int),J d,J p] 115 (0,0)).keep b1
 have HB2:Hid (Below w.heap.size w wp0):=aB (aA (Below.refl _ _) _) b1
 obtain⟨c0,c1,c2⟩:=K1.three
 have s1:=K1.lt
 have HK1:Hid _:=K1
 clear b1 K1
 go_wp2_with fail
 refine (dV _ _ _ _).mono ?_
 rw[hin]
 rintro e wq ⟨rfl,rfl⟩
 have HLq:Hid (Ls wq (.slice a0 l.length cap) l):=HL.out.keep HB2.out
 clear HL c0 c1 c2
 rcases h with rfl|⟨b,o,rfl,hb,_⟩
 ·go_wp2
  go_loopw [7,9,10,22] (fun v9 _ _ i w'=>v9=.slice none 0 0∧i=J 0∧w'=wq) (fun _ _ _ i _=>0)
  case atStart=>exact⟨rfl,rfl,rfl⟩
  case round=>
   obtain⟨rfl,rfl,rfl⟩:=hrel
   go_wp2
   refine bodyPost_ret (v:=.tuple #[.slice none 0 0,J 0]) (by simp[results,Tryz.results81,go_sem]) rfl ⟨⟨_,by rw[HE.out],?_⟩,HB2.out⟩
   rw[HF.out]
   exact⟨Ls.nothing _,Fresh.none _ _ _⟩
 ·go_wp2
  go_loopw [7,9,10,22] (fun v9 _ _ i w'=>∃(j:Nat) (a9:Option Addr) (c9:Nat),j≤l.length∧i=J j∧v9=.slice a9 (kpt l 3 d p j).length c9∧OwnL w' wq.heap.size v9 (kpt l 3 d p j)∧Below wq.heap.size wq w') (fun _ _ _ i _=>l.length-(intOf i).toNat)
  case atStart=>exact⟨0,_,_,Nat.zero_le _,rfl,by rw[cC];rfl,by rw[cC];exact OwnL.nothing _ _,Below.refl _ _⟩
  case round=>
   obtain⟨j,a9,c9,hj,rfl,rfl,hO,hB⟩:=hrel
   have HO:Hid (OwnL wr wq.heap.size (.slice a9 (kpt l 3 d p j).length c9) (kpt l 3 d p j)):=hO
   have HB:Hid (Below wq.heap.size wq wr):=hB
   have hkl:(kpt l 3 d p j).length≤6:=Nat.le_trans (fC _ _ _ _ _) h6
   by_cases hlt:j<l.length
   ·have hx:=HLq.out.keep hB
    obtain⟨a',cap',e',_,_,hx⟩:=hx
    rcases hx with hx|⟨b',o',e2,hb',hc'⟩
    ·rw[hx] at hlt;exact absurd hlt (Nat.not_lt_zero _)
    simp only[Value.slice.injEq] at e'
    obtain⟨rfl,_,rfl⟩:=e'
    simp only[Option.some.injEq,Addr.mk.injEq,and_true] at e2
    obtain⟨rfl,rfl⟩:=e2
    obtain⟨g0,g1,g2,g3,g4⟩:=hc' j hlt
    clear hc'
    obtain⟨y,hy⟩:∃y,y=lth l j:=⟨_,rfl⟩
    have HY:Hid (y=lth l j):=hy
    rw[←hy] at g0 g1 g2 g3 g4
    clear hy
    obtain⟨c0,c1,c2⟩:=(Blk.keep HK1.out hB).three
    have s2:w.heap.size<wr.heap.size:=Nat.lt_of_lt_of_le s1 hB.size
    have hszq:Hid (wq.heap.size≤wr.heap.size):=hB.size
    clear hB hO
    obtain⟨d1,p1,a1,r1,x1⟩:=y
    simp only at g0 g1 g2 g3 g4
    have hlt1:(j:Int)<l.length:=by omega
    by_cases e1:d1=d
    ·by_cases e2:p1=p
     ·have hg:Hid (goesB 3 d p (d1,p1,a1,r1,x1)=true):=by show _=_;rw[goes3];simp[hasB,e1,e2]
      have q1:(d1==d)=true:=by simpa using e1
      have q2:(p1==p)=true:=by simpa using e2
      clear e1 e2
      have HK:Hid (kpt l 3 d p (j+1)=kpt l 3 d p j):=fO hlt (by rw[←HY.out];exact hg.out)
      go_wp2
      exact⟨⟨j+1,_,_,by omega,by go_num,by rw[HK.out],by rw[HK.out];exact OwnL.alloc HO.out _,aA HB.out _⟩,by simp[intOf];omega⟩
     ·have hg:Hid (goesB 3 d p (d1,p1,a1,r1,x1)=false):=by show _=_;rw[goes3];simp[hasB,e2]
      have q1:(d1==d)=true:=by simpa using e1
      have q2:(p1==p)=false:=by simpa using e2
      clear e1 e2
      have HK:Hid (kpt l 3 d p (j+1)=kpt l 3 d p j++[(d1,p1,a1,r1,x1)]):=by show _=_;rw[eS hlt (by rw[←HY.out];exact hg.out),←HY.out]
      generalize hkj:kpt l 3 d p j=kj at *
      go_wp2_with (first|(at_builtin;refine bM rfl (.tmp 62) (.tmp 64) rfl wq.heap.size _ _ kj [(d1,p1,a1,r1,x1)] rfl rfl ((HO.out.alloc _).alloc _) (bR (by simp) _ _ _ _ _ _) (by simp;omega) (by have:=hszq.out;simp;omega) (.inr (by simp)) ?_))
      intro g9 cg9 w9 hown9 _ hbel9 _
      have HN9:Hid ((kj++[(d1,p1,a1,r1,x1)]).length=kj.length+1):=by show _=_;simp
      have HO9:Hid (OwnL w9 wq.heap.size (.slice (some ⟨g9,0,none⟩) (kj.length+1) cg9) (kj++[(d1,p1,a1,r1,x1)])):=hown9
      have HB9:Hid (Below wq.heap.size wq w9):=(aA (aA HB.out _) _).trans hbel9
      clear hown9 hbel9
      go_wp2
      exact⟨⟨j+1,some ⟨g9,0,none⟩,cg9,by omega,by go_num,by rw[HK.out,HN9.out],by rw[HK.out];exact HO9.out,HB9.out⟩,by simp[intOf];omega⟩
    ·have hg:Hid (goesB 3 d p (d1,p1,a1,r1,x1)=false):=by show _=_;rw[goes3];simp[hasB,e1]
     have q1:(d1==d)=false:=by simpa using e1
     clear e1
     have HK:Hid (kpt l 3 d p (j+1)=kpt l 3 d p j++[(d1,p1,a1,r1,x1)]):=by show _=_;rw[eS hlt (by rw[←HY.out];exact hg.out),←HY.out]
     generalize hkj:kpt l 3 d p j=kj at *
     go_wp2_with (first|(at_builtin;refine bM rfl (.tmp 62) (.tmp 64) rfl wq.heap.size _ _ kj [(d1,p1,a1,r1,x1)] rfl rfl ((HO.out.alloc _).alloc _) (bR (by simp) _ _ _ _ _ _) (by simp;omega) (by have:=hszq.out;simp;omega) (.inr (by simp)) ?_))
     intro g9 cg9 w9 hown9 _ hbel9 _
     have HN9:Hid ((kj++[(d1,p1,a1,r1,x1)]).length=kj.length+1):=by show _=_;simp
     have HO9:Hid (OwnL w9 wq.heap.size (.slice (some ⟨g9,0,none⟩) (kj.length+1) cg9) (kj++[(d1,p1,a1,r1,x1)])):=hown9
     have HB9:Hid (Below wq.heap.size wq w9):=(aA (aA HB.out _) _).trans hbel9
     clear hown9 hbel9
     go_wp2
     exact⟨⟨j+1,some ⟨g9,0,none⟩,cg9,by omega,by go_num,by rw[HK.out,HN9.out],by rw[HK.out];exact HO9.out,HB9.out⟩,by simp[intOf];omega⟩
   ·obtain rfl:j=l.length:=by omega
    clear hB hO
    go_wp2
    refine bodyPost_ret (v:=.tuple #[.slice a9 (kpt l 3 d p l.length).length c9,J 0]) (by simp[results,Tryz.results81,go_sem]) rfl ⟨⟨_,by rw[HE.out],?_,fun q hq=>by have:=OwnL.base HO.out q hq;have:=HB2.out.size;omega⟩,aB HB2.out HB.out⟩
    rw[HF.out]
    exact OwnL.ls HO.out
theorem dropped_anyN (v:Value)(l:List Ln)(k d p:Int)(w:World)(h:Ls w v l):
  Calls Tryz.prog 81 #[v,.agg #[J k,J d,J p]] w fun e w'=>(∃v',e=.returned (.tuple #[v',J (drE l k)])∧Ls w' v' (drC l k d p)∧Fresh w.heap.size v')∧Below w.heap.size w w':=by
 by_cases hc:chkC l=0
 ·by_cases hk:0≤k∧k≤3
  ·have:k=0∨k=1∨k=2∨k=3:=by omega
   rcases this with rfl|rfl|rfl|rfl
   ·exact wP v l d p w h hc
   ·exact wQ v l d p w h hc
   ·exact wR v l d p w h hc
   ·exact wS v l d p w h hc
  ·exact rT v l k d p w h hc hk
 ·exact rR v l k d p w h hc
end Go.Proofs.YthlhocneggcekaaGreat
