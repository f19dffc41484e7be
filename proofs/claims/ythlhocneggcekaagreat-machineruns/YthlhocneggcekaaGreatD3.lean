/-
  Laid together: Stored, KeepsWalk, Walk2, WithA, With, WalkMath, CacheMath, Lines, Is, FindC.
-/
import Derived.Test.YthlhocneggcekaaGreatD2
namespace Go.Proofs.YthlhocneggcekaaGreat
open Go.RowKit
theorem iS {zs:List Int}{i:Nat}(h:i<zs.length)(x:Int):nth (zs.set i x) i=x:=by simp[nth,h]
theorem gZ {zs:List Int}{i j:Nat}(h:i≠j)(x:Int):nth (zs.set i x) j=nth zs j:=by simp[nth,h]
theorem oO {zs:List Int}{k:Nat}{x:Int}(h:chk zs=0)(hx:wordB x=true):chk (zs.set k x)=0:=by
 obtain⟨hl,ha⟩:=bF h
 refine oM (by rw[List.length_set];exact hl) fun j hj=>?_
 by_cases e:k=j
 ·subst e;rw[iS (by omega)];exact hx
 ·rw[gZ e];exact ha j hj
theorem wrM_ok {zs:List Int}{k x:Int}(h:chk zs=0)(hp:placeB k=true)(hx:wordB x=true):wrM zs k x=zs.set k.toNat x:=by rw[wrM,if_pos ⟨h,hp,hx⟩]
theorem Sl.shape {w:World}{v:Value}{zs:List Int}(h:Sl w v zs):∃a cap,v=.slice a zs.length cap:=by
 obtain⟨a,cap,h,_⟩:=h;exact⟨a,cap,h⟩
theorem Sl.setSlice {w:World}{v:Value}{zs:List Int}(h:Sl w v zs){p:Addr}{a:Option Addr}{n c:Nat}(hp:w.cell? p=some (.slice a n c))(u:Value):Sl (w.setCell p u) v zs:=by
 obtain⟨a,cap,rfl,hl,h⟩:=h
 refine⟨a,cap,rfl,hl,?_⟩
 rcases h with h|⟨b,o,rfl,hlt,hc⟩
 ·exact .inl h
 ·refine .inr ⟨b,o,rfl,by simpa [World.setCell] using hlt,fun i hi=>?_⟩
  have hq:=hc i hi
  have hne:p≠⟨b,o+i,none⟩:=fun e=>by rw[e,hq] at hp;simp at hp
  rw[World.cell?_setCell_other (h:=hne)]
  exact hq
def wkF (zs:List Int)(root page:Int)(wr:Bool):Five × Int:=
 if (fnd zs root page).2=0 then (if ((fnd zs root page).1.2.1&&((fnd zs root page).1.2.2.1 || !wr))=true then ((fnd zs root page).1,0) else (E0,5)) else (E0,(fnd zs root page).2)
def wkd (zs:List Int)(root page:Int)(wr:Bool):Five × Int × Int:=
 if chk zs=0 then
  (if pageB root=true∧pageB page=true then ((wkF zs root page wr).1,(wkF zs root page wr).2,0) else (E0,0,4))
 else (E0,0,chk zs)
set_option maxHeartbeats 2000000 in
theorem yL (v:Value)(zs:List Int)(root page:Int)(wr:Bool)(w:World)(h:Sl w v zs):
  Calls Tryz.prog 123 #[.agg #[v],J root,J page,.bool wr] w fun e w'=>(∃b r x l p f c,e=.returned (.tuple #[.agg #[.bool b,.bool r,.bool x,.bool l,J p],J f,J c])∧wkd zs root page wr=((b,r,x,l,p),f,c))∧Below w.heap.size w w':=by
 have HS:Hid (Sl w v zs):=h
 obtain⟨a0,c0,rfl⟩:=h.shape
 clear h
 go_enter Tryz.func123,Tryz.ntmps123
 go_wp2_with fail
 refine (cE _ zs _ (HS.out.keep (aA (aA (Below.refl _ _) _) _))).mono ?_
 rintro e w1 ⟨rfl,b1⟩
 have B1:Hid _:=b1
 have BB:Hid (Below w.heap.size w w1):=aB (aA (aA (Below.refl _ _) _) _) b1
 obtain⟨c1,f1⟩:=bcell b1
 have s1:w.heap.size+1<w1.heap.size:=by have:=b1.size;simp at this;omega
 clear b1
 by_cases hk:chk zs=0
 rotate_left
 ·have hq:(chk zs !=0)=true:=by simpa using hk
  go_wp2
  refine bodyPost_ret (v:=.tuple #[.agg #[.bool false,.bool false,.bool false,.bool false,J 0],J 0,J (chk zs)]) (by simp[results,Tryz.results123,go_sem, *]) rfl ⟨⟨_,_,_,_,_,_,_,rfl,by rw[wkd,if_neg hk];rfl⟩,?_⟩
  exact aV (by omega) BB.out _ _ _ _ _
 have hq:(chk zs !=0)=false:=by simpa using hk
 have HN:Hid (zs.length=512):=(bF hk).1
 have HK:Hid (chk zs=0):=hk
 clear hk
 cases hr:pageB root
 ·have hd:¬(pageB root=true∧pageB page=true):=by rw[hr];simp
  have HD:Hid _:=hd
  clear hd
  go_wp2_with fail
  refine (fI _ _).mono ?_
  rintro e w2 ⟨rfl,rfl⟩
  rw[hr]
  go_wp2
  refine bodyPost_ret (v:=.tuple #[.agg #[.bool false,.bool false,.bool false,.bool false,J 0],J 0,J 4]) (by simp[results,Tryz.results123,go_sem, *]) rfl ⟨⟨_,_,_,_,_,_,_,rfl,by rw[wkd,if_pos HK.out,if_neg HD.out];rfl⟩,?_⟩
  exact aV (by omega) BB.out _ _ _ _ _
 cases hp:pageB page
 ·have hd:¬(pageB root=true∧pageB page=true):=by rw[hp];simp
  have HD:Hid _:=hd
  clear hd
  go_wp2_with fail
  refine (fI _ _).mono ?_
  rintro e w2 ⟨rfl,rfl⟩
  rw[hr]
  go_wp2_with fail
  refine (fI _ _).mono ?_
  rintro e w2 ⟨rfl,rfl⟩
  rw[hp]
  go_wp2
  refine bodyPost_ret (v:=.tuple #[.agg #[.bool false,.bool false,.bool false,.bool false,J 0],J 0,J 4]) (by simp[results,Tryz.results123,go_sem, *]) rfl ⟨⟨_,_,_,_,_,_,_,rfl,by rw[wkd,if_pos HK.out,if_neg HD.out];rfl⟩,?_⟩
  exact aV (by omega) BB.out _ _ _ _ _
 have hd:pageB root=true∧pageB page=true:=⟨hr,hp⟩
 have HD:Hid _:=hd
 clear hd
 obtain⟨r0,r1⟩:0≤root∧root<64:=by simpa [pageB] using hr
 obtain⟨g0,g1⟩:0≤page∧page<64:=by simpa [pageB] using hp
 go_wp2_with fail
 refine (fI _ _).mono ?_
 rintro e w2 ⟨rfl,rfl⟩
 rw[hr]
 go_wp2_with fail
 refine (fI _ _).mono ?_
 rintro e w2 ⟨rfl,rfl⟩
 rw[hp]
 clear hr hp
 go_wp2_with fail
 refine (yK _ zs _ _ _ (HS.out.keep BB.out) HN.out r0 r1 g0 g1).mono ?_
 rintro e w2 ⟨⟨b,r,x,l,p,f,rfl,hfn⟩,b2⟩
 have HF:Hid (fnd zs root page=((b,r,x,l,p),f)):=hfn
 have B2:Hid _:=aB B1.out b2
 have BB2:Hid (Below w.heap.size w w2):=aB BB.out b2
 have s2:w.heap.size+1<w2.heap.size:=by have:=b2.size;omega
 clear c1 f1 b2 BB B1 s1 hfn
 obtain⟨c2,f2⟩:=bcell B2.out
 by_cases hf:f=0
 rotate_left
 ·have hq1:(f==0)=false:=by simpa using hf
  have hq2:(f !=0)=true:=by simpa using hf
  go_wp2
  refine bodyPost_ret (v:=.tuple #[.agg #[.bool false,.bool false,.bool false,.bool false,J 0],J f,J 0]) (by simp[results,Tryz.results123,go_sem, *]) rfl ⟨⟨_,_,_,_,_,_,_,rfl,by rw[wkd,if_pos HK.out,if_pos HD.out,wkF,HF.out,if_neg hf];rfl⟩,?_⟩
  exact aA (aV (by omega) BB2.out _ _ _ _ _) _
 subst hf
 go_wp2_with fail
 refine (aBo _ _ _ _ _ _ _).mono ?_
 rintro e w3 ⟨rfl,o3,hw3⟩
 have B3:Hid (Below _ _ w3):=hw3 ▸ aA (aA B2.out _) o3
 have BB3:Hid (Below w.heap.size w w3):=hw3 ▸ aA (aA BB2.out _) o3
 have K3:Blk w3 w2.heap.size #[.bool b,.bool r,.bool x,.bool l,J p]:=hw3 ▸ (Blk.new w2 _ _ _).past o3
 have s3:w.heap.size+1<w3.heap.size:=by rw[hw3];simp;omega
 obtain⟨d0,d1,d2,d3,d4⟩:=K3.five
 clear c2 f2 hw3 K3
 obtain⟨c3,f3⟩:=bcell B3.out
 cases hm:(r&&(x || !wr))
 ·have hm':¬(r&&(x || !wr))=true:=by rw[hm];decide
  have HM:Hid _:=hm'
  clear hm hm'
  go_wp2
  refine bodyPost_ret (v:=.tuple #[.agg #[.bool false,.bool false,.bool false,.bool false,J 0],J 5,J 0]) (by simp[results,Tryz.results123,go_sem, *]) rfl ⟨⟨_,_,_,_,_,_,_,rfl,by rw[wkd,if_pos HK.out,if_pos HD.out,wkF,HF.out,if_pos rfl,if_neg HM.out];rfl⟩,?_⟩
  exact aV (by omega) BB3.out _ _ _ _ _
 ·have HM:Hid ((r&&(x || !wr))=true):=hm
  clear hm
  go_wp2
  refine bodyPost_ret (v:=.tuple #[.agg #[.bool b,.bool r,.bool x,.bool l,J p],J 0,J 0]) (by simp[results,Tryz.results123,go_sem, *]) rfl ⟨⟨_,_,_,_,_,_,_,rfl,by rw[wkd,if_pos HK.out,if_pos HD.out,wkF,HF.out,if_pos rfl,if_pos HM.out]⟩,?_⟩
  exact aV (by omega) BB3.out _ _ _ _ _
def wth (ps:List Int):Nat→List Int
 | 0=>zeros
 | j+1=>(wth ps j).set (nth ps (2*j)).toNat (nth ps (2*j+1))
theorem iT (ps:List Int)(j:Nat):(wth ps j).length=512:=by
 induction j with
 | zero=>exact oN
 | succ j ih=>rw[wth,List.length_set,ih]
def WithRel (w:World)(ps:List Int)(j:Nat)(w':World):Prop:=
 (∃cs:Array Value,w'.heap[w.heap.size+1]?=some (.cells cs 3 (0,0))∧cs.toList=(wth ps j).map (fun z=>J z))∧
 w'.heap[w.heap.size+1+1]?=some (.cells #[.slice (some ⟨w.heap.size+1,0,none⟩) 512 512] 24 (0,0))∧
 w'.heap[w.heap.size]?=some (.cells #[.slice none 0 0] 24 (0,0))∧
 Below w.heap.size w w'
theorem WithRel.next {w w':World}{ps:List Int}{j:Nat}(h:WithRel w ps j w'):WithRel w ps (j+1) ((w'.setCell ⟨w.heap.size+1,(nth ps (2*j)).toNat,none⟩ (J (nth ps (2*j+1)))).drew):=by
 obtain⟨⟨cs,h1,h2⟩,h3,h4,h5⟩:=h
 refine⟨⟨_,heap_setCell_same _ _ _ cs _ _ h1,?_⟩,?_,?_,?_⟩
 ·rw[Array.toList_setIfInBounds,h2,wth,List.map_set]
 ·show (w'.setCell _ _).heap[_]?=_
  rw[heap_setCell_other _ _ _ _ (by simp)];exact h3
 ·show (w'.setCell _ _).heap[_]?=_
  rw[heap_setCell_other _ _ _ _ (by simp)];exact h4
 ·exact (h5.setCell (p:=⟨w.heap.size+1,_,none⟩) (by simp) _).drew
set_option maxHeartbeats 2000000 in
theorem yM (b o cap:Nat)(ps:List Int)(m:Nat)(w:World)(h:Sl w (.slice (some ⟨b,o,none⟩) (2*m) cap) ps)(hl:ps.length=2*m)(hm9:m<1000)(hp:∀j,j<m→0≤nth ps (2*j)∧nth ps (2*j)<512):
  Calls Tryz.prog 71 #[.slice (some ⟨b,o,none⟩) (2*m:Nat) cap] w fun e w'=>∃g,e=.returned (.agg #[.slice (some ⟨g,0,none⟩) 512 512])∧Sl w' (.slice (some ⟨g,0,none⟩) 512 512) (wth ps m)∧Below w.heap.size w w'∧w.heap.size≤g∧∃cs:Array Value,w'.heap[g]?=some (.cells cs 3 (0,0))∧cs.toList=(wth ps m).map (fun z=>J z):=by
 have hm:=make512
 have HP:Hid (∀j,j<m→0≤nth ps (2*j)∧nth ps (2*j)<512):=hp
 have HS:Hid (∀i,i<2*m→b<w.heap.size∧w.cell? ⟨b,o+i,none⟩=some (J (nth ps i))):=by
  intro i hi
  obtain⟨a,c,ha,_,hh⟩:=h
  simp at ha
  obtain⟨rfl,_⟩:=ha
  rcases hh with rfl|⟨b',o',hb,hlt,hc⟩
  ·simp at hl;omega
  ·simp at hb
   obtain⟨rfl,rfl⟩:=hb
   exact⟨hlt,hc i (by omega)⟩
 clear h hp
 go_enter Tryz.func71,Tryz.ntmps71
 go_wp2
 go_loopw [4] (fun i w'=>∃j:Nat,j≤m∧i=J (2*j:Nat)∧WithRel w ps j w') (fun i _=>2*m-(intOf i).toNat)
 case atStart=>
  refine⟨0,Nat.zero_le _,rfl,⟨_,bN (by simp) (aY (by simp)),lG⟩,aY (by simp),bN (by simp;omega) (bN (by simp) (aY rfl)),aA (aA (aA (Below.refl _ _) _) _) _⟩
 case round=>
  obtain⟨j,hj,rfl,hR⟩:=hrel
  have HR:Hid (WithRel w ps j wr):=hR
  obtain⟨⟨cs,h1,h2⟩,h3,h4,h5⟩:=hR
  have q3:=cell_of_row wr (w.heap.size+1+1) 0 _ _ _ h3
  by_cases hlt:j<m
  ·obtain⟨p0,p1⟩:=HP.out j hlt
   obtain⟨hb,e0⟩:=HS.out (2*j) (by omega)
   obtain⟨_,e1⟩:=HS.out (2*j+1) (by omega)
   have g0:wr.cell? ⟨b,o+2*j,none⟩=some (J (nth ps (2*j))):=by rw[h5.cell (p:=⟨b,_,none⟩) hb];exact e0
   have g1:wr.cell? ⟨b,o+(2*j+1),none⟩=some (J (nth ps (2*j+1))):=by rw[h5.cell (p:=⟨b,_,none⟩) hb];exact e1
   have gm:wr.cell? ⟨w.heap.size+1,(nth ps (2*j)).toNat,none⟩=some (J (nth (wth ps j) (nth ps (2*j)).toNat)):=by
    rw[cell_of_row _ _ _ _ _ _ h1,←Array.getElem?_toList,h2,List.getElem?_map,getElem?_nth (by rw[iT];omega)];rfl
   have gf:wr.frozen? ⟨w.heap.size+1,(nth ps (2*j)).toNat,none⟩=false:=frozen_of_row _ _ _ _ _ h1
   have HX:Hid _:=HR.out.next
   generalize nth ps (2*j)=p at *
   generalize nth ps (2*j+1)=x at *
   generalize hk:2*j=k at *
   have hlt1:(k:Int)+1<(2*m:Nat):=by omega
   have hlt0:(k:Int)<(2*m:Nat):=by omega
   have hw:wrap64 ((k:Int)+1)=k+1:=by unfold wrap64;omega
   clear e0 e1 h1 h2 h3 h4 h5
   go_wp2
   go_region
   go_wp2
   refine⟨⟨j+1,by omega,by congr 1;omega,HX.out⟩,by simp[intOf];omega⟩
  ·obtain rfl:j=m:=by omega
   have HQ:Hid (Sl wr (.slice (some ⟨w.heap.size+1,0,none⟩) 512 512) (wth ps j)):=bG h1 h2 (iT _ _).symm (by rw[iT];simp[maxLen])
   have q4:=cell_of_row wr w.heap.size 0 _ _ _ h4
   have q5:=frozen_of_row wr w.heap.size 0 _ _ h4
   have HB:Hid (Below w.heap.size w wr):=h5
   have HC:Hid (wr.heap[w.heap.size+1]?=some (.cells cs 3 (0,0))∧cs.toList=(wth ps j).map (fun z=>J z)):=⟨h1,h2⟩
   clear h1 h2 h3 h4 h5 HR
   generalize hk:2*j=k at *
   have hk9:k<2000:=by omega
   have hw:wrap64 ((k:Int)+1)=k+1:=by unfold wrap64;omega
   have hge:¬(k:Int)+1<(k:Int):=by omega
   go_wp2
   refine bodyPost_ret (v:=.agg #[.slice (some ⟨w.heap.size+1,0,none⟩) 512 512]) (by simp[results,Tryz.results71,go_sem, *]) rfl ⟨_,rfl,HQ.out.setOther (by simp[Value.ownBlock]) _,HB.out.setCell (p:=⟨w.heap.size,0,none⟩) (by simp) _,by omega,cs,by rw[heap_setCell_other _ _ _ _ (by simp)];exact HC.out.1,HC.out.2⟩
theorem uR {v:Value}{zs:List Int}{root page:Int}{wr:Bool}{w:World}{b r x l:Bool}{p f c:Int}(hk:wkd zs root page wr=((b,r,x,l,p),f,c))(h:Sl w v zs):
  Calls Tryz.prog 123 #[.agg #[v],J root,J page,.bool wr] w fun e w'=>e=.returned (.tuple #[.agg #[.bool b,.bool r,.bool x,.bool l,J p],J f,J c])∧Below w.heap.size w w':=by
 refine (yL v zs root page wr w h).mono ?_
 rintro e w' ⟨⟨b',r',x',l',p',f',c',rfl,hk'⟩,hb⟩
 rw[hk] at hk'
 simp only[Prod.mk.injEq] at hk'
 obtain⟨⟨rfl,rfl,rfl,rfl,rfl⟩,rfl,rfl⟩:=hk'
 exact⟨rfl,hb⟩
theorem nT {z:Int}(h:fltR z=0):vE z=true:=by
 unfold fltR at h
 cases ho:okE z
 ·simp[ho] at h
 ·cases hv:vE z
  ·simp[ho,hv] at h
  ·rfl
theorem yN {zs:List Int}{root page:Int}{b r x l:Bool}{p:Int}(h:fnd zs root page=((b,r,x,l,p),0)):b=true∧l=true:=by
 unfold fnd at h
 by_cases h1:fltR (one zs root page)=0
 ·rw[if_pos h1] at h
  by_cases h2:lE (one zs root page)=true
  ·rw[if_pos h2] at h
   by_cases h3:pE (one zs root page)%8=0
   ·rw[if_pos h3] at h
    simp only[Prod.mk.injEq] at h
    obtain⟨⟨e1,_,_,e4,_⟩,_⟩:=h
    exact⟨e1 ▸ nT h1,e4 ▸ h2⟩
   ·rw[if_neg h3] at h
    simp only[Prod.mk.injEq] at h
    omega
  ·rw[if_neg h2] at h
   by_cases h3:fltR (two zs root page)=0
   ·rw[if_pos h3] at h
    by_cases h4:lE (two zs root page)=true
    ·rw[if_pos h4,entE] at h
     simp only[Prod.mk.injEq] at h
     obtain⟨⟨e1,_,_,e4,_⟩,_⟩:=h
     exact⟨e1 ▸ nT h3,e4 ▸ h4⟩
    ·rw[if_neg h4] at h
     simp only[Prod.mk.injEq] at h
     omega
   ·rw[if_neg h3] at h
    simp only[Prod.mk.injEq] at h
    exact absurd h.2 h3
 ·rw[if_neg h1] at h
  simp only[Prod.mk.injEq] at h
  exact absurd h.2 h1
abbrev Ln:=Int × Int × Int × Bool × Bool
def L0:Ln:=(0,0,0,false,false)
def lth (l:List Ln)(i:Nat):Ln:=l.getD i L0
theorem cQ {l:List Ln}{i:Nat}(h:i<l.length):lth l i=l[i]:=by simp[lth,h]
def rngB (x:Ln):Bool:=decide (0≤x.1∧x.1<8)&&decide (0≤x.2.1∧x.2.1<64)&&decide (0≤x.2.2.1∧x.2.2.1<64)
def keyB (x y:Ln):Bool:=decide (x.1=y.1)&&decide (x.2.1=y.2.1)
def errL (l:List Ln)(j:Nat):Int:=
 if rngB (lth l j)=true then (if (lth l j).2.2.2.1=true then (if (l.take j).any (keyB (lth l j))=true then 5 else 0) else 3) else 2
def chkC (l:List Ln):Int:=if 6<l.length then 1 else (((List.range l.length).map (errL l)).find? (fun e=>decide (¬e=0))).getD 0
theorem jU {l:List Ln}(h:6<l.length):chkC l=1:=by rw[chkC,if_pos h]
theorem fJ {l:List Ln}(h:¬6<l.length)(k:∀j,j<l.length→errL l j=0):chkC l=0:=by
 rw[chkC,if_neg h,List.find?_eq_none.2]
 ·rfl
 ·intro e he
  obtain⟨j,hj,rfl⟩:=List.mem_map.1 he
  simp[k j (List.mem_range.1 hj)]
theorem gL {l:List Ln}{j:Nat}{e:Int}(h:¬6<l.length)(hj:j<l.length)(k:∀i,i<j→errL l i=0)(he:errL l j=e)(h0:¬e=0):chkC l=e:=by
 rw[chkC,if_neg h,List.find?_eq_some_iff_getElem.2 ⟨by simpa using h0,j,by simpa using hj,by simpa using he,fun i hi=>by simpa using k i hi⟩]
 rfl
def GoodC (l:List Ln):Prop:=l.length≤6∧(∀x∈l,rngB x=true∧x.2.2.2.1=true)∧l.Pairwise (fun x y=>keyB y x=false)
theorem fK {l:List Ln}{j:Nat}:errL l j=0↔rngB (lth l j)=true∧(lth l j).2.2.2.1=true∧(l.take j).any (keyB (lth l j))=false:=by
 unfold errL
 cases h1:rngB (lth l j)
 ·simp
 ·cases h2:(lth l j).2.2.2.1
  ·simp
  ·cases h3:(l.take j).any (keyB (lth l j)) <;> simp
theorem aW {l:List Ln}:chkC l=0↔GoodC l:=by
 constructor
 ·intro h
  by_cases hl:6<l.length
  ·rw[jU hl] at h;omega
  have hz:∀j,j<l.length→errL l j=0:=by
   intro j
   induction j using Nat.strongRecOn with
   | _ j ih=>
    intro hj
    by_cases he:errL l j=0
    ·exact he
    ·have:=gL hl hj (fun i hi=>ih i hi (by omega)) rfl he
     rw[h] at this;omega
  refine⟨by omega,fun x hx=>?_,?_⟩
  ·obtain⟨j,hj,rfl⟩:=List.getElem_of_mem hx
   have:=fK.1 (hz j hj)
   rw[cQ hj] at this
   exact⟨this.1,this.2.1⟩
  ·rw[List.pairwise_iff_getElem]
   intro i j hi hj hij
   have:=(fK.1 (hz j hj)).2.2
   rw[cQ hj,List.any_eq_false] at this
   have h2:=this l[i] (List.mem_iff_getElem.2 ⟨i,by simp;omega,by simp⟩)
   simpa using h2
 ·rintro⟨h1,h2,h3⟩
  refine fJ (by omega) fun j hj=>fK.2 ?_
  rw[cQ hj]
  refine⟨(h2 _ (List.getElem_mem hj)).1,(h2 _ (List.getElem_mem hj)).2,?_⟩
  rw[List.any_eq_false]
  intro x hx
  obtain⟨i,hi,rfl⟩:=List.mem_iff_getElem.1 hx
  rw[List.pairwise_iff_getElem] at h3
  simp at hi
  have:=h3 i j (by omega) hj (by omega)
  simpa using this
def hasB (d p:Int)(x:Ln):Bool:=decide (x.1=d)&&decide (x.2.1=p)
def fndC (l:List Ln)(d p:Int):Int:=match l.findIdx? (hasB d p) with
 | some i=>(i:Int)
 | none=>-1
theorem kU {l:List Ln}{d p:Int}{i:Nat}(hi:i<l.length)(h:hasB d p (lth l i)=true)(k:∀j,j<i→hasB d p (lth l j)=false):fndC l d p=i:=by
 have:l.findIdx? (hasB d p)=some i:=by
  rw[List.findIdx?_eq_some_iff_getElem]
  refine⟨hi,by rw[←cQ hi];exact h,fun j hj=>?_⟩
  rw[←cQ (by omega),k j hj];simp
 rw[fndC,this]
theorem fL {l:List Ln}{d p:Int}(k:∀j,j<l.length→hasB d p (lth l j)=false):fndC l d p=-1:=by
 have:l.findIdx? (hasB d p)=none:=by
  rw[List.findIdx?_eq_none_iff]
  intro x hx
  obtain⟨j,hj,rfl⟩:=List.getElem_of_mem hx
  rw[←cQ hj];exact k j hj
 rw[fndC,this]
theorem qE {l:List Ln}{d p:Int}:fndC l d p<0↔∀x∈l,hasB d p x=false:=by
 unfold fndC
 cases h:l.findIdx? (hasB d p) with
 | none=>
  rw[List.findIdx?_eq_none_iff] at h
  simp only[iff_iff_eq]
  exact propext ⟨fun _=>h,fun _=>by decide⟩
 | some i=>
  rw[List.findIdx?_eq_some_iff_getElem] at h
  obtain⟨hi,h1,_⟩:=h
  constructor
  ·intro h;simp at h;omega
  ·intro k;have:=k l[i] (List.getElem_mem hi);rw[h1] at this;exact absurd this (by decide)
theorem kV (x y:Ln):hasB x.1 x.2.1 y=keyB x y:=by
 unfold hasB keyB
 rw[Bool.eq_iff_iff]
 simp only[Bool.and_eq_true,decide_eq_true_eq]
 exact⟨fun h=>⟨h.1.symm,h.2.symm⟩,fun h=>⟨h.1.symm,h.2.symm⟩⟩
def flE (l:List Ln)(x:Ln):Int:=if chkC l=0 then (if chkC [x]=0 then (if 0≤fndC l x.1 x.2.1 then 5 else 0) else chkC [x]) else chkC l
def flC (l:List Ln)(x:Ln):List Ln:=if flE l x=0 then (if l.length=6 then l.drop 1 else l)++[x] else []
def goesB (k d p:Int)(x:Ln):Bool:=decide (k=1) || decide (k=2)&&decide (x.1=d) || decide (k=3)&&decide (x.1=d)&&decide (x.2.1=p)
def drE (l:List Ln)(k:Int):Int:=if chkC l=0 then (if 0≤k∧k≤3 then 0 else 3) else chkC l
def drC (l:List Ln)(k d p:Int):List Ln:=if drE l k=0 then l.filter (fun x=>!goesB k d p x) else []
theorem yO {l:List Ln}{x:Ln}(h:flE l x=0):GoodC l∧rngB x=true∧x.2.2.2.1=true∧∀y∈l,keyB x y=false:=by
 unfold flE at h
 by_cases h1:chkC l=0
 ·rw[if_pos h1] at h
  by_cases h2:chkC [x]=0
  ·rw[if_pos h2] at h
   by_cases h3:0≤fndC l x.1 x.2.1
   ·rw[if_pos h3] at h;omega
   ·have g:=(aW.1 h2).2.1 x (by simp)
    refine⟨aW.1 h1,g.1,g.2,fun y hy=>?_⟩
    rw[←kV]
    exact qE.1 (by omega) y hy
  ·rw[if_neg h2] at h;exact absurd h h2
 ·rw[if_neg h1] at h;exact absurd h h1
def oldC (l:List Ln):List Ln:=if l.length=6 then l.drop 1 else l
theorem yP (l:List Ln):(oldC l).Sublist l:=by
 unfold oldC;split
 ·exact List.drop_sublist 1 l
 ·exact List.Sublist.refl l
theorem lJ {l:List Ln}(h:l.length≤6):(oldC l).length≤5∧(oldC l).length≤l.length:=by
 unfold oldC;split
 ·simp;omega
 ·omega
theorem sZ {l:List Ln}{x:Ln}(h:flE l x=0):flC l x=oldC l++[x]:=by rw[flC,if_pos h,oldC]
theorem vQ {l:List Ln}{x:Ln}(h:flE l x=0):chkC (flC l x)=0∧fndC (flC l x) x.1 x.2.1=(oldC l).length∧min (l.length+1) 6≤(flC l x).length:=by
 obtain⟨⟨h1,h2,h3⟩,h4,h5,h6⟩:=yO h
 obtain⟨o1,o2⟩:=lJ h1
 have hs:=yP l
 rw[sZ h]
 refine⟨aW.2 ⟨by simp;omega,fun y hy=>?_,?_⟩,?_,?_⟩
 ·rcases List.mem_append.1 hy with hy|hy
  ·exact h2 y (hs.subset hy)
  ·obtain rfl:=List.mem_singleton.1 hy
   exact⟨h4,h5⟩
 ·rw[List.pairwise_append]
  refine⟨h3.sublist hs,List.pairwise_singleton _ _,fun a ha b hb=>?_⟩
  obtain rfl:=List.mem_singleton.1 hb
  exact h6 a (hs.subset ha)
 ·refine kU (by simp) ?_ fun j hj=>?_
  ·rw[cQ (by simp)];simp[hasB]
  ·rw[cQ (by simp;omega),List.getElem_append_left hj,kV]
   exact h6 _ (hs.subset (List.getElem_mem hj))
 ·unfold oldC;split
  ·simp;omega
  ·simp;omega
theorem vR {l:List Ln}{k d p:Int}(h:drE l k=0):chkC (drC l k d p)=0:=by
 have h1:chkC l=0:=by
  unfold drE at h
  by_cases h1:chkC l=0
  ·exact h1
  ·rw[if_neg h1] at h;exact absurd h h1
 obtain⟨g1,g2,g3⟩:=aW.1 h1
 rw[drC,if_pos h]
 exact aW.2 ⟨Nat.le_trans (List.length_filter_le _ _) g1,fun x hx=>g2 x (List.mem_filter.1 hx).1,g3.sublist List.filter_sublist⟩
def cellsL (x:Ln):List Value:=[J x.1,J x.2.1,J x.2.2.1,.bool x.2.2.2.1,.bool x.2.2.2.2]
def AtL (w:World)(b o:Nat)(x:Ln):Prop:=
 w.cell? ⟨b,o,none⟩=some (J x.1)∧w.cell? ⟨b,o+1,none⟩=some (J x.2.1)∧w.cell? ⟨b,o+2,none⟩=some (J x.2.2.1)∧w.cell? ⟨b,o+3,none⟩=some (.bool x.2.2.2.1)∧w.cell? ⟨b,o+4,none⟩=some (.bool x.2.2.2.2)
def Ls (w:World)(v:Value)(l:List Ln):Prop:=
 ∃a cap,v=.slice a l.length cap∧l.length≤cap∧cap≤maxLen∧
  (l=[]∨∃b o,a=some ⟨b,o,none⟩∧b<w.heap.size∧∀i,i<l.length→AtL w b (o+i*5) (lth l i))
theorem AtL.keep {w w':World}{b o:Nat}{x:Ln}(h:AtL w b o x)(hb:Below w.heap.size w w')(hl:b<w.heap.size):AtL w' b o x:=by
 obtain⟨c,_⟩:=bcell hb
 unfold AtL
 rw[c _ _ hl,c _ _ hl,c _ _ hl,c _ _ hl,c _ _ hl]
 exact h
theorem Ls.keep {w w':World}{v:Value}{l:List Ln}(h:Ls w v l)(hb:Below w.heap.size w w'):Ls w' v l:=by
 obtain⟨a,cap,rfl,hl,hm,h⟩:=h
 refine⟨a,cap,rfl,hl,hm,?_⟩
 rcases h with h|⟨b,o,rfl,hlt,hc⟩
 ·exact .inl h
 ·exact .inr ⟨b,o,rfl,Nat.lt_of_lt_of_le hlt hb.size,fun i hi=>(hc i hi).keep hb hlt⟩
theorem Ls.alloc {w:World}{v:Value}{l:List Ln}(h:Ls w v l)(o:Obj):Ls (w.alloc o) v l:=h.keep (aA (Below.refl _ _) _)
theorem Ls.nil (w:World)(a:Option Addr)(cap:Nat)(h:cap≤maxLen):Ls w (.slice a 0 cap) []:=⟨a,cap,rfl,Nat.zero_le _,h,.inl rfl⟩
theorem Ls.nothing (w:World):Ls w (.slice none 0 0) []:=Ls.nil w _ _ (Nat.zero_le _)
theorem dI {P:Nat→Prop}{k:Nat}(h:∀j,j<k→P j)(hk:P k):∀j,j<k+1→P j:=fun j hj=>by
 by_cases e:j=k
 ·rw[e];exact hk
 ·exact h j (by omega)
def devB (z:Int):Bool:=decide (0≤z∧z<8)
def pgB (z:Int):Bool:=decide (0≤z∧z<64)
theorem gM (z:Int)(w:World):Calls Tryz.prog 137 #[J z] w fun e w'=>e=.returned (.bool (devB z))∧w'=w:=by
 by_cases h1:0≤z
 ·by_cases h2:z<8
  ·have:devB z=true:=by simp[devB,h1,h2]
   rw[this]
   go_enter Tryz.func137,Tryz.ntmps137
   go_wp2
   go_ret
   exact⟨rfl,rfl⟩
  ·have:devB z=false:=by simp[devB,h2]
   rw[this]
   go_enter Tryz.func137,Tryz.ntmps137
   go_wp2
   go_ret
   exact⟨rfl,rfl⟩
 ·have:devB z=false:=by simp[devB,h1]
  rw[this]
  go_enter Tryz.func137,Tryz.ntmps137
  go_wp2
  go_ret
  exact⟨rfl,rfl⟩
theorem jV (z:Int)(w:World):Calls Tryz.prog 138 #[J z] w fun e w'=>e=.returned (.bool (pgB z))∧w'=w:=by
 by_cases h1:0≤z
 ·by_cases h2:z<64
  ·have:pgB z=true:=by simp[pgB,h1,h2]
   rw[this]
   go_enter Tryz.func138,Tryz.ntmps138
   go_wp2
   go_ret
   exact⟨rfl,rfl⟩
  ·have:pgB z=false:=by simp[pgB,h2]
   rw[this]
   go_enter Tryz.func138,Tryz.ntmps138
   go_wp2
   go_ret
   exact⟨rfl,rfl⟩
 ·have:pgB z=false:=by simp[pgB,h1]
  rw[this]
  go_enter Tryz.func138,Tryz.ntmps138
  go_wp2
  go_ret
  exact⟨rfl,rfl⟩
def inB (z a b:Int):Bool:=decide (a≤z∧z≤b)
theorem jW (z:Int):inB z 0 7=devB z:=by unfold inB devB;congr 1;apply propext;omega
theorem eA (z:Int):inB z 0 63=pgB z:=by unfold inB pgB;congr 1;apply propext;omega
theorem dV (z a b:Int)(w:World):Calls Tryz.prog 53 #[J z,J a,J b] w fun e w'=>e=.returned (.bool (inB z a b))∧w'=w:=by
 by_cases h1:a≤z
 ·by_cases h2:z≤b
  ·have:inB z a b=true:=by simp[inB,h1,h2]
   rw[this]
   go_enter Tryz.func53,Tryz.ntmps53
   go_wp2
   go_ret
   exact⟨rfl,rfl⟩
  ·have:inB z a b=false:=by simp[inB,h2]
   rw[this]
   go_enter Tryz.func53,Tryz.ntmps53
   go_wp2
   go_ret
   exact⟨rfl,rfl⟩
 ·have:inB z a b=false:=by simp[inB,h1]
  rw[this]
  go_enter Tryz.func53,Tryz.ntmps53
  go_wp2
  go_ret
  exact⟨rfl,rfl⟩
def own (x:Ln):Int:=if rngB x=true then (if x.2.2.2.1=true then 0 else 3) else 2
theorem vS (d p a:Int)(r x:Bool):rngB (d,p,a,r,x)=(devB d&&pgB p&&pgB a):=rfl
set_option maxHeartbeats 1000000 in
theorem hU (d p a:Int)(r x:Bool)(w:World):
  Calls Tryz.prog 109 #[.agg #[J d,J p,J a,.bool r,.bool x]] w fun e w'=>e=.returned (J (own (d,p,a,r,x)))∧∃o,w'=w.alloc o:=by
 have ho:own (d,p,a,r,x)=if (devB d&&pgB p&&pgB a)=true then (if r=true then 0 else 3) else 2:=rfl
 rw[ho]
 clear ho
 cases h1:devB d
 ·go_enter Tryz.func109,Tryz.ntmps109
  go_wp2_with (first|(go_at_call 137;refine (gM _ _).mono ?_;rintro e w1 ⟨rfl,rfl⟩;rw[h1]))
  go_ret
  exact⟨rfl,_,rfl⟩
 cases h2:pgB p
 ·go_enter Tryz.func109,Tryz.ntmps109
  go_wp2_with (first|(go_at_call 137;refine (gM _ _).mono ?_;rintro e w1 ⟨rfl,rfl⟩;rw[h1])|(go_at_call 138;refine (jV _ _).mono ?_;rintro e w1 ⟨rfl,rfl⟩;rw[h2]))
  go_ret
  exact⟨rfl,_,rfl⟩
 cases h3:pgB a
 ·go_enter Tryz.func109,Tryz.ntmps109
  go_wp2_with (first|(go_at_call 137;refine (gM _ _).mono ?_;rintro e w1 ⟨rfl,rfl⟩;rw[h1])|(go_at_call 138;refine (jV _ _).mono ?_;rintro e w1 ⟨rfl,rfl⟩;first|rw[h2]|rw[h3]))
  go_ret
  exact⟨rfl,_,rfl⟩
 cases r
 all_goals
  go_enter Tryz.func109,Tryz.ntmps109
  go_wp2_with (first|(go_at_call 137;refine (gM _ _).mono ?_;rintro e w1 ⟨rfl,rfl⟩;rw[h1])|(go_at_call 138;refine (jV _ _).mono ?_;rintro e w1 ⟨rfl,rfl⟩;first|rw[h2]|rw[h3]))
  go_ret
  exact⟨rfl,_,rfl⟩
theorem yQ (n m:Nat)(d p d1 p1 a:Int)(r x:Bool)(w:World)(h1:w.cell? ⟨n,0,none⟩=some (J d))(h2:w.cell? ⟨m,0,none⟩=some (J p))(l1:n<w.heap.size)(l2:m<w.heap.size):
  Calls Tryz.prog 152 #[.agg #[J d1,J p1,J a,.bool r,.bool x],.pointer (some ⟨n,0,none⟩),.pointer (some ⟨m,0,none⟩)] w fun e w'=>e=.returned (.bool (hasB d p (d1,p1,a,r,x)))∧∃o,w'=w.alloc o:=by
 have ho:hasB d p (d1,p1,a,r,x)=(decide (d1=d)&&decide (p1=p)):=rfl
 rw[ho]
 clear ho
 by_cases e1:d1=d
 ·by_cases e2:p1=p
  ·subst e1 e2
   go_enter Tryz.func152,Tryz.ntmps152
   go_wp2
   go_ret
   exact⟨by simp,_,rfl⟩
  ·have q1:(d1==d)=true:=by simpa using e1
   have q2:(p1==p)=false:=by simpa using e2
   have q3:Hid ((decide (d1=d)&&decide (p1=p))=false):=by show _=_;simp[e2]
   rw[q3.out]
   clear e1 e2 q3
   go_enter Tryz.func152,Tryz.ntmps152
   go_wp2
   go_ret
   exact⟨rfl,_,rfl⟩
 ·have q1:(d1==d)=false:=by simpa using e1
  have q3:Hid ((decide (d1=d)&&decide (p1=p))=false):=by show _=_;simp[e1]
  rw[q3.out]
  clear e1 q3
  go_enter Tryz.func152,Tryz.ntmps152
  go_wp2
  go_ret
  exact⟨rfl,_,rfl⟩
theorem qF (d p:Int)(w:World):
  Calls Tryz.prog 129 #[J d,J p] w fun e w'=>e=.returned (.func (.func 152) #[] #[.pointer (some ⟨w.heap.size,0,none⟩),.pointer (some ⟨w.heap.size+1,0,none⟩)])∧w'=(w.alloc (.cells #[J d] 3)).alloc (.cells #[J p] 3):=by
 have hmf:∀(fn:Fn) (first cap:Array Value) (w:World),(Instr.makeFunc fn first cap).run Tryz.prog w=.ok (.func fn first cap) w:=fun _ _ _ _=>rfl
 go_enter Tryz.func129,Tryz.ntmps129
 go_wp2
 go_ret
 exact⟨rfl,rfl⟩
set_option maxHeartbeats 1000000 in
theorem mR (v:Value)(l:List Ln)(n m:Nat)(d p:Int)(w:World)(h:Ls w v l)(h1:w.cell? ⟨n,0,none⟩=some (J d))(h2:w.cell? ⟨m,0,none⟩=some (J p))(l1:n<w.heap.size)(l2:m<w.heap.size):
  Calls Tryz.prog 139 #[v,.func (.func 152) #[] #[.pointer (some ⟨n,0,none⟩),.pointer (some ⟨m,0,none⟩)]] w fun e w'=>e=.returned (J (fndC l d p))∧Below w.heap.size w w':=by
 obtain⟨a,cap,rfl,hl,hm,h⟩:=h
 unfold maxLen at hm
 rcases h with rfl|⟨b,o,rfl,hb,hc⟩
 ·go_enter Tryz.func139,Tryz.ntmps139
  go_wp2
  go_loopw [5,8] (fun _ i w'=>i=J 0∧w'=w) (fun _ i _=>0)
  case atStart=>exact⟨rfl,rfl⟩
  case round=>
   obtain⟨rfl,rfl⟩:=hrel
   go_wp2
   go_ret
   exact⟨aM (fL (fun j hj=>absurd hj (Nat.not_lt_zero _))).symm,Below.refl _ _⟩
 ·have HC:Hid _:=hc
  have H1:Hid _:=h1
  have H2:Hid _:=h2
  clear hc h1 h2
  go_enter Tryz.func139,Tryz.ntmps139
  go_wp2
  go_loopw [5,8] (fun _ i w'=>∃k:Nat,k≤l.length∧i=J k∧(∀j,j<k→hasB d p (lth l j)=false)∧Below w.heap.size w w') (fun _ i _=>l.length-(intOf i).toNat)
  case atStart=>exact⟨0,Nat.zero_le _,rfl,fun j hj=>absurd hj (Nat.not_lt_zero _),Below.refl _ _⟩
  case round=>
   obtain⟨k,hk,rfl,hpre,hB⟩:=hrel
   have HP:Hid _:=hpre
   have HB:Hid _:=hB
   by_cases hlt:k<l.length
   ·obtain⟨g0,g1,g2,g3,g4⟩:=(HC.out k hlt).keep hB hb
    have c1:Hid (wr.cell? ⟨n,0,none⟩=_):=((bcell hB).1 n 0 l1).trans H1.out
    have c2:Hid (wr.cell? ⟨m,0,none⟩=_):=((bcell hB).1 m 0 l2).trans H2.out
    have s1:n<wr.heap.size:=Nat.lt_of_lt_of_le l1 hB.size
    have s2:m<wr.heap.size:=Nat.lt_of_lt_of_le l2 hB.size
    have hb':b<wr.heap.size:=Nat.lt_of_lt_of_le hb hB.size
    obtain⟨y,hy⟩:∃y,y=lth l k:=⟨_,rfl⟩
    have HY:Hid _:=hy
    rw[←hy] at g0 g1 g2 g3 g4
    clear hy hpre hB
    obtain⟨d1,p1,a1,r1,x1⟩:=y
    simp only at g0 g1 g2 g3 g4
    have hlt1:(k:Int)<l.length:=by omega
    go_wp2_with fail
    refine (yQ n m d p d1 p1 a1 r1 x1 wr c1.out c2.out s1 s2).mono ?_
    rintro e w1 ⟨rfl,ob,rfl⟩
    cases hh:hasB d p (d1,p1,a1,r1,x1)
    ·have HN:Hid (hasB d p (lth l k)=false):=by show _=_;rw[←HY.out];exact hh
     go_wp2
     exact⟨⟨k+1,by omega,by go_num,dI HP.out HN.out,aA HB.out _⟩,by simp[intOf];omega⟩
    ·have HF:Hid (fndC l d p=k):=kU hlt (by rw[←HY.out];exact hh) HP.out
     go_wp2
     go_ret
     exact⟨aM HF.out.symm,aA HB.out _⟩
   ·have HF:Hid (fndC l d p=-1):=fL fun j hj=>HP.out j (by omega)
    clear hpre hB
    go_wp2
    go_ret
    exact⟨aM HF.out.symm,HB.out⟩
set_option maxHeartbeats 1000000 in
theorem gN (v:Value)(l:List Ln)(d p:Int)(w:World)(h:Ls w v l):
  Calls Tryz.prog 110 #[v,J d,J p] w fun e w'=>e=.returned (J (fndC l d p))∧Below w.heap.size w w':=by
 go_enter Tryz.func110,Tryz.ntmps110
 go_wp2_with fail
 refine (qF _ _ _).mono ?_
 rintro e w1 ⟨rfl,rfl⟩
 have B1:Hid (Below w.heap.size w ((w.alloc (.cells #[J d] 3)).alloc (.cells #[J p] 3))):=aA (aA (Below.refl _ _) _) _
 go_wp2_with fail
 refine (mR v l w.heap.size (w.heap.size+1) d p _ (h.keep B1.out) ?_ ?_ ?_ ?_).mono ?_
 ·simp[go_sem]
 ·simp[go_sem]
 ·simp;omega
 ·simp
 rintro e w2 ⟨rfl,b2⟩
 go_wp2
 go_ret
 exact⟨rfl,aB B1.out b2⟩
end Go.Proofs.YthlhocneggcekaaGreat
