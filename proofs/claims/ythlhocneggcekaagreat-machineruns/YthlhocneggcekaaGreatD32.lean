/-
  Laid together: ConcatL, HStateOf, HLoad.
-/
import Derived.Test.YthlhocneggcekaaGreatD28
import Derived.Lib.AppendZerosOnto
import Derived.Lib.SliceRun
namespace Go.Proofs.YthlhocneggcekaaGreat
open Go.RowKit
theorem aCc (w:World):Calls Tryz.prog 84 #[.slice none 0 0,J 0] w fun e w'=>e=.returned (.slice none 0 0)∧w'=w:=by
 go_enter Tryz.func84,Tryz.ntmps84
 go_wp2
 go_ret
 exact⟨rfl,rfl⟩
set_option maxHeartbeats 4000000 in
theorem grow_L (n:Nat)(h0:0<n)(hn:n≤1000)(w:World):
  Calls Tryz.prog 84 #[.slice none 0 0,J n] w fun e w'=>∃g c,e=.returned (.slice (some ⟨g,0,none⟩) 0 c)∧OwnL w' w.heap.size (.slice (some ⟨g,0,none⟩) 0 c) []∧Below w.heap.size w w':=by
 obtain⟨i,hi,hz,hsz,hby⟩:=infoLine
 obtain⟨z,hz'⟩:∃z,z=Value.agg #[J 0,J 0,J 0,.bool false,.bool false]:=⟨_,rfl⟩
 rw[←hz'] at hz
 have hzc:z.cells.size=5:=by subst hz';rfl
 clear hz'
 have hold:(Builtin.firstCells i.size 0 (.slice none 0 0)).run Tryz.prog w.drew=.ok (List.toArray []) w.drew:=run_firstCells_none w.drew i.size 0 0 0
 have hr:∀ty,(Builtin.append_ #[27,3] ty #[.slice none 0 0,J n]).run Tryz.prog w=_:=fun ty=>
  Lib.run_append_grow_zeros w 27 3 ty 52 i z .i64 .i64 Tryz.underlying27 Tryz.underlying3 hi hz none 0 0 [] hold n h0 (by omega) (by omega) (by omega) (by rw[hby];omega) (growslice_fits (by omega) (by rw[hby];omega))
 simp only[Nat.zero_add] at hr
 obtain⟨G,hG⟩:∃G,grownCap w n 0 52=G:=⟨_,rfl⟩
 rw[hG] at hr
 have hGn:n≤G:=by rw[←hG];exact grownCap_ge w _ _ _
 have hGm:G≤maxLen:=by rw[←hG];exact grownCap_le_maxLen w n 0 _ (by unfold maxLen;omega)
 obtain⟨cs,hcs⟩:∃cs,(List.toArray []++Builtin.zeroCells z.cells n++Builtin.zeroCells z.cells (G-n))=cs:=⟨_,rfl⟩
 rw[hcs] at hr
 have hcz:cs.size=G*5:=by
  rw[←hcs]
  simp only[Array.size_append,size_zeroCells,hzc]
  simp
  omega
 have hG63:G≤9223372036854775807:=by unfold maxLen at hGm;omega
 have h1:¬((n:Int)<0):=by omega
 have h4:(n:Int)>0:=by omega
 have HB:Hid (Below w.heap.size w (w.drew.alloc (.cells cs 52))):=aA (Below.drew (Below.refl _ _)) _
 have HO:Hid (OwnL (w.drew.alloc (.cells cs 52)) w.heap.size (.slice (some ⟨w.heap.size,0,none⟩) 0 G) []):=by
  refine⟨by simp,.inr ⟨w.heap.size,G,cs,rfl,Nat.le_refl _,?_,Nat.zero_le _,hGm,hcz,by simp⟩⟩
  exact heap_alloc_new w.drew _
 clear hi hz hsz hby hold hG hcs hcz hzc hGm
 go_enter Tryz.func84,Tryz.ntmps84
 go_wp2_with (at_builtin;refine Lib.wpList_append_run _ rfl _ _ _ _ rfl _ _ rfl rfl _ _ (hr _) ?_)
 all_goals (go_ret;exact⟨_,_,rfl,HO.out,HB.out⟩)
theorem iG (w:World)(ty:TypeId)(a:Option Addr)(c:Nat):(Builtin.append_ #[27,27] ty #[.slice none 0 0,.slice a 0 c]).run Tryz.prog w=.ok (.slice none 0 0) w:=by
 obtain⟨i,hi,hz,hsz,hby⟩:=infoLine
 cases a <;> simp[Builtin.append_,run_underlying Tryz.underlying27,sizeOf,typeInfo,hi,Builtin.lenOf,Builtin.firstCells,loadCells,loadCellsFrom]
def CatA (w:World)(a b:Nat)(s3 s11:Value)(wx:World):Prop:=w=wx∧((s11=J 0∧s3=J 0)∨(s11=J 1∧s3=J a)∨(s11=J 2∧s3=J (a+b:Nat)))
def CatB (w W:World)(l1 l2:List Ln)(s6 s27:Value)(wx:World):Prop:=
 Below w.heap.size w wx∧W.heap.size≤wx.heap.size∧∃g c,(s27=J 0∧s6=.slice (some ⟨g,0,none⟩) 0 c∧OwnL wx w.heap.size (.slice (some ⟨g,0,none⟩) 0 c) [])∨(s27=J 1∧s6=.slice (some ⟨g,0,none⟩) l1.length c∧OwnL wx w.heap.size (.slice (some ⟨g,0,none⟩) l1.length c) l1)∨(s27=J 2∧s6=.slice (some ⟨g,0,none⟩) (l1++l2).length c∧OwnL wx w.heap.size (.slice (some ⟨g,0,none⟩) (l1++l2).length c) (l1++l2))
def CatN (w:World)(s6 s27:Value)(wx:World):Prop:=w=wx∧s6=.slice none 0 0∧(s27=J 0∨s27=J 1∨s27=J 2)
set_option maxRecDepth 10000 in
set_option maxHeartbeats 4000000 in
theorem aAz (v1 v2:Value)(l1 l2:List Ln)(n:Nat)(t:TypeId)(w:World)(hX:Box w n t #[v1,v2])(h1:Ls w v1 l1)(h2:Ls w v2 l2)(hn:l1.length+l2.length≤1000):
  Calls Tryz.prog 54 #[.slice (some ⟨n,0,none⟩) 2 2] w fun e w'=>∃a c,e=.returned (.slice a (l1++l2).length c)∧OwnL w' w.heap.size (.slice a (l1++l2).length c) (l1++l2)∧Below w.heap.size w w':=by
 obtain⟨a1,c1,rfl,-⟩:=h1.shape
 obtain⟨a2,c2,rfl,-⟩:=h2.shape
 have H1:Hid (Ls w (.slice a1 l1.length c1) l1):=h1
 have H2:Hid (Ls w (.slice a2 l2.length c2) l2):=h2
 have x0:w.cell? ⟨n,0,none⟩=some (.slice a1 l1.length c1):=hX.cell 0
 have x1:w.cell? ⟨n,1,none⟩=some (.slice a2 l2.length c2):=hX.cell 1
 clear h1 h2
 go_enter Tryz.func54,Tryz.ntmps54
 go_wp2
 go_loopw [3,5,11] (fun s3 _ s11 wx=>CatA w l1.length l2.length s3 s11 wx) (fun _ _ s11 _=>2-(intOf s11).toNat)
 case atStart=>exact⟨rfl,.inl ⟨rfl,rfl⟩⟩
 case round=>
  obtain⟨rfl,hrel⟩:=hrel
  rcases hrel with ⟨rfl,rfl⟩|⟨rfl,rfl⟩|⟨rfl,rfl⟩
  ·have q1:¬(l1.length:Int)<0:=by omega
   go_wp2
   exact⟨⟨rfl,.inr (.inl ⟨rfl,rfl⟩)⟩,by simp[intOf]⟩
  ·have q1:¬(l1.length:Int)+(l2.length:Int)<0:=by omega
   have q2:wrap64 ((l1.length:Int)+(l2.length:Int))=(l1.length:Int)+(l2.length:Int):=by unfold wrap64;omega
   go_wp2
   exact⟨⟨rfl,.inr (.inr ⟨rfl,by go_num⟩)⟩,by simp[intOf]⟩
  ·by_cases h0:l1.length+l2.length=0
   ·rw[h0]
    have e1:l1=[]:=List.length_eq_zero_iff.1 (by omega)
    have e2:l2=[]:=List.length_eq_zero_iff.1 (by omega)
    subst e1 e2
    simp only[List.length_nil] at x0 x1 H1 H2
    go_wp2_with fail
    refine (aCc _).mono ?_
    rintro e w1 ⟨rfl,hw⟩
    replace hw:=hw.symm
    subst hw
    go_wp2
    go_loopw [6,8,27] (fun s6 _ s27 wx=>CatN w s6 s27 wx) (fun _ _ s27 _=>2-(intOf s27).toNat)
    case atStart=>exact⟨rfl,rfl,.inl rfl⟩
    case round=>
     obtain⟨rfl,rfl,hrel⟩:=hrel
     rcases hrel with rfl|rfl|rfl
     ·go_wp2_with (at_builtin;refine Lib.wpList_append_run _ rfl _ _ _ _ rfl _ _ rfl rfl _ _ (iG _ _ _ _) ?_)
      exact⟨⟨rfl,rfl,.inr (.inl rfl)⟩,by simp[intOf]⟩
     ·go_wp2_with (at_builtin;refine Lib.wpList_append_run _ rfl _ _ _ _ rfl _ _ rfl rfl _ _ (iG _ _ _ _) ?_)
      exact⟨⟨rfl,rfl,.inr (.inr rfl)⟩,by simp[intOf]⟩
     ·go_wp2
      go_ret
      exact⟨none,0,rfl,OwnL.nothing _ _,Below.refl _ _⟩
   ·go_wp2_with fail
    refine (grow_L (l1.length+l2.length) (by omega) hn _).mono ?_
    rintro e w1 ⟨g,c,rfl,hO,hB⟩
    have HB1:Hid (Below w.heap.size w w1):=hB
    have HO:Hid (OwnL w1 w.heap.size (.slice (some ⟨g,0,none⟩) 0 c) []):=hO
    have s1:=hX.lt
    clear hO hB
    go_wp2
    go_loopw [6,8,27] (fun s6 _ s27 wx=>CatB w w1 l1 l2 s6 s27 wx) (fun _ _ s27 _=>2-(intOf s27).toNat)
    case atStart=>exact⟨HB1.out,Nat.le_refl _,g,c,.inl ⟨rfl,rfl,HO.out⟩⟩
    case round=>
     obtain⟨hB,hsz,g,c,hrel⟩:=hrel
     have HB:Hid (Below w.heap.size w wr):=hB
     have hw:w.heap.size≤wr.heap.size:=hB.size
     have x0:=((bcell hB).1 n 0 s1).trans x0
     have x1:=((bcell hB).1 n 1 s1).trans x1
     have HL1:Hid (Ls wr (.slice a1 l1.length c1) l1):=H1.out.keep hB
     have HL2:Hid (Ls wr (.slice a2 l2.length c2) l2):=H2.out.keep hB
     have s2:n<wr.heap.size:=by omega
     clear hB
     rcases hrel with ⟨rfl,rfl,hO⟩|⟨rfl,rfl,hO⟩|⟨rfl,rfl,hO⟩
     ·have HO2:Hid (OwnL wr w.heap.size (.slice (some ⟨g,0,none⟩) 0 c) []):=hO
      clear hO
      go_wp2_with (at_builtin;refine bM rfl (.tmp 31) (.tmp 32) rfl w.heap.size _ _ [] l1 rfl rfl HO2.out HL1.out (by simp;omega) (by omega) (.inl ⟨_,_,_,rfl⟩) ?_)
      intro g2 c2' w2 hO2 hgr hb hat
      have HO3:Hid (OwnL w2 w.heap.size (.slice (some ⟨g2,0,none⟩) l1.length c2') l1):=hO2
      have B3:Hid (Below w.heap.size w w2):=gO HB.out HO2.out hgr
      have z3:wr.heap.size≤w2.heap.size:=hgr.size
      clear hO2 hgr hb hat
      go_wp2
      exact⟨⟨B3.out,by omega,g2,c2',.inr (.inl ⟨rfl,rfl,HO3.out⟩)⟩,by simp[intOf]⟩
     ·have HO2:Hid (OwnL wr w.heap.size (.slice (some ⟨g,0,none⟩) l1.length c) l1):=hO
      clear hO
      go_wp2_with (at_builtin;refine bM rfl (.tmp 31) (.tmp 32) rfl w.heap.size _ _ l1 l2 rfl rfl HO2.out HL2.out hn (by omega) (.inl ⟨_,_,_,rfl⟩) ?_)
      intro g2 c2' w2 hO2 hgr hb hat
      have HO3:Hid (OwnL w2 w.heap.size (.slice (some ⟨g2,0,none⟩) (l1++l2).length c2') (l1++l2)):=by show OwnL _ _ _ _;simpa using hO2
      have B3:Hid (Below w.heap.size w w2):=gO HB.out HO2.out hgr
      have z3:wr.heap.size≤w2.heap.size:=hgr.size
      clear hO2 hgr hb hat
      go_wp2
      exact⟨⟨B3.out,by omega,g2,c2',.inr (.inr ⟨rfl,by simp,HO3.out⟩)⟩,by simp[intOf]⟩
     ·have HO2:Hid (OwnL wr w.heap.size (.slice (some ⟨g,0,none⟩) (l1++l2).length c) (l1++l2)):=hO
      clear hO
      go_wp2
      go_ret
      exact⟨_,_,rfl,HO2.out,HB.out⟩
theorem uF {v1 v2:Value}{l1 l2:List Ln}{n:Nat}{t:TypeId}{w:World}{L:List Ln}(hX:Box w n t #[v1,v2])(h1:Ls w v1 l1)(h2:Ls w v2 l2)(hn:l1.length+l2.length≤1000)(hL:l1++l2=L):
  Calls Tryz.prog 54 #[.slice (some ⟨n,0,none⟩) 2 2] w fun e w'=>∃a c,e=.returned (.slice a L.length c)∧OwnL w' w.heap.size (.slice a L.length c) L∧Below w.heap.size w w':=by
 subst hL
 exact aAz v1 v2 l1 l2 n t w hX h1 h2 hn
theorem Ls.cutFrom {w:World}{b o n cap:Nat}{l:List Ln}(h:Ls w (.slice (some ⟨b,o,none⟩) n cap) l){j:Nat}(hj:j≤l.length):Ls w (.slice (some ⟨b,o+j*5,none⟩) (l.length-j) (cap-j)) (l.drop j):=by
 obtain⟨a,cap',e,hl,hm,h⟩:=h
 simp only[Value.slice.injEq] at e
 obtain⟨rfl,-,rfl⟩:=e
 have hd:(l.drop j).length=l.length-j:=by simp
 refine⟨_,_,by rw[hd],by omega,by omega,?_⟩
 rcases h with rfl|⟨b',o',e,hb,hc⟩
 ·simp
 ·simp only[Option.some.injEq,Addr.mk.injEq,and_true] at e
  obtain⟨rfl,rfl⟩:=e
  refine .inr ⟨b,o+j*5,rfl,hb,fun i hi=>?_⟩
  have e1:o+j*5+i*5=o+(j+i)*5:=by omega
  have e2:lth (l.drop j) i=lth l (j+i):=by simp[lth]
  rw[e1,e2]
  exact hc (j+i) (by omega)
theorem Ls.cutEnd {w:World}{b o n cap:Nat}{l:List Ln}(h:Ls w (.slice (some ⟨b,o,none⟩) n cap) l){j:Nat}(hj:j≤l.length):
  Ls w (.slice (if cap=j then some ⟨b,o,none⟩ else some ⟨b,o+j*5,none⟩) (l.length-j) (cap-j)) (l.drop j):=by
 have q:=h.cutFrom hj
 by_cases hq:cap=j
 ·obtain⟨a,cap',e,hl,hm,-⟩:=h
  simp only[Value.slice.injEq] at e
  obtain⟨-,-,rfl⟩:=e
  rw[if_pos hq]
  have q0:l.drop j=[]:=List.drop_eq_nil_of_le (by omega)
  have q1:l.length-j=0:=by omega
  rw[q0,q1]
  exact Ls.nil _ _ _ (by omega)
 ·rw[if_neg hq];exact q
theorem copy8 (w:World)(N b o cap:Nat)(vm vc:Value)(pc:Int)(rs rs0:List Int)(mo ba op oh ot fe fp fh ft:Int)(st lo:Bool)(h8:rs.length=8)(hN:Box w N 154 (rS vm pc rs0 mo ba vc op oh ot st fe fp fh ft lo))
  (hc:∀i,i<8→w.cell? ⟨b,o+i,none⟩=some (J (nth rs i))):
  ∃w3,(Builtin.copy_ #[22,22] 3 #[.slice (some ⟨N,2,none⟩) 8 8,.slice (some ⟨b,o,none⟩) 8 cap]).run Tryz.prog w=.ok (J 8) w3∧Box w3 N 154 (rS vm pc rs mo ba vc op oh ot st fe fp fh ft lo)∧
   (∀k,k≠N→w3.heap[k]?=w.heap[k]?)∧w3.heap.size=w.heap.size∧Below N w w3:=by
 have hl:(rs.map (fun z=>J z)).length=8:=by simp[h8]
 have h:=run_copy_row (P:=Tryz.prog) w 22 22 3 3 N 2 8 8 ⟨b,o,none⟩ 8 cap _ 154 (rs.map (fun z=>J z)) Tryz.underlying22 (by kernel_rfl) hN (by rw[hl];rfl)
  (fun j v hv=>by
   rw[List.getElem?_map] at hv
   by_cases hj:j<8
   ·rw[List.getElem?_eq_getElem (by omega)] at hv
    simp only[Option.map_some,Option.some.injEq] at hv
    have:=hc j hj
    rw[←hv]
    have ha:Addr.add ⟨b,o,none⟩ j=⟨b,o+j,none⟩:=by unfold Addr.add;split <;> simp_all
    rw[ha,this]
    simp[nth,h8,hj]
   ·rw[List.getElem?_eq_none (by omega)] at hv
    simp at hv) (by rw[hl];simp) (by
   intro v hv
   obtain⟨z,_,rfl⟩:=List.mem_map.1 hv
   rfl)
 have hm:rs.map (fun z=>J z)=[J (nth rs 0),J (nth rs 1),J (nth rs 2),J (nth rs 3),J (nth rs 4),J (nth rs 5),J (nth rs 6),J (nth rs 7)]:=by
  match rs,h8 with
  | [_,_,_,_,_,_,_,_],_=>rfl
 rw[hl,hm] at h
 exact⟨_,h,setRow_heap w N _ _ _ _ hN,fun k hk=>setRow_other w N k _ hk,by simp[World.setRow],⟨rfl,rfl,rfl,by simp[World.setRow],fun k hk=>setRow_other w N k _ (by omega)⟩⟩
set_option maxRecDepth 10000 in
set_option maxHeartbeats 4000000 in
theorem sL (v:Value)(zs:List Int)(p:Int)(u:Value)(r:List Int)(d:Bool)(mo ba op oh ot fe fp fh ft:Int)(st lo:Bool)(vc:Value)(l:List Ln)(w:World)(hs:Sl w v zs)(hr:Sl w u r)(h:Ls w vc l)(hz:zs.length=512)(h8:r.length=8)(h6:l.length≤6):
  Calls Tryz.prog 101 #[.agg #[v],.agg #[J p,u,.bool d],.agg (rB mo ba vc op oh ot st fe fp fh ft lo)] w fun e w'=>∃g k,e=.returned (.agg (rS (.slice (some ⟨g,0,none⟩) 512 512) p r mo ba (.slice (some ⟨k,0,none⟩) l.length l.length) op oh ot st fe fp fh ft lo))∧
   Sl w' (.slice (some ⟨g,0,none⟩) 512 512) zs∧Ls w' (.slice (some ⟨k,0,none⟩) l.length l.length) l∧w.heap.size≤g∧w.heap.size≤k∧Below w.heap.size w w':=by
 have HL:Hid (Ls w vc l):=h
 obtain⟨ca,cc,rfl,-⟩:=h.shape
 obtain⟨b,o,cap,rfl,hbb,hcs⟩:=hs.open512 hz
 have HCS:Hid (∀i,i<512→w.cell? ⟨b,o+i,none⟩=some (J (nth zs i))):=hcs
 obtain⟨ra,rc,rfl,hrl,hrr⟩:=hr
 rcases hrr with e|⟨rb,ro,rfl,hrb,hrc⟩
 ·exact absurd h8 (by rw[e];simp)
 rw[h8] at hrc ⊢
 have HRC:Hid (∀i,i<8→w.cell? ⟨rb,ro+i,none⟩=some (J (nth r i))):=hrc
 have HZ:Hid (zs.length=512):=hz
 have H8:Hid (r.length=8):=h8
 have H6:Hid (l.length≤6):=h6
 obtain⟨ck,hck⟩:∃ck,ck=l.length:=⟨_,rfl⟩
 have HCK:Hid (ck=l.length):=hck
 rw[←hck] at HL ⊢
 clear h hs hcs hrc hrl hz h8 h6 hck
 have X0:=(((Box.newAt (w:=w) (n:=w.heap.size) rfl 24 #[.slice (some ⟨b,o,none⟩) 512 cap]).past (.cells #[J p,.slice (some ⟨rb,ro,none⟩) 8 rc,.bool d] 26)).past (.cells (rB mo ba (.slice ca ck cc) op oh ot st fe fp fh ft lo) 31)).past (.cells zS 154)
 have X1:=((Box.newAt (w:=w.alloc (.cells #[.slice (some ⟨b,o,none⟩) 512 cap] 24)) (n:=w.heap.size+1) (by simp) 26 #[J p,.slice (some ⟨rb,ro,none⟩) 8 rc,.bool d]).past (.cells (rB mo ba (.slice ca ck cc) op oh ot st fe fp fh ft lo) 31)).past (.cells zS 154)
 have X2:=(Box.newAt (w:=(w.alloc (.cells #[.slice (some ⟨b,o,none⟩) 512 cap] 24)).alloc (.cells #[J p,.slice (some ⟨rb,ro,none⟩) 8 rc,.bool d] 26)) (n:=w.heap.size+1+1) (by simp) 31 (rB mo ba (.slice ca ck cc) op oh ot st fe fp fh ft lo)).past (.cells zS 154)
 have X3:=Box.newAt (w:=((w.alloc (.cells #[.slice (some ⟨b,o,none⟩) 512 cap] 24)).alloc (.cells #[J p,.slice (some ⟨rb,ro,none⟩) 8 rc,.bool d] 26)).alloc (.cells (rB mo ba (.slice ca ck cc) op oh ot st fe fp fh ft lo) 31)) (n:=w.heap.size+1+1+1) (by simp) 154 zS
 have B0:Hid (Below w.heap.size w _):=aA (aA (aA (aA (Below.refl w.heap.size w) (.cells #[.slice (some ⟨b,o,none⟩) 512 cap] 24)) (.cells #[J p,.slice (some ⟨rb,ro,none⟩) 8 rc,.bool d] 26)) (.cells (rB mo ba (.slice ca ck cc) op oh ot st fe fp fh ft lo) 31)) (.cells zS 154)
 have WS:Hid (((((w.alloc (.cells #[.slice (some ⟨b,o,none⟩) 512 cap] 24)).alloc (.cells #[J p,.slice (some ⟨rb,ro,none⟩) 8 rc,.bool d] 26)).alloc (.cells (rB mo ba (.slice ca ck cc) op oh ot st fe fp fh ft lo) 31)).alloc (.cells zS 154)).heap.size=w.heap.size+1+1+1+1):=by show _=_;simp
 go_enter Tryz.func101,Tryz.ntmps101
 go_upto_region 1 with fail
 generalize ((((w.alloc (.cells #[.slice (some ⟨b,o,none⟩) 512 cap] 24)).alloc (.cells #[J p,.slice (some ⟨rb,ro,none⟩) 8 rc,.bool d] 26)).alloc (.cells (rB mo ba (.slice ca ck cc) op oh ot st fe fp fh ft lo) 31)).alloc (.cells zS 154))=W at *
 refine wp_region_held_drew (S:=fun w'=>Below W.heap.size W w') (by kernel_rfl) (Below.drew (Below.refl _ _)) (fun hHeld=>?_)
 have CF:Cl (fun w'=>Below W.heap.size W w') _:=⟨fun wz hSz=>And.intro ((X1.keep hSz).three) ((X2.keep hSz).twelve)⟩
 refine tkH 1 rfl ?_
 refine tkH 2 rfl ?_
 refine tkH 3 rfl ?_
 refine bZ (i:=0) (j:=5) (by kernel_rfl) (by rfl) (by rfl) (fun K hK=>?_) (fun K hK=>?_)
 ·go_simp
  refine (iR _).mono ?_
  rintro e w5 ⟨g,rfl,hg5,hge,b5⟩
  go_wp2_with fail
  refine hK.out _ _ ?_ (fun hHeld2=>?_)
  ·exact aB hHeld b5
  clear hK K hHeld
  have hHeld:=hHeld2
  clear hHeld2
  refine tkH 4 rfl ?_
  refine aE (i:=5) (by kernel_rfl) (by rfl) (fun K hK=>?_)
  go_simp
  refine hK.out _ _ ?_ (fun hHeld2=>?_)
  ·exact aA hHeld _
  clear hK K hHeld
  have hHeld:=hHeld2
  clear hHeld2
  have XN:=Box.newAt (w:=w5) (n:=w5.heap.size) rfl 154 zS
  have hgE:W.heap.size≤g:=hge
  have hgl:g<w5.heap.size:=(Array.getElem?_eq_some_iff.1 hg5).1
  have GB:Box (w5.alloc (.cells zS 154)) g 3 zeroCells:=Box.past (t:=3) (cs:=zeroCells) hg5 _
  have hNE:w5.heap.size≠g:=by omega
  have hNW:W.heap.size≤w5.heap.size:=by omega
  generalize (w5.alloc (.cells zS 154))=W5 at *
  generalize w5.heap.size=N at *
  refine aE (i:=6) (by kernel_rfl) (by rfl) (fun K hK=>?_)
  rw[if_pos (by rfl)]
  refine wp_store_row 154 (.tmp 7) (.tmp 12) rfl N _ rfl rfl _ _ XN infoState rfl (stateOne _ _ _ _ _ _ _ _ _ _ _ _ _ _ _ _ _ _ _ _ _ _ _ _ _ _) ?_
  refine hK.out _ _ ?_ (fun hHeld2=>?_)
  ·exact aG hNW hHeld _
  clear hK K hHeld
  have hHeld:=hHeld2
  clear hHeld2
  refine wpAnyH_done (by kernel_rfl) ?_ _
  have XN:=XN.setRow #[.slice (some ⟨g,0,none⟩) 512 512,J p,J 0,J 0,J 0,J 0,J 0,J 0,J 0,J 0,J mo,J ba,.slice ca ck cc,J op,J oh,J ot,.bool st,J fe,J fp,J fh,J ft,.bool lo]
  have GB:=GB.otherRow (m:=N) (by omega) #[.slice (some ⟨g,0,none⟩) 512 512,J p,J 0,J 0,J 0,J 0,J 0,J 0,J 0,J 0,J mo,J ba,.slice ca ck cc,J op,J oh,J ot,.bool st,J fe,J fp,J fh,J ft,.bool lo]
  have X0:=X0.keep hHeld
  have X1:=X1.keep hHeld
  have X2:=X2.keep hHeld
  have X3:=X3.keep hHeld
  have B7:Hid (Below w.heap.size w _):=aB B0.out hHeld
  have ws:=WS.out
  clear hHeld B0
  generalize (W5.setRow N #[.slice (some ⟨g,0,none⟩) 512 512,J p,J 0,J 0,J 0,J 0,J 0,J 0,J 0,J 0,J mo,J ba,.slice ca ck cc,J op,J oh,J ot,.bool st,J fe,J fp,J fh,J ft,.bool lo])=W7 at *
  obtain⟨w3,hrun,hg3,ho3,hs3,hb3⟩:=eK W7 b o cap g zs zeroCells HZ.out GB (by simp[zeroCells,size_madeCells]) (fun i hi=>by
   rw[B7.out.cell (p:=⟨b,o+i,none⟩) hbb];exact HCS.out i hi)
  obtain⟨m0,-,s0⟩:=X0.one
  obtain⟨⟨c0,-⟩,-,sN⟩:=XN.state0
  go_upto_region 3 with fail
  have XN:Box w3 N 154 _:=(ho3 N hNE).trans XN
  have X1:Box w3 (w.heap.size+1) 26 _:=(ho3 _ (by omega)).trans X1
  have X2:Box w3 (w.heap.size+1+1) 31 _:=(ho3 _ (by omega)).trans X2
  have X3:Box w3 (w.heap.size+1+1+1) 154 _:=(ho3 _ (by omega)).trans X3
  have GB:Box w3 g 3 (intCells zs):=hg3
  have B3:Hid (Below w.heap.size w w3):=B7.out.trans (hb3.mono (by omega))
  clear hrun hg3 ho3 hb3 B7 m0 s0 c0 sN X0 hs3
  have XN:Box w3 N 154 (rS (.slice (some ⟨g,0,none⟩) 512 512) p (List.replicate 8 0) mo ba (.slice ca ck cc) op oh ot st fe fp fh ft lo):=XN
  obtain⟨w4,hrun,XN4,ho4,hs4,hb4⟩:=copy8 w3.drew N rb ro rc _ _ p r _ mo ba op oh ot fe fp fh ft st lo H8.out XN.drew (fun i hi=>by
   show w3.cell? _=_
   rw[B3.out.cell (p:=⟨rb,ro+i,none⟩) hrb];exact HRC.out i hi)
  refine cA (by kernel_rfl) 4 (fun w'=>Below w3.heap.size w3 w') (Below.drew (Below.refl _ _)) (fun hHeld=>?_)
  have CF:Cl (fun w'=>Below w3.heap.size w3 w') _:=⟨fun wz hSz=>(X1.keep hSz).three⟩
  refine tkL 0 rfl ?_
  refine tkL 1 rfl ?_
  refine tkL 2 rfl ?_
  refine tkL 3 rfl ?_
  refine bP (i:=4) (by kernel_rfl) (by rfl) (fun K hK=>?_)
  go_simp
  refine hK.out _ _ (fun h=>absurd h (by decide)) ?_
  clear hK K
  refine cZ (by kernel_rfl) ?_ _
  have X2:Box w4 (w.heap.size+1+1) 31 _:=(ho4 _ (by omega)).trans X2
  have X3:Box w4 (w.heap.size+1+1+1) 154 _:=(ho4 _ (by omega)).trans X3
  have GB:Box w4 g 3 (intCells zs):=(ho4 _ (by omega)).trans GB
  have B4:Hid (Below w.heap.size w w4):=(Below.drew B3.out).trans (hb4.mono (by omega))
  clear hrun ho4 hb4 hs4 B3 hHeld XN X1
  obtain⟨cur,hmk,hcur⟩:=makeLines w4 ck (by rw[HCK.out];exact H6.out)
  obtain⟨⟨d0,d1,d2,-⟩,s2⟩:=X2.twelve
  have cN:w4.cell? ⟨N,12,none⟩=some (.slice ca ck cc):=XN4.cell 12
  have fN:=XN4.marksAll
  have sN:=XN4.lt
  have GB0:=GB.lt
  go_upto_region 5 with fail
  have YN:Box ((w4.setCell ⟨N,12,none⟩ (.slice (some ⟨w4.heap.size,0,none⟩) ck ck)).alloc (.cells cur 52)) N 154 (rS (.slice (some ⟨g,0,none⟩) 512 512) p r mo ba (.slice (some ⟨w4.heap.size,0,none⟩) ck ck) op oh ot st fe fp fh ft lo):=Box.past (Box.set XN4 12 (.slice (some ⟨w4.heap.size,0,none⟩) ck ck)) _
  have Y2:=(X2.other (p:=⟨N,12,none⟩) (by show w.heap.size+1+1≠N;omega) (.slice (some ⟨w4.heap.size,0,none⟩) ck ck)).past (.cells cur 52)
  have Y3:=(X3.other (p:=⟨N,12,none⟩) (by show w.heap.size+1+1+1≠N;omega) (.slice (some ⟨w4.heap.size,0,none⟩) ck ck)).past (.cells cur 52)
  have GB:=(GB.other (p:=⟨N,12,none⟩) (by show g≠N;omega) (.slice (some ⟨w4.heap.size,0,none⟩) ck ck)).past (.cells cur 52)
  have LB:Box ((w4.setCell ⟨N,12,none⟩ (.slice (some ⟨w4.heap.size,0,none⟩) ck ck)).alloc (.cells cur 52)) w4.heap.size 52 cur:=Box.newAt (by simp[World.setCell]) _ _
  have B5:Hid (Below w.heap.size w ((w4.setCell ⟨N,12,none⟩ (.slice (some ⟨w4.heap.size,0,none⟩) ck ck)).alloc (.cells cur 52))):=aA (aI (by show w.heap.size≤N;omega) B4.out _) _
  have hgN:g<w4.heap.size:=GB0
  clear cN fN d0 d1 d2 s2 hmk B4 XN4 X2 X3
  generalize ((w4.setCell ⟨N,12,none⟩ (.slice (some ⟨w4.heap.size,0,none⟩) ck ck)).alloc (.cells cur 52))=w5x at *
  generalize w4.heap.size=kk at *
  obtain⟨w6,hcp,hg6,ho6,hs6,hb6⟩:=copyLines w5x 3 (.slice ca ck cc) kk l cur LB (by rw[hcur,HCK.out]) (HL.out.keep B5.out)
  rw[←HCK.out] at hcp
  obtain⟨⟨d0,d1,d2,-⟩,s2⟩:=Y2.twelve
  have cN:w5x.cell? ⟨N,12,none⟩=some (.slice (some ⟨kk,0,none⟩) ck ck):=YN.cell 12
  have sM:=YN.lt
  go_upto_region 6 with fail
  have YN:Box w6 N 154 _:=(ho6 N (by omega)).trans YN
  have Y3:Box w6 (w.heap.size+1+1+1) 154 _:=(ho6 _ (by omega)).trans Y3
  have GB:Box w6 g 3 (intCells zs):=(ho6 _ (by omega)).trans GB
  have LB:w6.heap[kk]?=some (.cells (l.flatMap cellsL).toArray 52 (0,0)):=hg6
  have B6:Hid (Below w.heap.size w w6):=B5.out.trans (hb6.mono (by omega))
  clear hcp ho6 hb6 hs6 B5 d0 d1 d2 s2 cN Y2 hg6
  go_wp2_with (first
   | (refine wpList_load_row rfl 154 (.tmp 7) rfl N rfl _ _ _ _ YN Tryz.underlying154 rfl infoState ?_)
   | (refine wpList_store_row rfl 154 (.tmp 6) (.tmp 36) rfl (w.heap.size+1+1+1) _ rfl rfl _ _ Y3 infoState rfl (stateOne _ _ _ _ _ _ _ _ _ _ _ _ _ _ _ _ _ _ _ _ _ _ _ _ _ _) ?_))
  refine bodyPost_ret (v:=.agg (rS (.slice (some ⟨g,0,none⟩) 512 512) p r mo ba (.slice (some ⟨kk,0,none⟩) ck ck) op oh ot st fe fp fh ft lo)) (results_cell_row Tryz.results101 _ _ (w.heap.size+1+1+1) _ _ _ _ rfl (Y3.setRow _) Tryz.underlying154 rfl infoState) rfl ⟨g,kk,rfl,?_,?_,by omega,by omega,aG (by omega) B6.out _⟩
  ·exact bG (cs:=intCells zs) (t:=3) (fr:=(0,0)) (GB.otherRow (by omega) _) (bX _) HZ.out.symm (by rw[HZ.out];simp[maxLen])
  ·rw[HCK.out]
   exact jC (Box.otherRow (t:=52) (cs:=(l.flatMap cellsL).toArray) LB (by omega) _) H6.out
 ·go_simp
  refine hK.out _ _ ?_ (fun hHeld2=>?_)
  ·exact aA hHeld _
  clear hK K hHeld
  have hHeld:=hHeld2
  clear hHeld2
  refine aE (i:=0) (by kernel_rfl) (by rfl) (fun K hK=>?_)
  go_simp
  refine (iR _).mono ?_
  rintro e w5 ⟨g,rfl,hg5,hge,b5⟩
  have XN:=((Box.newAt (w:=W) (n:=W.heap.size) rfl 154 zS).drew.keep b5)
  have hgE:W.heap.size+1≤g:=by simpa using hge
  have GB:Box w5 g 3 zeroCells:=hg5
  go_wp2_with fail
  refine hK.out _ _ ?_ (fun hHeld2=>?_)
  ·exact aB hHeld b5
  clear hK K hHeld
  have hHeld:=hHeld2
  clear hHeld2
  refine tkH 4 rfl ?_
  have hNE:W.heap.size≠g:=by omega
  have hNW:W.heap.size≤W.heap.size:=Nat.le_refl _
  refine aE (i:=6) (by kernel_rfl) (by rfl) (fun K hK=>?_)
  rw[if_pos (by rfl)]
  refine wp_store_row 154 (.tmp 7) (.tmp 12) rfl W.heap.size _ rfl rfl _ _ XN infoState rfl (stateOne _ _ _ _ _ _ _ _ _ _ _ _ _ _ _ _ _ _ _ _ _ _ _ _ _ _) ?_
  refine hK.out _ _ ?_ (fun hHeld2=>?_)
  ·exact aG hNW hHeld _
  clear hK K hHeld
  have hHeld:=hHeld2
  clear hHeld2
  refine wpAnyH_done (by kernel_rfl) ?_ _
  have XN:=XN.setRow #[.slice (some ⟨g,0,none⟩) 512 512,J p,J 0,J 0,J 0,J 0,J 0,J 0,J 0,J 0,J mo,J ba,.slice ca ck cc,J op,J oh,J ot,.bool st,J fe,J fp,J fh,J ft,.bool lo]
  have GB:=GB.otherRow (m:=W.heap.size) (by omega) #[.slice (some ⟨g,0,none⟩) 512 512,J p,J 0,J 0,J 0,J 0,J 0,J 0,J 0,J 0,J mo,J ba,.slice ca ck cc,J op,J oh,J ot,.bool st,J fe,J fp,J fh,J ft,.bool lo]
  have X0:=X0.keep hHeld
  have X1:=X1.keep hHeld
  have X2:=X2.keep hHeld
  have X3:=X3.keep hHeld
  have B7:Hid (Below w.heap.size w _):=aB B0.out hHeld
  have ws:=WS.out
  obtain⟨N,hN⟩:∃N,W.heap.size=N:=⟨_,rfl⟩
  rw[hN] at XN GB X0 X1 X2 X3 hNE hgE B7 ⊢
  have hNW:W.heap.size≤N:=by omega
  have hgE:W.heap.size≤g:=by omega
  clear hN
  obtain⟨W5,hW5⟩:∃W5,w5=W5:=⟨_,rfl⟩
  rw[hW5] at XN GB X0 X1 X2 X3 B7 ⊢
  clear hW5
  clear hHeld B0
  generalize (W5.setRow N #[.slice (some ⟨g,0,none⟩) 512 512,J p,J 0,J 0,J 0,J 0,J 0,J 0,J 0,J 0,J mo,J ba,.slice ca ck cc,J op,J oh,J ot,.bool st,J fe,J fp,J fh,J ft,.bool lo])=W7 at *
  obtain⟨w3,hrun,hg3,ho3,hs3,hb3⟩:=eK W7 b o cap g zs zeroCells HZ.out GB (by simp[zeroCells,size_madeCells]) (fun i hi=>by
   rw[B7.out.cell (p:=⟨b,o+i,none⟩) hbb];exact HCS.out i hi)
  obtain⟨m0,-,s0⟩:=X0.one
  obtain⟨⟨c0,-⟩,-,sN⟩:=XN.state0
  go_upto_region 3 with fail
  have XN:Box w3 N 154 _:=(ho3 N hNE).trans XN
  have X1:Box w3 (w.heap.size+1) 26 _:=(ho3 _ (by omega)).trans X1
  have X2:Box w3 (w.heap.size+1+1) 31 _:=(ho3 _ (by omega)).trans X2
  have X3:Box w3 (w.heap.size+1+1+1) 154 _:=(ho3 _ (by omega)).trans X3
  have GB:Box w3 g 3 (intCells zs):=hg3
  have B3:Hid (Below w.heap.size w w3):=B7.out.trans (hb3.mono (by omega))
  clear hrun hg3 ho3 hb3 B7 m0 s0 c0 sN X0 hs3
  have XN:Box w3 N 154 (rS (.slice (some ⟨g,0,none⟩) 512 512) p (List.replicate 8 0) mo ba (.slice ca ck cc) op oh ot st fe fp fh ft lo):=XN
  obtain⟨w4,hrun,XN4,ho4,hs4,hb4⟩:=copy8 w3.drew N rb ro rc _ _ p r _ mo ba op oh ot fe fp fh ft st lo H8.out XN.drew (fun i hi=>by
   show w3.cell? _=_
   rw[B3.out.cell (p:=⟨rb,ro+i,none⟩) hrb];exact HRC.out i hi)
  refine cA (by kernel_rfl) 4 (fun w'=>Below w3.heap.size w3 w') (Below.drew (Below.refl _ _)) (fun hHeld=>?_)
  have CF:Cl (fun w'=>Below w3.heap.size w3 w') _:=⟨fun wz hSz=>(X1.keep hSz).three⟩
  refine tkL 0 rfl ?_
  refine tkL 1 rfl ?_
  refine tkL 2 rfl ?_
  refine tkL 3 rfl ?_
  refine bP (i:=4) (by kernel_rfl) (by rfl) (fun K hK=>?_)
  go_simp
  refine hK.out _ _ (fun h=>absurd h (by decide)) ?_
  clear hK K
  refine cZ (by kernel_rfl) ?_ _
  have X2:Box w4 (w.heap.size+1+1) 31 _:=(ho4 _ (by omega)).trans X2
  have X3:Box w4 (w.heap.size+1+1+1) 154 _:=(ho4 _ (by omega)).trans X3
  have GB:Box w4 g 3 (intCells zs):=(ho4 _ (by omega)).trans GB
  have B4:Hid (Below w.heap.size w w4):=(Below.drew B3.out).trans (hb4.mono (by omega))
  clear hrun ho4 hb4 hs4 B3 hHeld XN X1
  obtain⟨cur,hmk,hcur⟩:=makeLines w4 ck (by rw[HCK.out];exact H6.out)
  obtain⟨⟨d0,d1,d2,-⟩,s2⟩:=X2.twelve
  have cN:w4.cell? ⟨N,12,none⟩=some (.slice ca ck cc):=XN4.cell 12
  have fN:=XN4.marksAll
  have sN:=XN4.lt
  have GB0:=GB.lt
  go_upto_region 5 with fail
  have YN:Box ((w4.setCell ⟨N,12,none⟩ (.slice (some ⟨w4.heap.size,0,none⟩) ck ck)).alloc (.cells cur 52)) N 154 (rS (.slice (some ⟨g,0,none⟩) 512 512) p r mo ba (.slice (some ⟨w4.heap.size,0,none⟩) ck ck) op oh ot st fe fp fh ft lo):=Box.past (Box.set XN4 12 (.slice (some ⟨w4.heap.size,0,none⟩) ck ck)) _
  have Y2:=(X2.other (p:=⟨N,12,none⟩) (by show w.heap.size+1+1≠N;omega) (.slice (some ⟨w4.heap.size,0,none⟩) ck ck)).past (.cells cur 52)
  have Y3:=(X3.other (p:=⟨N,12,none⟩) (by show w.heap.size+1+1+1≠N;omega) (.slice (some ⟨w4.heap.size,0,none⟩) ck ck)).past (.cells cur 52)
  have GB:=(GB.other (p:=⟨N,12,none⟩) (by show g≠N;omega) (.slice (some ⟨w4.heap.size,0,none⟩) ck ck)).past (.cells cur 52)
  have LB:Box ((w4.setCell ⟨N,12,none⟩ (.slice (some ⟨w4.heap.size,0,none⟩) ck ck)).alloc (.cells cur 52)) w4.heap.size 52 cur:=Box.newAt (by simp[World.setCell]) _ _
  have B5:Hid (Below w.heap.size w ((w4.setCell ⟨N,12,none⟩ (.slice (some ⟨w4.heap.size,0,none⟩) ck ck)).alloc (.cells cur 52))):=aA (aI (by show w.heap.size≤N;omega) B4.out _) _
  have hgN:g<w4.heap.size:=GB0
  clear cN fN d0 d1 d2 s2 hmk B4 XN4 X2 X3
  generalize ((w4.setCell ⟨N,12,none⟩ (.slice (some ⟨w4.heap.size,0,none⟩) ck ck)).alloc (.cells cur 52))=w5x at *
  generalize w4.heap.size=kk at *
  obtain⟨w6,hcp,hg6,ho6,hs6,hb6⟩:=copyLines w5x 3 (.slice ca ck cc) kk l cur LB (by rw[hcur,HCK.out]) (HL.out.keep B5.out)
  rw[←HCK.out] at hcp
  obtain⟨⟨d0,d1,d2,-⟩,s2⟩:=Y2.twelve
  have cN:w5x.cell? ⟨N,12,none⟩=some (.slice (some ⟨kk,0,none⟩) ck ck):=YN.cell 12
  have sM:=YN.lt
  go_upto_region 6 with fail
  have YN:Box w6 N 154 _:=(ho6 N (by omega)).trans YN
  have Y3:Box w6 (w.heap.size+1+1+1) 154 _:=(ho6 _ (by omega)).trans Y3
  have GB:Box w6 g 3 (intCells zs):=(ho6 _ (by omega)).trans GB
  have LB:w6.heap[kk]?=some (.cells (l.flatMap cellsL).toArray 52 (0,0)):=hg6
  have B6:Hid (Below w.heap.size w w6):=B5.out.trans (hb6.mono (by omega))
  clear hcp ho6 hb6 hs6 B5 d0 d1 d2 s2 cN Y2 hg6
  go_wp2_with (first
   | (refine wpList_load_row rfl 154 (.tmp 7) rfl N rfl _ _ _ _ YN Tryz.underlying154 rfl infoState ?_)
   | (refine wpList_store_row rfl 154 (.tmp 6) (.tmp 36) rfl (w.heap.size+1+1+1) _ rfl rfl _ _ Y3 infoState rfl (stateOne _ _ _ _ _ _ _ _ _ _ _ _ _ _ _ _ _ _ _ _ _ _ _ _ _ _) ?_))
  refine bodyPost_ret (v:=.agg (rS (.slice (some ⟨g,0,none⟩) 512 512) p r mo ba (.slice (some ⟨kk,0,none⟩) ck ck) op oh ot st fe fp fh ft lo)) (results_cell_row Tryz.results101 _ _ (w.heap.size+1+1+1) _ _ _ _ rfl (Y3.setRow _) Tryz.underlying154 rfl infoState) rfl ⟨g,kk,rfl,?_,?_,by omega,by omega,aG (by omega) B6.out _⟩
  ·exact bG (cs:=intCells zs) (t:=3) (fr:=(0,0)) (GB.otherRow (by omega) _) (bX _) HZ.out.symm (by rw[HZ.out];simp[maxLen])
  ·rw[HCK.out]
   exact jC (Box.otherRow (t:=52) (cs:=(l.flatMap cellsL).toArray) LB (by omega) _) H6.out
set_option maxRecDepth 10000 in
set_option maxHeartbeats 4000000 in
theorem aA0 (am:Option Addr)(nm cm:Nat)(zs:List Int)(pc:Int)(rs:List Int)(mo ba op oh ot fe fp fh ft:Int)(st lo:Bool)(ca:Option Addr)(ck cc:Nat)(k x y i:Int)(w:World)(hs:Sl w (.slice am nm cm) zs)(hz:chk zs=0)(h8:rs.length=8)(hw:∀j,j<8→0≤nth rs j∧nth rs j≤65535)
  (hx:0≤x∧x≤7) (hy:0≤y∧y≤7) (hi:0≤i∧i≤63):
  Calls Tryz.prog 156 #[.agg (rS (.slice am nm cm) pc rs mo ba (.slice ca ck cc) op oh ot st fe fp fh ft lo),.agg #[J k,J x,J y,J i]] w fun e w'=>
   ∃z,e=.returned (.tuple #[.agg (rS (.slice am nm cm) pc (rs.set x.toNat z) mo ba (.slice ca ck cc) op oh ot st fe fp fh ft lo),.bool (decide (nth rs y.toNat+i≤511))])∧(nth rs y.toNat+i≤511→z=nth zs (nth rs y.toNat+i).toNat)∧Below w.heap.size w w':=by
 have HM:Hid (Sl w (.slice am nm cm) zs):=hs
 have H8:Hid (rs.length=8):=h8
 obtain⟨hx0,hx1⟩:=hx
 obtain⟨hy0,hy1⟩:=hy
 obtain⟨hi0,hi1⟩:=hi
 have hx9:x<8:=by omega
 have hy9:y<8:=by omega
 have hx8:x.toNat<8:=by omega
 have hy8:y.toNat<8:=by omega
 have rx:=hw x.toNat hx8
 have ry:=hw y.toNat hy8
 have hrd:rdE zs (nth rs y.toNat+i)=if nth rs y.toNat+i≤511 then 0 else 4:=by
  unfold rdE placeB
  rw[if_pos hz]
  by_cases e:nth rs y.toNat+i≤511
  ·rw[if_pos (decide_eq_true (by omega)),if_pos e]
  ·rw[if_neg (by simp;omega),if_neg e]
 have hrv:nth rs y.toNat+i≤511→rdV zs (nth rs y.toNat+i)=nth zs (nth rs y.toNat+i).toNat:=fun e=>by
  unfold rdV placeB
  rw[if_pos ⟨hz,decide_eq_true (by omega)⟩]
 obtain⟨two,h2⟩:∃two,nth rs y.toNat=two:=⟨_,rfl⟩
 have H2:Hid (nth rs y.toNat=two):=h2
 rw[h2] at hrd hrv ry ⊢
 obtain⟨z,hz1⟩:∃z,rdV zs (two+i)=z:=⟨_,rfl⟩
 obtain⟨ee,he1⟩:∃ee,rdE zs (two+i)=ee:=⟨_,rfl⟩
 rw[he1] at hrd
 rw[hz1] at hrv
 have HZ1:Hid _:=hz1
 have HE1:Hid _:=he1
 have HRV:Hid _:=hrv
 have HOK:Hid ((ee==0)=decide (two+i≤511)):=by
  show _=_
  rw[hrd]
  by_cases e:two+i≤511
  ·rw[if_pos e,decide_eq_true e];rfl
  ·rw[if_neg e,decide_eq_false e];rfl
 obtain⟨ok,hok⟩:∃ok,(ee==0)=ok:=⟨_,rfl⟩
 have hwr:IntKind.i64.wrap (two+i)=two+i:=cF _ (by omega) (by omega)
 clear hz1 he1 hrv hrd h2 hs h8 hw rx
 go_enter Tryz.func156,Tryz.ntmps156
 go_upto_region 1 with fail
 have X0:=((Box.newAt (w:=w) (n:=w.heap.size) rfl 154 (rS (.slice am nm cm) pc rs mo ba (.slice ca ck cc) op oh ot st fe fp fh ft lo)).past (.cells #[J k,J x,J y,J i] 130)).past (.cells zS 154)
 have X1:=(Box.newAt (w:=w.alloc (.cells (rS (.slice am nm cm) pc rs mo ba (.slice ca ck cc) op oh ot st fe fp fh ft lo) 154)) (n:=w.heap.size+1) (by simp) 130 #[J k,J x,J y,J i]).past (.cells zS 154)
 have X2:=Box.newAt (w:=(w.alloc (.cells (rS (.slice am nm cm) pc rs mo ba (.slice ca ck cc) op oh ot st fe fp fh ft lo) 154)).alloc (.cells #[J k,J x,J y,J i] 130)) (n:=w.heap.size+1+1) (by simp) 154 zS
 have B0:Hid (Below w.heap.size w _):=aA (aA (aA (Below.refl w.heap.size w) (.cells (rS (.slice am nm cm) pc rs mo ba (.slice ca ck cc) op oh ot st fe fp fh ft lo) 154)) (.cells #[J k,J x,J y,J i] 130)) (.cells zS 154)
 generalize (((w.alloc (.cells (rS (.slice am nm cm) pc rs mo ba (.slice ca ck cc) op oh ot st fe fp fh ft lo) 154)).alloc (.cells #[J k,J x,J y,J i] 130)).alloc (.cells zS 154))=W at *
 refine wp_region_held_drew (S:=fun w'=>Below W.heap.size W w') (by kernel_rfl) (Below.drew (Below.refl _ _)) (fun hHeld=>?_)
 have CF:Cl (fun w'=>Below W.heap.size W w') _:=⟨fun wz hSz=>And.intro ((X0.keep hSz).state) (And.intro ((X1.keep hSz).four) (And.intro ((X0.keep hSz).reg hx8) (eqJ ((X0.keep hSz).reg hy8) H2.out)))⟩
 refine tkH 0 rfl ?_
 refine tkH 1 rfl ?_
 refine tkH 2 rfl ?_
 refine tkH 3 rfl ?_
 refine tkH 4 rfl ?_
 refine tkH 5 rfl ?_
 refine tkH 6 rfl ?_
 refine tkH 7 rfl ?_
 refine tkH 8 rfl ?_
 refine tkH 9 rfl ?_
 refine aE (i:=10) (by kernel_rfl) (by rfl) (fun K hK=>?_)
 go_simp
 refine (yH _ zs (two+i) _ (HM.out.keep (aB B0.out hHeld))).mono ?_
 rintro e w5 ⟨rfl,b5⟩
 rw[HZ1.out,HE1.out]
 go_wp2_with fail
 refine hK.out _ _ ?_ (fun hHeld2=>?_)
 ·exact aB hHeld b5
 clear hK K hHeld
 have hHeld:=hHeld2
 clear hHeld2
 refine tkH 11 rfl ?_
 refine tkH 12 rfl ?_
 refine tkH 13 rfl ?_
 refine tkH 14 rfl ?_
 refine tkH 15 rfl ?_
 refine wpAnyH_done (by kernel_rfl) ?_ _
 have X0:=X0.keep hHeld
 have X1:=X1.keep hHeld
 have X2:=X2.keep hHeld
 have B5:Hid (Below w.heap.size w w5):=aB B0.out hHeld
 clear hHeld b5 B0
 have Y0:=X0.setReg hx8 H8.out z
 have Y2:=X2.other (p:=⟨w.heap.size,2+x.toNat,none⟩) (by show w.heap.size+1+1≠w.heap.size;omega) (J z)
 have B6:Hid (Below w.heap.size w (w5.setCell ⟨w.heap.size,2+x.toNat,none⟩ (J z))):=aI (by show w.heap.size≤w.heap.size;omega) B5.out _
 obtain⟨i0,i1,i2,i3,-,-,-,-,s1⟩:=X1.four
 have gx:=X0.reg hx8
 have fx:=X0.marksAll
 have s0:=X0.lt
 go_upto_region 3 with fail
 clear gx fx s0 X0 X2
 generalize (w5.setCell ⟨w.heap.size,2+x.toNat,none⟩ (J z))=W6 at *
 go_wp2_with (first
  | (refine wpList_load_row rfl 154 (.tmp 2) rfl w.heap.size rfl _ _ _ _ Y0 Tryz.underlying154 rfl infoState ?_)
  | (refine wpList_store_row rfl 154 (.tmp 4) (.tmp 27) rfl (w.heap.size+1+1) _ rfl rfl _ _ Y2 infoState rfl (stateOne _ _ _ _ _ _ _ _ _ _ _ _ _ _ _ _ _ _ _ _ _ _ _ _ _ _) ?_))
 have hl:=Box.loadState (Y2.setRow (rS (.slice am nm cm) pc (rs.set x.toNat z) mo ba (.slice ca ck cc) op oh ot st fe fp fh ft lo)) rfl
 refine bodyPost_ret (v:=.tuple #[.agg (rS (.slice am nm cm) pc (rs.set x.toNat z) mo ba (.slice ca ck cc) op oh ot st fe fp fh ft lo),.bool ok]) (by simp[results,Tryz.results156,asAddr,hl]) rfl ⟨z,by rw[←HOK.out,hok],HRV.out,?_⟩
 exact aG (by omega) B6.out _
end Go.Proofs.YthlhocneggcekaaGreat
