/-
  Laid together: CheckC, AppendL, FillC, Ring1.
-/
import Derived.Test.YthlhocneggcekaaGreatD3
namespace Go.Proofs.YthlhocneggcekaaGreat
open Go.RowKit
theorem Ls.take {w:World}{a:Option Addr}{n cap:Nat}{l:List Ln}(h:Ls w (.slice a n cap) l){k:Nat}(hk:k≤l.length):Ls w (.slice a k cap) (l.take k):=by
 obtain⟨a',cap',e,hl,hm,h⟩:=h
 simp only[Value.slice.injEq] at e
 obtain⟨rfl,_,rfl⟩:=e
 have hn:(l.take k).length=k:=by simp;omega
 refine⟨a,cap,by rw[hn],by omega,hm,?_⟩
 rcases h with rfl|⟨b,o,rfl,hb,hc⟩
 ·exact .inl (by simp)
 ·refine .inr ⟨b,o,rfl,hb,fun i hi=>?_⟩
  rw[hn] at hi
  have:lth (l.take k) i=lth l i:=by simp[lth,hi]
  rw[this]
  exact hc i (by omega)
theorem Ls.drop {w:World}{b o n cap:Nat}{l:List Ln}(h:Ls w (.slice (some ⟨b,o,none⟩) n cap) l){k:Nat}(hk:k≤l.length):Ls w (.slice (some ⟨b,o+k*5,none⟩) (l.length-k) (cap-k)) (l.drop k):=by
 obtain⟨a',cap',e,hl,hm,h⟩:=h
 simp only[Value.slice.injEq] at e
 obtain⟨rfl,_,rfl⟩:=e
 have hn:(l.drop k).length=l.length-k:=by simp
 refine⟨_,cap-k,by rw[hn],by omega,by omega,?_⟩
 rcases h with rfl|⟨b',o',e,hb,hc⟩
 ·exact .inl (by simp)
 ·simp only[Option.some.injEq,Addr.mk.injEq,and_true] at e
  obtain⟨rfl,rfl⟩:=e
  refine .inr ⟨b,o+k*5,rfl,hb,fun i hi=>?_⟩
  rw[hn] at hi
  have hlth:lth (l.drop k) i=lth l (k+i):=by simp[lth]
  rw[hlth]
  have:=hc (k+i) (by omega)
  rwa [Nat.add_mul,←Nat.add_assoc] at this
theorem lK (l:List Ln)(x:Ln):l.any (keyB x)=true↔0≤fndC l x.1 x.2.1:=by
 have h:=@qE l x.1 x.2.1
 constructor
 ·intro ha
  have:¬fndC l x.1 x.2.1<0:=fun hn=>by
   obtain⟨y,hy,hk⟩:=List.any_eq_true.1 ha
   have:=h.1 hn y hy
   rw[kV,hk] at this
   exact absurd this (by decide)
  omega
 ·intro h0
  cases ha:l.any (keyB x)
  ·exfalso
   have:fndC l x.1 x.2.1<0:=h.2 fun y hy=>by
    rw[kV]
    rw[List.any_eq_false] at ha
    simpa using ha y hy
   omega
  ·rfl
theorem lL {l:List Ln}{k:Nat}(h:¬own (lth l k)=0):errL l k=own (lth l k):=by
 unfold errL own at *
 cases h1:rngB (lth l k)
 ·simp
 ·cases h2:(lth l k).2.2.2.1
  ·simp
  ·simp[h1,h2] at h
theorem lM {l:List Ln}{k:Nat}(h:own (lth l k)=0)(hf:0≤fndC (l.take k) (lth l k).1 (lth l k).2.1):errL l k=5:=by
 unfold errL own at *
 cases h1:rngB (lth l k)
 ·simp[h1] at h
 ·cases h2:(lth l k).2.2.2.1
  ·simp[h1,h2] at h
  ·simp only[if_true]
   rw[if_pos ((lK _ _).2 hf)]
theorem jX {l:List Ln}{k:Nat}(h:own (lth l k)=0)(hf:¬0≤fndC (l.take k) (lth l k).1 (lth l k).2.1):errL l k=0:=by
 unfold errL own at *
 cases h1:rngB (lth l k)
 ·simp[h1] at h
 ·cases h2:(lth l k).2.2.2.1
  ·simp[h1,h2] at h
  ·simp only[if_true]
   rw[if_neg fun ha=>hf ((lK _ _).1 ha)]
theorem keep2 {W w':World}{n:Nat}{u v:Value}(h0:W.cell? ⟨n,0,none⟩=some u)(h1:W.cell? ⟨n,1,none⟩=some v)(hn:n<W.heap.size)(hb:Below W.heap.size W w'):
  w'.cell? ⟨n,0,none⟩=some u∧w'.cell? ⟨n,1,none⟩=some v∧Below W.heap.size W w':=
 ⟨((bcell hb).1 n 0 hn).trans h0,((bcell hb).1 n 1 hn).trans h1,hb⟩
set_option maxHeartbeats 1000000 in
theorem dE (v:Value)(l:List Ln)(w:World)(h:Ls w v l):
  Calls Tryz.prog 75 #[v] w fun e w'=>e=.returned (J (chkC l))∧Below w.heap.size w w':=by
 have HL:Hid (Ls w v l):=h
 obtain⟨a,cap,rfl,hl,hm,h⟩:=h
 unfold maxLen at hm
 by_cases h6:6<l.length
 ·have e6:chkC l=1:=jU h6
  rw[e6]
  have h6':(6:Int)<l.length:=by omega
  go_enter Tryz.func75,Tryz.ntmps75
  go_wp2
  go_ret
  exact⟨rfl,Below.refl _ _⟩
 have h6':¬(6:Int)<l.length:=by omega
 have hmz:(l.length:Int)≤6:=by omega
 rcases h with rfl|⟨b,o,rfl,hb,hc⟩
 ·go_enter Tryz.func75,Tryz.ntmps75
  go_wp2
  go_loopw [3,4,5,11] (fun _ _ _ i w'=>i=J 0∧w'=w) (fun _ _ _ i _=>0)
  case atStart=>exact⟨rfl,rfl⟩
  case round=>
   obtain⟨rfl,rfl⟩:=hrel
   go_wp2
   go_ret
   exact⟨aM (fJ h6 (fun j hj=>absurd hj (Nat.not_lt_zero _))).symm,Below.refl _ _⟩
 ·have HC:Hid _:=hc
  clear hc
  go_enter Tryz.func75,Tryz.ntmps75
  go_wp2
  go_loopw [3,4,5,11] (fun _ _ _ i w'=>∃k:Nat,k≤l.length∧i=J k∧(∀j,j<k→errL l j=0)∧Below w.heap.size w w') (fun _ _ _ i _=>l.length-(intOf i).toNat)
  case atStart=>exact⟨0,Nat.zero_le _,rfl,fun j hj=>absurd hj (Nat.not_lt_zero _),Below.refl _ _⟩
  case round=>
   obtain⟨k,hk,rfl,hpre,hB⟩:=hrel
   have HP:Hid _:=hpre
   have HB:Hid _:=hB
   by_cases hlt:k<l.length
   ·obtain⟨g0,g1,g2,g3,g4⟩:=(HC.out k hlt).keep hB hb
    have hb':b<wr.heap.size:=Nat.lt_of_lt_of_le hb hB.size
    obtain⟨y,hy⟩:∃y,y=lth l k:=⟨_,rfl⟩
    have HY:Hid _:=hy
    rw[←hy] at g0 g1 g2 g3 g4
    clear hy hpre hB
    obtain⟨d1,p1,a1,r1,x1⟩:=y
    simp only at g0 g1 g2 g3 g4
    have hlt1:(k:Int)<l.length:=by omega
    go_wp2_with fail
    refine (hU d1 p1 a1 r1 x1 _).mono ?_
    rintro e w1 ⟨rfl,ob,rfl⟩
    by_cases ho:own (d1,p1,a1,r1,x1)=0
    rotate_left
    ·have HE:Hid (chkC l=own (d1,p1,a1,r1,x1)):=gL h6 hlt HP.out (by have:=lL (l:=l) (k:=k) (by rw[←HY.out];exact ho);rw[this,←HY.out]) ho
     have hq:(own (d1,p1,a1,r1,x1) !=0)=true:=by simpa using ho
     clear ho
     generalize own (d1,p1,a1,r1,x1)=z at *
     go_wp2
     go_ret
     exact⟨aM HE.out.symm,aA (aA HB.out _) _⟩
    rw[ho]
    have k1:=((Blk.new wr #[J d1,J p1,J a1,.bool r1,.bool x1] 52 (0,0)).past ob).five
    have B1:=aA (aA HB.out (.cells #[J d1,J p1,J a1,.bool r1,.bool x1] 52 (0,0))) ob
    have s1:wr.heap.size<((wr.alloc (.cells #[J d1,J p1,J a1,.bool r1,.bool x1] 52 (0,0))).alloc ob).heap.size:=by simp;omega
    obtain⟨c0,c1,_,_,_⟩:=k1
    go_wp2
    generalize ((wr.alloc (.cells #[J d1,J p1,J a1,.bool r1,.bool x1] 52 (0,0))).alloc ob)=wx at *
    have HT:Hid (Ls wx (.slice (some ⟨b,o,none⟩) k cap) (l.take k)):=(HL.out.keep B1).take hk
    have HO:Hid _:=ho
    have HB1:Hid _:=B1
    clear B1 ho g0 g1 g2 g3 g4 HB HC
    have z0:(0:Int)≤k:=by omega
    have z1:(k:Int)≤cap:=by omega
    have z2:k≤cap:=by omega
    have z3:¬cap=0:=by omega
    go_region_held3 (fun w'=>w'.cell? ⟨wr.heap.size,0,none⟩=some (J d1)∧w'.cell? ⟨wr.heap.size,1,none⟩=some (J p1)∧Below wx.heap.size wx w')
     (with_reducible refine keep2 (by assumption) (by assumption) (by assumption) ?_;(repeat (first|with_reducible assumption|(with_reducible (refine And.right (a:=_=_) (And.right (a:=_=_) (?_:_∧_∧_));assumption))|with_reducible exact Below.refl _ _|with_reducible refine Below.drew ?_|with_reducible refine aH ?_ _|with_reducible refine aA ?_ _|with_reducible refine aB ?_ (by assumption))))
     (first|(go_at_call 110;refine (gN _ (l.take k) d1 p1 _ ?_).mono ?_;(focus (refine HT.out.keep ?_;(repeat (first|with_reducible assumption|(with_reducible (refine And.right (a:=_=_) (And.right (a:=_=_) (?_:_∧_∧_));assumption))|with_reducible exact Below.refl _ _|with_reducible refine Below.drew ?_|with_reducible refine aH ?_ _))));rintro e w1 ⟨rfl,b1⟩))
    rename_i hH
    have HB2:Hid _:=aB HB1.out hH.2.2
    clear hH b1
    by_cases hf:0≤fndC (l.take k) d1 p1
    ·have HE:Hid (chkC l=5):=gL h6 hlt HP.out (lM (by rw[←HY.out];exact HO.out) (by rw[←HY.out];exact hf)) (by decide)
     go_wp2
     go_ret
     exact⟨aM HE.out.symm,HB2.out⟩
    ·have HE:Hid (errL l k=0):=jX (by rw[←HY.out];exact HO.out) (by rw[←HY.out];exact hf)
     go_wp2
     exact⟨⟨k+1,by omega,by go_num,dI HP.out HE.out,HB2.out⟩,by simp[intOf];omega⟩
   ·have HF:Hid (chkC l=0):=fJ h6 fun j hj=>HP.out j (by omega)
    clear hpre hB
    go_wp2
    go_ret
    exact⟨aM HF.out.symm,HB.out⟩
theorem infoLine:∃i,Tryz.prog.info? 52=some i∧i.zero=some (.agg #[J 0,J 0,J 0,.bool false,.bool false])∧i.size=5∧i.bytes=32:=by
 have h:(Tryz.prog.info? 52).map (fun i=>(i.zero,i.size,i.bytes))=some (some (.agg #[J 0,J 0,J 0,.bool false,.bool false]),5,32):=by kernel_rfl
 cases hi:Tryz.prog.info? 52 with
 | none=>rw[hi] at h;simp at h
 | some i=>rw[hi] at h;simp at h;exact⟨i,rfl,h.1,h.2.1,h.2.2⟩
theorem fV (x:Ln):(cellsL x).length=5:=rfl
theorem lN (l:List Ln):(l.flatMap cellsL).length=l.length*5:=by
 induction l with
 | nil=>rfl
 | cons x t ih=>rw[List.flatMap_cons,List.length_append,ih,fV,List.length_cons];omega
theorem yR (x:Ln)(t:List Ln)(i:Nat):lth (x::t) (i+1)=lth t i:=by simp[lth]
theorem oP (l:List Ln):∀(i r:Nat),i<l.length→r<5→(l.flatMap cellsL)[i*5+r]?=(cellsL (lth l i))[r]?:=by
 induction l with
 | nil=>intro i r hi _;exact absurd hi (Nat.not_lt_zero _)
 | cons x t ih=>
  intro i r hi hr
  rw[List.flatMap_cons]
  cases i with
  | zero=>
   rw[Nat.zero_mul,Nat.zero_add,List.getElem?_append_left (by rw[fV];exact hr)]
   rfl
  | succ i=>
   rw[List.getElem?_append_right (by rw[fV];omega),fV,yR,←ih i r (by simpa using hi) hr]
   congr 1;omega
theorem uS {l:List Ln}{j:Nat}{u:Value}(h:(l.flatMap cellsL)[j]?=some u):∃i r,i<l.length∧r<5∧j=i*5+r∧(cellsL (lth l i))[r]?=some u:=by
 have hj:j<l.length*5:=by
  rw[←lN]
  rcases Nat.lt_or_ge j (l.flatMap cellsL).length with k|k
  ·exact k
  ·rw[List.getElem?_eq_none k] at h;cases h
 refine⟨j/5,j%5,by omega,by omega,by omega,?_⟩
 rw[←oP l (j/5) (j%5) (by omega) (by omega),←h]
 congr 1;omega
theorem qG (l:List Ln):∀u∈l.flatMap cellsL,u.oneCell'=true:=by
 intro u hu
 obtain⟨x,_,hx⟩:=List.mem_flatMap.1 hu
 simp only[cellsL,List.mem_cons,List.not_mem_nil,or_false] at hx
 rcases hx with rfl|rfl|rfl|rfl|rfl <;> rfl
theorem kW (b o j:Nat):Addr.add ⟨b,o,none⟩ j=⟨b,o+j,none⟩:=by unfold Addr.add;split <;> simp_all
theorem qH {w:World}{b o:Nat}{x:Ln}(h:AtL w b o x){r:Nat}{u:Value}(hr:r<5)(hu:(cellsL x)[r]?=some u):w.cell? ⟨b,o+r,none⟩=some u:=by
 obtain⟨h0,h1,h2,h3,h4⟩:=h
 match r,hr with
 | 0,_=>simp[cellsL] at hu;subst hu;exact h0
 | 1,_=>simp[cellsL] at hu;subst hu;exact h1
 | 2,_=>simp[cellsL] at hu;subst hu;exact h2
 | 3,_=>simp[cellsL] at hu;subst hu;exact h3
 | 4,_=>simp[cellsL] at hu;subst hu;exact h4
def OwnL (w:World)(base:Nat)(v:Value)(l:List Ln):Prop:=w.ownsRow base 52 5 v l.length (l.flatMap cellsL)
theorem OwnL.lit (w:World)(base:Nat)(h:base≤w.heap.size):OwnL (w.alloc (.cells #[] 52)) base (.slice (some ⟨w.heap.size,0,none⟩) 0 0) []:=
 World.ownsRow_lit (base:=base) (e:=52) (size:=5) w #[] 0 h (by simp[maxLen]) rfl
theorem OwnL.litAt {w:World}{n:Nat}(e:n=w.heap.size)(base:Nat)(h:base≤w.heap.size):OwnL (w.alloc (.cells #[] 52)) base (.slice (some ⟨n,0,none⟩) 0 0) []:=by
 subst e;exact OwnL.lit w base h
theorem OwnL.nothing (w:World)(base:Nat):OwnL w base (.slice none 0 0) []:=World.ownsRow_nil w base _ _
theorem OwnL.alloc {w:World}{base:Nat}{v:Value}{l:List Ln}(h:OwnL w base v l)(o:Obj):OwnL (w.alloc o) base v l:=World.ownsRow.alloc h o
theorem OwnL.ls {w:World}{base:Nat}{v:Value}{l:List Ln}(h:OwnL w base v l):Ls w v l:=by
 have h':=h
 rcases h.2 with ⟨rfl,h0⟩|⟨g,cap,cur,rfl,hb,hg,hnc,hcm,hcs,htake⟩
 ·obtain rfl:l=[]:=List.eq_nil_of_length_eq_zero h0
  exact Ls.nothing w
 ·refine⟨_,cap,rfl,hnc,hcm,.inr ⟨g,0,rfl,?_,fun i hi=>?_⟩⟩
  ·exact (h.lt g rfl).2
  ·have hc:∀r,r<5→w.cell? ⟨g,0+i*5+r,none⟩=(cellsL (lth l i))[r]?:=fun r hr=>by
    rw[Nat.zero_add]
    have:=h.cellAt (i*5+r) (by omega)
    rw[this,oP l i r hi hr]
   exact⟨hc 0 (by omega),hc 1 (by omega),hc 2 (by omega),hc 3 (by omega),hc 4 (by omega)⟩
theorem OwnL.base {w:World}{base:Nat}{v:Value}{l:List Ln}(h:OwnL w base v l):∀k,v.ownBlock=some k→base≤k:=fun k hk=>(World.ownsRow.lt h k hk).1
theorem oQ (w:World)(ty:TypeId)(base:Nat)(v x:Value)(l1 l2:List Ln)(hown:OwnL w base v l1)(hx:Ls w x l2)(hn:l1.length+l2.length≤1000)(hbase:base≤w.heap.size)(hne:(∃c m n,v=.slice (some c) m n)∨l2≠[]):
  ∃g cap w',(Builtin.append_ #[27,27] ty #[v,x]).run Tryz.prog w=.ok (.slice (some ⟨g,0,none⟩) (l1++l2).length cap) w'∧OwnL w' base (.slice (some ⟨g,0,none⟩) (l1++l2).length cap) (l1++l2)∧w.grownBy w' v.ownBlock∧(v.ownBlock=some g∨g=w.heap.size):=by
 obtain⟨i,hi,hz,hsz,hby⟩:=infoLine
 obtain⟨a,cap,rfl,hl,hm,h⟩:=hx
 rcases h with rfl|⟨b,o,rfl,hb,hc⟩
 ·rcases hown.2 with ⟨rfl,h0⟩|⟨g,c,cur,rfl,hbg,hg,hnc,hcm,hcs,htake⟩
  ·rcases hne with ⟨_,_,_,hne⟩|hne
   ·simp at hne
   ·exact absurd rfl hne
  ·refine⟨g,c,w,?_,?_,⟨rfl,rfl,rfl,Nat.le_refl _,fun _ _ _=>rfl⟩,.inl rfl⟩
   ·cases a <;>
    simp[Builtin.append_,run_underlying Tryz.underlying27,sizeOf,typeInfo,hi,Builtin.lenOf,Builtin.firstCells,loadCells,loadCellsFrom,hnc,storeCells]
   ·simpa using hown
 ·by_cases h0:l2=[]
  ·subst h0
   rcases hown.2 with ⟨rfl,h0⟩|⟨g,c,cur,rfl,hbg,hg,hnc,hcm,hcs,htake⟩
   ·rcases hne with ⟨_,_,_,hne⟩|hne
    ·simp at hne
    ·exact absurd rfl hne
   ·refine⟨g,c,w,?_,?_,⟨rfl,rfl,rfl,Nat.le_refl _,fun _ _ _=>rfl⟩,.inl rfl⟩
    ·simp[Builtin.append_,run_underlying Tryz.underlying27,sizeOf,typeInfo,hi,Builtin.lenOf,Builtin.firstCells,loadCells,loadCellsFrom,hnc,storeCells]
    ·simpa using hown
  ·have hpos:0<l2.length:=List.length_pos_iff.2 h0
   obtain⟨g,c,w',hr,ho,hgr,hat,_⟩:=run_append_lies (P:=Tryz.prog) w 27 ty base 52 i _ 5 32 Tryz.underlying27 hi hz hsz hby rfl (by omega) v l1.length (l1.flatMap cellsL) hown ⟨b,o,none⟩ l2.length cap (l2.flatMap cellsL) (lN l2)
    (fun j u hu=>by
     obtain⟨i',r,h1,h2,rfl,h4⟩:=uS hu
     rw[kW,←Nat.add_assoc]
     exact qH (hc i' h1) h2 h4)
    (qG l2) hpos (by unfold maxLen;omega) (by omega) hbase w.heap.size rfl
   refine⟨g,c,w',?_,?_,hgr,hat⟩
   ·rw[List.length_append];exact hr
   ·unfold OwnL;rw[List.length_append,List.flatMap_append];exact ho
theorem kE {w:World}{o:Oper}{a:Act}{K:Act→World→Prop}{Q:Exit→Act→World→Prop}(s x:Operand)
  (ho:o.op=.call {callee:=.builtin .append,args:=#[s,x],argTypes:=#[27,27]})
  (base:Nat) (v u:Value) (l1 l2:List Ln) (hs:a.eval s=v) (hu:a.eval x=u) (hown:OwnL w base v l1) (hx:Ls w u l2) (hn:l1.length+l2.length≤1000) (hbase:base≤w.heap.size) (hne:(∃c m n,v=.slice (some c) m n)∨l2≠[])
  (h:∀g cap w',OwnL w' base (.slice (some ⟨g,0,none⟩) (l1++l2).length cap) (l1++l2)→w.grownBy w' v.ownBlock→Below base w w'→(v.ownBlock=some g∨g=w.heap.size)→K (a.put o.dst (.slice (some ⟨g,0,none⟩) (l1++l2).length cap)) w'):o.wp Tryz.prog a w K Q:=by
 obtain⟨g,cap,w',hr,h2,h3,h4⟩:=oQ w o.type base v u l1 l2 hown hx hn hbase hne
 unfold Oper.wp execOp
 simp only[ho,resolve,invoke,builtin,Sem.run_bind,Sem.run_pure,Result.andThen_ok,List.map_toArray,List.map_cons,List.map_nil,hs,hu,hr]
 exact h g cap w' h2 h3 ((Below.refl base w).grown h3 hbase hown.base) h4
theorem bM {w:World}{ops:Array Oper}{rest:List Oper}{o:Oper}{a:Act}{Q:Exit→Act→World→Prop}(hgd:o.guard=none)(s x:Operand)
  (ho:o.op=.call {callee:=.builtin .append,args:=#[s,x],argTypes:=#[27,27]})
  (base:Nat) (v u:Value) (l1 l2:List Ln) (hs:a.eval s=v) (hu:a.eval x=u) (hown:OwnL w base v l1) (hx:Ls w u l2) (hn:l1.length+l2.length≤1000) (hbase:base≤w.heap.size) (hne:(∃c m n,v=.slice (some c) m n)∨l2≠[])
  (h:∀g cap w',OwnL w' base (.slice (some ⟨g,0,none⟩) (l1++l2).length cap) (l1++l2)→w.grownBy w' v.ownBlock→Below base w w'→(v.ownBlock=some g∨g=w.heap.size)→wpList Tryz.prog ops Q rest (a.put o.dst (.slice (some ⟨g,0,none⟩) (l1++l2).length cap)) w'):
  wpList Tryz.prog ops Q (o::rest) a w:=
 wpList_plain hgd fun _ hK=>kE s x ho base v u l1 l2 hs hu hown hx hn hbase hne fun g cap w' h2 h3 hb h4=>hK _ _ (h g cap w' h2 h3 hb h4)
theorem bQ {w:World}{ops:Array Oper}{o:Oper}{a:Act}{K:Act→World→Prop}{Q:Exit→Act→World→Prop}{E:Prop}(hgd:o.guard=none)(s x:Operand)
  (ho:o.op=.call {callee:=.builtin .append,args:=#[s,x],argTypes:=#[27,27]})
  (base:Nat) (v u:Value) (l1 l2:List Ln) (hs:a.eval s=v) (hu:a.eval x=u) (hown:OwnL w base v l1) (hx:Ls w u l2) (hn:l1.length+l2.length≤1000) (hbase:base≤w.heap.size) (hne:(∃c m n,v=.slice (some c) m n)∨l2≠[])
  (h:∀g cap w',OwnL w' base (.slice (some ⟨g,0,none⟩) (l1++l2).length cap) (l1++l2)→w.grownBy w' v.ownBlock→Below base w w'→(v.ownBlock=some g∨g=w.heap.size)→K (a.put o.dst (.slice (some ⟨g,0,none⟩) (l1++l2).length cap)) w'):
  if Region.wanted o (yielded ops a.tmps)=true then Oper.wp Tryz.prog o a w K Q else E:=by
 have hw:Region.wanted o (yielded ops a.tmps)=true:=by simp[Region.wanted,hgd]
 rw[if_pos hw]
 exact kE s x ho base v u l1 l2 hs hu hown hx hn hbase hne h
theorem yS (w:World)(d p a:Int)(r x:Bool)(fr:Nat × Nat):Ls (w.alloc (.cells #[J d,J p,J a,.bool r,.bool x] 52 fr)) (.slice (some ⟨w.heap.size,0,none⟩) 1 1) [(d,p,a,r,x)]:=by
 have k:=(Blk.new w #[J d,J p,J a,.bool r,.bool x] 52 fr).five
 refine⟨_,1,rfl,Nat.le_refl _,by simp[maxLen],.inr ⟨w.heap.size,0,rfl,by simp,fun i hi=>?_⟩⟩
 obtain rfl:i=0:=by simpa using hi
 exact k
theorem bR {w:World}{n:Nat}(h:n=w.heap.size)(d p a:Int)(r x:Bool)(fr:Nat × Nat):Ls (w.alloc (.cells #[J d,J p,J a,.bool r,.bool x] 52 fr)) (.slice (some ⟨n,0,none⟩) 1 1) [(d,p,a,r,x)]:=by
 subst h;exact yS w d p a r x fr
theorem Ls.grown {w w':World}{a:Addr}{n cap:Nat}{l:List Ln}{row:Option Nat}(h:Ls w (.slice (some a) n cap) l)(hg:w.grownBy w' row)(hne:some a.block≠row):Ls w' (.slice (some a) n cap) l:=by
 obtain⟨a',cap',e,hl,hm,h⟩:=h
 refine⟨a',cap',e,hl,hm,?_⟩
 rcases h with h|⟨b,o,rfl,hb,hc⟩
 ·exact .inl h
 ·simp only[Value.slice.injEq,Option.some.injEq] at e
  obtain⟨rfl,_,rfl⟩:=e
  have hblk:=hg.block b hb hne
  refine .inr ⟨b,o,rfl,Nat.lt_of_lt_of_le hb hg.size,fun i hi=>?_⟩
  have hcell:∀j,w'.cell? ⟨b,j,none⟩=w.cell? ⟨b,j,none⟩:=fun j=>World.cell?_of_block (a:=⟨b,j,none⟩) hblk
  unfold AtL
  rw[hcell,hcell,hcell,hcell,hcell]
  exact hc i hi
theorem gO {a w w':World}{v:Value}{l:List Ln}(h:Below a.heap.size a w)(hown:OwnL w a.heap.size v l)(hg:w.grownBy w' v.ownBlock):Below a.heap.size a w':=
 h.grown hg h.size hown.base
theorem eR (y:Ln):chkC [y]=own y:=by
 by_cases h:own y=0
 ·rw[h]
  refine fJ (by simp) fun j hj=>?_
  obtain rfl:j=0:=by simpa using hj
  exact jX (by simpa [lth] using h) (by simp[fndC])
 ·exact gL (j:=0) (by simp) (by simp) (fun i hi=>absurd hi (Nat.not_lt_zero _)) (by rw[lL (by simpa [lth] using h)];simp[lth]) h
theorem keep5 {W w':World}{n:Nat}{u0 u1 u2 u3 u4:Value}(h0:W.cell? ⟨n,0,none⟩=some u0)(h1:W.cell? ⟨n,1,none⟩=some u1)(h2:W.cell? ⟨n,2,none⟩=some u2)(h3:W.cell? ⟨n,3,none⟩=some u3)(h4:W.cell? ⟨n,4,none⟩=some u4)(hn:n<W.heap.size)(hb:Below W.heap.size W w'):
  w'.cell? ⟨n,0,none⟩=some u0∧w'.cell? ⟨n,1,none⟩=some u1∧w'.cell? ⟨n,2,none⟩=some u2∧w'.cell? ⟨n,3,none⟩=some u3∧w'.cell? ⟨n,4,none⟩=some u4∧Below W.heap.size W w':=
 ⟨((bcell hb).1 n 0 hn).trans h0,((bcell hb).1 n 1 hn).trans h1,((bcell hb).1 n 2 hn).trans h2,((bcell hb).1 n 3 hn).trans h3,((bcell hb).1 n 4 hn).trans h4,hb⟩
theorem limb5 {A B C D E F:Prop}(h:A∧B∧C∧D∧E∧F):F:=h.2.2.2.2.2
set_option maxHeartbeats 1000000 in
theorem yT (v:Value)(l:List Ln)(d p a:Int)(r x:Bool)(w:World)(h:Ls w v l):
  Calls Tryz.prog 124 #[v,.agg #[J d,J p,J a,.bool r,.bool x]] w fun e w'=>(∃v',e=.returned (.tuple #[v',J (flE l (d,p,a,r,x))])∧Ls w' v' (flC l (d,p,a,r,x))∧Fresh w.heap.size v')∧Below w.heap.size w w':=by
 have HL:Hid (Ls w v l):=h
 obtain⟨a0,cap,rfl,hl,hm,h⟩:=h
 unfold maxLen at hm
 go_enter Tryz.func124,Tryz.ntmps124
 go_wp2_with fail
 refine (dE _ l _ (HL.out.keep (aA (Below.refl _ _) _))).mono ?_
 rintro e w1 ⟨rfl,b1⟩
 have K1:=(Blk.new w #[J d,J p,J a,.bool r,.bool x] 52 (0,0)).keep b1
 have B1:Hid (Below w.heap.size w w1):=aB (aA (Below.refl _ _) _) b1
 clear b1
 by_cases hc:chkC l=0
 rotate_left
 ·have hq:(chkC l !=0)=true:=by simpa using hc
  have HE:Hid (flE l (d,p,a,r,x)=chkC l):=by unfold flE;exact if_neg hc
  have HF:Hid (flC l (d,p,a,r,x)=[]):=by unfold flC;exact if_neg (by rw[HE.out];exact hc)
  go_wp2
  refine bodyPost_ret (v:=.tuple #[.slice none 0 0,J (chkC l)]) (by simp[results,Tryz.results124,go_sem]) rfl ⟨⟨_,by rw[HE.out],by rw[HF.out];exact Ls.nothing _,Fresh.none _ _ _⟩,B1.out⟩
 rw[hc]
 obtain⟨c0,c1,c2,c3,c4⟩:=K1.five
 have s1:=K1.lt
 go_wp2_with fail
 refine (hU d p a r x _).mono ?_
 rintro e w2 ⟨rfl,ob,rfl⟩
 have K2:=K1.past ob
 have B2:Hid (Below w.heap.size w (w1.alloc ob)):=aA B1.out ob
 clear B1 K1 c0 c1 c2 c3 c4 s1
 obtain⟨c0,c1,c2,c3,c4⟩:=K2.five
 have s1:=K2.lt
 generalize w1.alloc ob=w2 at *
 by_cases ho:own (d,p,a,r,x)=0
 rotate_left
 ·have hq:(own (d,p,a,r,x) !=0)=true:=by simpa using ho
  have HE:Hid (flE l (d,p,a,r,x)=own (d,p,a,r,x)):=by
   unfold flE
   rw[if_pos hc,eR,if_neg ho]
   rfl
  have HF:Hid (flC l (d,p,a,r,x)=[]):=by unfold flC;exact if_neg (by rw[HE.out];exact ho)
  generalize own (d,p,a,r,x)=z at *
  go_wp2
  refine bodyPost_ret (v:=.tuple #[.slice none 0 0,J z]) (by simp[results,Tryz.results124,go_sem]) rfl ⟨⟨_,by rw[HE.out],by rw[HF.out];exact Ls.nothing _,Fresh.none _ _ _⟩,B2.out⟩
 rw[ho]
 go_wp2_with fail
 refine (gN _ l d p _ (HL.out.keep B2.out)).mono ?_
 rintro e wx ⟨rfl,b3⟩
 have K3:=K2.keep b3
 have B3:Hid (Below w.heap.size w wx):=aB B2.out b3
 clear B2 K2 b3 c0 c1 c2 c3 c4 s1
 obtain⟨c0,c1,c2,c3,c4⟩:=K3.five
 have s1:=K3.lt
 by_cases hf:0≤fndC l d p
 ·have HE:Hid (flE l (d,p,a,r,x)=5):=by
   unfold flE
   rw[if_pos hc,eR,if_pos ho]
   exact if_pos hf
  have HF:Hid (flC l (d,p,a,r,x)=[]):=by unfold flC;exact if_neg (by rw[HE.out];decide)
  go_wp2
  refine bodyPost_ret (v:=.tuple #[.slice none 0 0,J 5]) (by simp[results,Tryz.results124,go_sem]) rfl ⟨⟨_,by rw[HE.out],by rw[HF.out];exact Ls.nothing _,Fresh.none _ _ _⟩,B3.out⟩
 have HE:Hid (flE l (d,p,a,r,x)=0):=by
  unfold flE
  rw[if_pos hc,eR,if_pos ho]
  exact if_neg hf
 have HF:Hid (flC l (d,p,a,r,x)=oldC l++[(d,p,a,r,x)]):=sZ HE.out
 have h6:l.length≤6:=(aW.1 hc).1
 have HT0:Hid (Ls wx (.slice a0 l.length cap) l):=HL.out.keep B3.out
 clear HL K3
 obtain⟨m,hm'⟩:∃m,m=oldC l:=⟨_,rfl⟩
 have HM:Hid (m=oldC l):=hm'
 have hm5:m.length≤5:=by rw[hm'];exact (lJ h6).1
 clear hm'
 by_cases hl6:l.length=6
 ·rcases h with rfl|⟨b,o,rfl,hb,_⟩
  ·exact absurd hl6 (by simp)
  have HT:Hid (Ls wx (.slice (some ⟨b,o+5,none⟩) 5 (cap-1)) m):=by
   have:=HT0.out.drop (k:=1) (by omega)
   rw[HM.out,oldC,if_pos hl6]
   rw[hl6] at this
   exact this
  rw[hl6] at hl ⊢
  have z1:(1:Int)≤cap:=by omega
  have z2:(6:Int)≤cap:=by omega
  have z3:¬cap=1:=by omega
  have z4:1≤cap:=by omega
  go_wp2
  go_region_held3 (fun w'=>w'.cell? ⟨w.heap.size,0,none⟩=some (J d)∧w'.cell? ⟨w.heap.size,1,none⟩=some (J p)∧w'.cell? ⟨w.heap.size,2,none⟩=some (J a)∧w'.cell? ⟨w.heap.size,3,none⟩=some (.bool r)∧w'.cell? ⟨w.heap.size,4,none⟩=some (.bool x)∧Below wx.heap.size wx w')
   (with_reducible refine keep5 (by assumption) (by assumption) (by assumption) (by assumption) (by assumption) (by assumption) ?_;(repeat (first|with_reducible assumption|(with_reducible (refine limb5 (?_:_∧_∧_∧_∧_∧_);assumption))|with_reducible exact Below.refl _ _|with_reducible refine Below.drew ?_|with_reducible refine aH ?_ _|with_reducible refine aA ?_ _|with_reducible refine Below.trans ?_ (by assumption))))
   (first
    | (refine bQ rfl (.tmp 30) (.tmp 31) rfl wx.heap.size (.slice (some ⟨_,0,none⟩) 0 0) _ [] m rfl rfl ?_ ?_ (by first|(simp;done)|(simp;omega)) (by first|(simp;done)|(simp;omega)) (.inl ⟨_,_,_,rfl⟩) ?_;(focus (first|exact OwnL.litAt (by simp) _ (by simp)|exact (OwnL.litAt (by simp) _ (by simp)).alloc _));(focus (first|exact HT.out.keep (aA (aA (Below.drew (Below.refl _ _)) _) _)|exact HT.out.keep (aA (Below.drew (Below.refl _ _)) _)));intro g cg w4 hown hgr hbel _)
    | (refine bQ rfl (.tmp 32) (.tmp 34) rfl wx.heap.size (.slice (some ⟨_,0,none⟩) _ _) (.slice (some ⟨_,0,none⟩) 1 1) m [(d,p,a,r,x)] rfl rfl ?_ ?_ (by simp;omega) (by have hs4:=hgr.size;simp at hs4 ⊢;omega) (.inl ⟨_,_,_,rfl⟩) ?_;(focus (first|exact hown|exact hown.alloc _));(focus (first|exact bR (by simp) _ _ _ _ _ _|(refine Ls.grown ?_ hgr (by simp[Value.ownBlock]);first|exact bR (by simp) _ _ _ _ _ _|exact Ls.alloc (bR (by simp) _ _ _ _ _ _) _)));intro g2 cg2 w5 hown2 _ hbel2 _))
  all_goals
   rename_i hH
   have HB5:Hid (Below wx.heap.size wx w5):=limb5 hH
   have HO2:Hid _:=hown2
   have HG2:Hid (w.heap.size≤g2):=Nat.le_trans B3.out.size (hown2.base g2 rfl)
   clear hH hown2 hown hgr hbel hbel2
   go_wp2
   refine bodyPost_ret (v:=.tuple #[.slice (some ⟨g2,0,none⟩) (m.length+1) cg2,J 0]) (by simp[results,Tryz.results124,go_sem]) rfl ⟨⟨_,by rw[HE.out],?_,bJ HG2.out _ _ _⟩,aB B3.out HB5.out⟩
   rw[HF.out,←HM.out]
   simpa using OwnL.ls HO2.out
 ·have hq6:((l.length:Int)==6)=false:=by simp;omega
  have HT:Hid (Ls wx (.slice a0 l.length cap) m):=by
   rw[HM.out,oldC,if_neg hl6]
   exact HT0.out
  go_wp2
  go_region_held3 (fun w'=>w'.cell? ⟨w.heap.size,0,none⟩=some (J d)∧w'.cell? ⟨w.heap.size,1,none⟩=some (J p)∧w'.cell? ⟨w.heap.size,2,none⟩=some (J a)∧w'.cell? ⟨w.heap.size,3,none⟩=some (.bool r)∧w'.cell? ⟨w.heap.size,4,none⟩=some (.bool x)∧Below wx.heap.size wx w')
   (with_reducible refine keep5 (by assumption) (by assumption) (by assumption) (by assumption) (by assumption) (by assumption) ?_;(repeat (first|with_reducible assumption|(with_reducible (refine limb5 (?_:_∧_∧_∧_∧_∧_);assumption))|with_reducible exact Below.refl _ _|with_reducible refine Below.drew ?_|with_reducible refine aH ?_ _|with_reducible refine aA ?_ _|with_reducible refine Below.trans ?_ (by assumption))))
   (first
    | (refine bQ rfl (.tmp 30) (.tmp 31) rfl wx.heap.size (.slice (some ⟨_,0,none⟩) 0 0) _ [] m rfl rfl ?_ ?_ (by first|(simp;done)|(simp;omega)) (by first|(simp;done)|(simp;omega)) (.inl ⟨_,_,_,rfl⟩) ?_;(focus (first|exact OwnL.litAt (by simp) _ (by simp)|exact (OwnL.litAt (by simp) _ (by simp)).alloc _));(focus (first|exact HT.out.keep (aA (aA (Below.drew (Below.refl _ _)) _) _)|exact HT.out.keep (aA (Below.drew (Below.refl _ _)) _)));intro g cg w4 hown hgr hbel _)
    | (refine bQ rfl (.tmp 32) (.tmp 34) rfl wx.heap.size (.slice (some ⟨_,0,none⟩) _ _) (.slice (some ⟨_,0,none⟩) 1 1) m [(d,p,a,r,x)] rfl rfl ?_ ?_ (by simp;omega) (by have hs4:=hgr.size;simp at hs4 ⊢;omega) (.inl ⟨_,_,_,rfl⟩) ?_;(focus (first|exact hown|exact hown.alloc _));(focus (first|exact bR (by simp) _ _ _ _ _ _|(refine Ls.grown ?_ hgr (by simp[Value.ownBlock]);first|exact bR (by simp) _ _ _ _ _ _|exact Ls.alloc (bR (by simp) _ _ _ _ _ _) _)));intro g2 cg2 w5 hown2 _ hbel2 _))
  all_goals
   rename_i hH
   have HB5:Hid (Below wx.heap.size wx w5):=limb5 hH
   have HO2:Hid _:=hown2
   have HG2:Hid (w.heap.size≤g2):=Nat.le_trans B3.out.size (hown2.base g2 rfl)
   clear hH hown2 hown hgr hbel hbel2
   go_wp2
   refine bodyPost_ret (v:=.tuple #[.slice (some ⟨g2,0,none⟩) (m.length+1) cg2,J 0]) (by simp[results,Tryz.results124,go_sem]) rfl ⟨⟨_,by rw[HE.out],?_,bJ HG2.out _ _ _⟩,aB B3.out HB5.out⟩
   rw[HF.out,←HM.out]
   simpa using OwnL.ls HO2.out
def pageR (z:Int):Bool:=decide (0≤z∧z<64)
def stepR (z:Int):Bool:=decide (0≤z∧z<8)
def chkR (p h t:Int):Int:=if pageR p=true then (if stepR h=true then (if stepR t=true then 0 else 2) else 2) else 2
def lenR (h t:Int):Int:=(t-h+8)%8
def bothR (zs:List Int)(p h t:Int):Int:=if chk zs=0 then chkR p h t else chk zs
theorem dL {z:Int}(h:pageR z=true):0≤z∧z<64:=by simpa [pageR] using h
theorem bS {z:Int}(h:stepR z=true):0≤z∧z<8:=by simpa [stepR] using h
theorem dC {p h t:Int}(k:chkR p h t=0):pageR p=true∧stepR h=true∧stepR t=true:=by
 unfold chkR at k
 by_cases a:pageR p=true
 ·by_cases b:stepR h=true
  ·by_cases c:stepR t=true
   ·exact⟨a,b,c⟩
   ·simp[a,b,c] at k
  ·simp[a,b] at k
 ·simp[a] at k
theorem gP {p h t:Int}(a:pageR p=true)(b:stepR h=true)(c:stepR t=true):chkR p h t=0:=by simp[chkR,a,b,c]
theorem fB (z:Int)(w:World):Calls Tryz.prog 111 #[J z] w fun e w'=>e=.returned (.bool (pageR z))∧w'=w:=by
 by_cases h1:0≤z
 ·by_cases h2:z<64
  ·have:pageR z=true:=by simp[pageR,h1,h2]
   rw[this]
   go_enter Tryz.func111,Tryz.ntmps111
   go_wp2
   go_ret
   exact⟨rfl,rfl⟩
  ·have:pageR z=false:=by simp[pageR,h2]
   rw[this]
   go_enter Tryz.func111,Tryz.ntmps111
   go_wp2
   go_ret
   exact⟨rfl,rfl⟩
 ·have:pageR z=false:=by simp[pageR,h1]
  rw[this]
  go_enter Tryz.func111,Tryz.ntmps111
  go_wp2
  go_ret
  exact⟨rfl,rfl⟩
theorem fY (z:Int)(w:World):Calls Tryz.prog 112 #[J z] w fun e w'=>e=.returned (.bool (stepR z))∧w'=w:=by
 by_cases h1:0≤z
 ·by_cases h2:z<8
  ·have:stepR z=true:=by simp[stepR,h1,h2]
   rw[this]
   go_enter Tryz.func112,Tryz.ntmps112
   go_wp2
   go_ret
   exact⟨rfl,rfl⟩
  ·have:stepR z=false:=by simp[stepR,h2]
   rw[this]
   go_enter Tryz.func112,Tryz.ntmps112
   go_wp2
   go_ret
   exact⟨rfl,rfl⟩
 ·have:stepR z=false:=by simp[stepR,h1]
  rw[this]
  go_enter Tryz.func112,Tryz.ntmps112
  go_wp2
  go_ret
  exact⟨rfl,rfl⟩
abbrev ringB (p h t:Int):Obj:=.cells #[J p,J h,J t] 29
set_option maxHeartbeats 1000000 in
theorem iH (p h t:Int)(w:World):
  Calls Tryz.prog 76 #[.agg #[J p,J h,J t]] w fun e w'=>e=.returned (J (chkR p h t))∧w'=w.alloc (ringB p h t):=by
 cases a:pageR p
 ·have:chkR p h t=2:=by simp[chkR,a]
  rw[this]
  go_enter Tryz.func76,Tryz.ntmps76
  go_wp2_with (first|(go_at_call 111;refine (fB _ _).mono ?_;rintro e w' ⟨rfl,rfl⟩)|(go_at_call 112;refine (fY _ _).mono ?_;rintro e w' ⟨rfl,rfl⟩))
  go_ret
  exact⟨rfl,rfl⟩
 cases b:stepR h
 ·have:chkR p h t=2:=by simp[chkR,a,b]
  rw[this]
  go_enter Tryz.func76,Tryz.ntmps76
  go_wp2_with (first|(go_at_call 111;refine (fB _ _).mono ?_;rintro e w' ⟨rfl,rfl⟩)|(go_at_call 112;refine (fY _ _).mono ?_;rintro e w' ⟨rfl,rfl⟩))
  go_ret
  exact⟨rfl,rfl⟩
 cases c:stepR t
 ·have:chkR p h t=2:=by simp[chkR,a,b,c]
  rw[this]
  go_enter Tryz.func76,Tryz.ntmps76
  go_wp2_with (first|(go_at_call 111;refine (fB _ _).mono ?_;rintro e w' ⟨rfl,rfl⟩)|(go_at_call 112;refine (fY _ _).mono ?_;rintro e w' ⟨rfl,rfl⟩))
  go_ret
  exact⟨rfl,rfl⟩
 have:chkR p h t=0:=by simp[chkR,a,b,c]
 rw[this]
 go_enter Tryz.func76,Tryz.ntmps76
 go_wp2_with (first|(go_at_call 111;refine (fB _ _).mono ?_;rintro e w' ⟨rfl,rfl⟩)|(go_at_call 112;refine (fY _ _).mono ?_;rintro e w' ⟨rfl,rfl⟩))
 go_ret
 exact⟨rfl,rfl⟩
set_option maxHeartbeats 1000000 in
theorem lO (p h t:Int)(w:World)(hh:0≤h∧h<8)(ht:0≤t∧t<8):
  Calls Tryz.prog 95 #[.agg #[J p,J h,J t]] w fun e w'=>e=.returned (J (lenR h t))∧w'=w.alloc (ringB p h t):=by
 obtain⟨h0,h1⟩:=hh
 obtain⟨t0,t1⟩:=ht
 go_enter Tryz.func95,Tryz.ntmps95
 go_wp2
 go_ret
 exact⟨rfl,rfl⟩
set_option maxHeartbeats 1000000 in
theorem nU (p h t s:Int)(w:World)(hp:0≤p∧p<64)(hs:0≤s∧s<8):
  Calls Tryz.prog 96 #[.agg #[J p,J h,J t],J s] w fun e w'=>e=.returned (J (p*8+s))∧w'=w.alloc (ringB p h t):=by
 obtain⟨h0,h1⟩:=hp
 obtain⟨t0,t1⟩:=hs
 go_enter Tryz.func96,Tryz.ntmps96
 go_wp2
 go_ret
 exact⟨rfl,rfl⟩
theorem qI (s:Int)(w:World)(hs:0≤s∧s<8):Calls Tryz.prog 97 #[J s] w fun e w'=>e=.returned (J ((s+1)%8))∧w'=w:=by
 obtain⟨t0,t1⟩:=hs
 go_enter Tryz.func97,Tryz.ntmps97
 go_wp2
 go_ret
 exact⟨rfl,rfl⟩
set_option maxHeartbeats 1000000 in
theorem hV (v:Value)(zs:List Int)(p h t:Int)(w:World)(hs:Sl w v zs):
  Calls Tryz.prog 94 #[.agg #[v],.agg #[J p,J h,J t]] w fun e w'=>e=.returned (J (bothR zs p h t))∧Below w.heap.size w w':=by
 go_enter Tryz.func94,Tryz.ntmps94
 go_wp2_with fail
 refine (cE _ zs _ (hs.keep (aA (aA (Below.refl _ _) _) _))).mono ?_
 rintro e w1 ⟨rfl,b1⟩
 have K1:=(Blk.newAt (n:=w.heap.size+1) (by simp) #[J p,J h,J t] 29 (0,0)).keep b1
 obtain⟨d0,d1,d2⟩:=K1.three
 have B1:Hid (Below w.heap.size w w1):=aB (aA (aA (Below.refl _ _) _) _) b1
 have s1:=K1.lt
 clear b1 K1
 by_cases hk:chk zs=0
 ·have HR:Hid (bothR zs p h t=chkR p h t):=by show _=_;simp[bothR,hk]
  rw[hk]
  go_wp2_with fail
  refine (iH _ _ _ _).mono ?_
  rintro e w2 ⟨rfl,rfl⟩
  go_wp2
  go_ret
  exact⟨aM HR.out.symm,aA B1.out _⟩
 ·have HR:Hid (bothR zs p h t=chk zs):=by show _=_;simp[bothR,hk]
  have hq:(chk zs !=0)=true:=by simpa using hk
  go_wp2
  go_ret
  exact⟨aM HR.out.symm,B1.out⟩
end Go.Proofs.YthlhocneggcekaaGreat
