/-
  Laid together: Box12, MapB, Quest.
-/
import Derived.Test.YthlhocneggcekaaGreatD5
import Derived.Maps.OwnOps
import Derived.Maps.OwnSet
namespace Go.Proofs.YthlhocneggcekaaGreat
open Go.RowKit
theorem Box.twelve {w:World}{n:Nat}{t:TypeId}{a0 a1 a2 a3 a4 a5 a6 a7 a8 a9 a10 a11:Value}(h:Box w n t #[a0,a1,a2,a3,a4,a5,a6,a7,a8,a9,a10,a11]):
  (w.cell? ⟨n,0,none⟩=some a0∧w.cell? ⟨n,1,none⟩=some a1∧w.cell? ⟨n,2,none⟩=some a2∧w.cell? ⟨n,3,none⟩=some a3∧w.cell? ⟨n,4,none⟩=some a4∧w.cell? ⟨n,5,none⟩=some a5∧w.cell? ⟨n,6,none⟩=some a6∧w.cell? ⟨n,7,none⟩=some a7∧w.cell? ⟨n,8,none⟩=some a8∧w.cell? ⟨n,9,none⟩=some a9∧w.cell? ⟨n,10,none⟩=some a10∧w.cell? ⟨n,11,none⟩=some a11)∧n<w.heap.size:=
 ⟨⟨h.cell 0,h.cell 1,h.cell 2,h.cell 3,h.cell 4,h.cell 5,h.cell 6,h.cell 7,h.cell 8,h.cell 9,h.cell 10,h.cell 11⟩,h.lt⟩
theorem Box.marks {w:World}{n:Nat}{t:TypeId}{a0 a1 a2 a3 a4 a5 a6 a7 a8 a9 a10 a11:Value}(h:Box w n t #[a0,a1,a2,a3,a4,a5,a6,a7,a8,a9,a10,a11]):
  w.frozen? ⟨n,0,none⟩=false∧w.frozen? ⟨n,1,none⟩=false∧w.frozen? ⟨n,2,none⟩=false∧w.frozen? ⟨n,3,none⟩=false∧w.frozen? ⟨n,4,none⟩=false∧w.frozen? ⟨n,5,none⟩=false∧w.frozen? ⟨n,6,none⟩=false∧w.frozen? ⟨n,7,none⟩=false∧w.frozen? ⟨n,8,none⟩=false∧w.frozen? ⟨n,9,none⟩=false∧w.frozen? ⟨n,10,none⟩=false∧w.frozen? ⟨n,11,none⟩=false:=
 ⟨h.frozen 0,h.frozen 1,h.frozen 2,h.frozen 3,h.frozen 4,h.frozen 5,h.frozen 6,h.frozen 7,h.frozen 8,h.frozen 9,h.frozen 10,h.frozen 11⟩
theorem Box.set12 {w:World}{n:Nat}{t:TypeId}{a0 a1 a2 a3 a4 a5 a6 a7 a8 a9 a10 a11:Value}(h:Box w n t #[a0,a1,a2,a3,a4,a5,a6,a7,a8,a9,a10,a11])(u0 u1 u2 u3 u4 u5 u6 u7 u8 u9 u10 u11:Value):
  Box ((((((((((((w.setCell ⟨n,0,none⟩ u0).setCell ⟨n,1,none⟩ u1).setCell ⟨n,2,none⟩ u2).setCell ⟨n,3,none⟩ u3).setCell ⟨n,4,none⟩ u4).setCell ⟨n,5,none⟩ u5).setCell ⟨n,6,none⟩ u6).setCell ⟨n,7,none⟩ u7).setCell ⟨n,8,none⟩ u8).setCell ⟨n,9,none⟩ u9).setCell ⟨n,10,none⟩ u10).setCell ⟨n,11,none⟩ u11) n t #[u0,u1,u2,u3,u4,u5,u6,u7,u8,u9,u10,u11]:=by
 have h0:Box _ n t #[u0,a1,a2,a3,a4,a5,a6,a7,a8,a9,a10,a11]:=h.set 0 u0
 have h1:Box _ n t #[u0,u1,a2,a3,a4,a5,a6,a7,a8,a9,a10,a11]:=h0.set 1 u1
 have h2:Box _ n t #[u0,u1,u2,a3,a4,a5,a6,a7,a8,a9,a10,a11]:=h1.set 2 u2
 have h3:Box _ n t #[u0,u1,u2,u3,a4,a5,a6,a7,a8,a9,a10,a11]:=h2.set 3 u3
 have h4:Box _ n t #[u0,u1,u2,u3,u4,a5,a6,a7,a8,a9,a10,a11]:=h3.set 4 u4
 have h5:Box _ n t #[u0,u1,u2,u3,u4,u5,a6,a7,a8,a9,a10,a11]:=h4.set 5 u5
 have h6:Box _ n t #[u0,u1,u2,u3,u4,u5,u6,a7,a8,a9,a10,a11]:=h5.set 6 u6
 have h7:Box _ n t #[u0,u1,u2,u3,u4,u5,u6,u7,a8,a9,a10,a11]:=h6.set 7 u7
 have h8:Box _ n t #[u0,u1,u2,u3,u4,u5,u6,u7,u8,a9,a10,a11]:=h7.set 8 u8
 have h9:Box _ n t #[u0,u1,u2,u3,u4,u5,u6,u7,u8,u9,a10,a11]:=h8.set 9 u9
 have h10:Box _ n t #[u0,u1,u2,u3,u4,u5,u6,u7,u8,u9,u10,a11]:=h9.set 10 u10
 have h11:Box _ n t #[u0,u1,u2,u3,u4,u5,u6,u7,u8,u9,u10,u11]:=h10.set 11 u11
 exact h11
theorem Box.other12 {w:World}{n m:Nat}{t:TypeId}{cs:Array Value}(h:Box w n t cs)(hp:n≠m)(u0 u1 u2 u3 u4 u5 u6 u7 u8 u9 u10 u11:Value):
  Box ((((((((((((w.setCell ⟨m,0,none⟩ u0).setCell ⟨m,1,none⟩ u1).setCell ⟨m,2,none⟩ u2).setCell ⟨m,3,none⟩ u3).setCell ⟨m,4,none⟩ u4).setCell ⟨m,5,none⟩ u5).setCell ⟨m,6,none⟩ u6).setCell ⟨m,7,none⟩ u7).setCell ⟨m,8,none⟩ u8).setCell ⟨m,9,none⟩ u9).setCell ⟨m,10,none⟩ u10).setCell ⟨m,11,none⟩ u11) n t cs:=
 (((((((((((h.other (p:=⟨m,0,none⟩) hp u0).other (p:=⟨m,1,none⟩) hp u1).other (p:=⟨m,2,none⟩) hp u2).other (p:=⟨m,3,none⟩) hp u3).other (p:=⟨m,4,none⟩) hp u4).other (p:=⟨m,5,none⟩) hp u5).other (p:=⟨m,6,none⟩) hp u6).other (p:=⟨m,7,none⟩) hp u7).other (p:=⟨m,8,none⟩) hp u8).other (p:=⟨m,9,none⟩) hp u9).other (p:=⟨m,10,none⟩) hp u10).other (p:=⟨m,11,none⟩) hp u11
theorem aJ {a w:World}{m:Nat}(hp:a.heap.size≤m)(h:Below a.heap.size a w)(u0 u1 u2 u3 u4 u5 u6 u7 u8 u9 u10 u11:Value):
  Below a.heap.size a ((((((((((((w.setCell ⟨m,0,none⟩ u0).setCell ⟨m,1,none⟩ u1).setCell ⟨m,2,none⟩ u2).setCell ⟨m,3,none⟩ u3).setCell ⟨m,4,none⟩ u4).setCell ⟨m,5,none⟩ u5).setCell ⟨m,6,none⟩ u6).setCell ⟨m,7,none⟩ u7).setCell ⟨m,8,none⟩ u8).setCell ⟨m,9,none⟩ u9).setCell ⟨m,10,none⟩ u10).setCell ⟨m,11,none⟩ u11):=
 (((((((((((h.setCell (p:=⟨m,0,none⟩) hp u0).setCell (p:=⟨m,1,none⟩) hp u1).setCell (p:=⟨m,2,none⟩) hp u2).setCell (p:=⟨m,3,none⟩) hp u3).setCell (p:=⟨m,4,none⟩) hp u4).setCell (p:=⟨m,5,none⟩) hp u5).setCell (p:=⟨m,6,none⟩) hp u6).setCell (p:=⟨m,7,none⟩) hp u7).setCell (p:=⟨m,8,none⟩) hp u8).setCell (p:=⟨m,9,none⟩) hp u9).setCell (p:=⟨m,10,none⟩) hp u10).setCell (p:=⟨m,11,none⟩) hp u11
def Rv (v:Value):Option (DataW Value × List MemPlace):=some (.held v,[])
theorem fZ:Maps.Keyed Tryz.prog 3:=Maps.int_keyed Tryz.underlying3
theorem gT {z:Int}(h0:0≤z)(h1:z<1000):keyOf Tryz.prog 3 (.int .i64 z)=some (.int .i64 z):=Maps.keyOf_int_mk Tryz.underlying3 (WalkArith.wf_i64 (by omega))
theorem aBy {z:Int}(h0:-9223372036854775808≤z)(h1:z≤9223372036854775807):keyOf Tryz.prog 3 (.int .i64 z)=some (.int .i64 z):=Maps.keyOf_int_mk Tryz.underlying3 (WalkArith.wf_i64 (by omega))
theorem vZ (w:World):(zeroValue 4).run Tryz.prog w=.ok (.bool false) w:=by kernel_rfl
theorem tE {w w':World}(h:Below w.heap.size w w'):w.grownBy w' none:=⟨h.os,h.tape,h.output,h.size,fun k hk _=>h.block k hk⟩
def Seen (w:World)(b n:Nat)(ks:List Int):Prop:=
 ∃D,w.ownsMap Tryz.prog 3 Rv b n D∧∀z,D.atKey (.int .i64 z) (.held (.bool false))=.held (.bool (decide (z∈ks)))
theorem Seen.new (w:World):Seen (w.alloc (.map #[] 0)) w.heap.size 0 []:=⟨_,World.ownsMap_made _ _ _ _,fun z=>by simp[DataW.atKey]⟩
theorem Seen.keep {w w':World}{b n:Nat}{ks:List Int}(h:Seen w b n ks)(hb:Below w.heap.size w w'):Seen w' b n ks:=by
 obtain⟨D,h1,h2⟩:=h
 exact⟨D,h1.kept (tE hb) (by simp),h2⟩
theorem Seen.lt {w:World}{b n:Nat}{ks:List Int}(h:Seen w b n ks):b<w.heap.size:=by obtain⟨D,h1,_⟩:=h;exact h1.lt
theorem kG {w:World}{ops:Array Oper}{rest:List Oper}{o:Oper}{a:Act}{Q:Exit→Act→World→Prop}(hg:o.guard=none)(m x:Operand)(hop:o.op=Op.lookup 162 m x false)(b n:Nat)(ks:List Int)
  (hm:a.eval m=.map (some b)) (h:Seen w b n ks) (z:Int) (hx:a.eval x=.int .i64 z) (h0:0≤z) (h1:z<1000)
  (hK:wpList Tryz.prog ops Q rest (a.put o.dst (.bool (decide (z∈ks)))) w):wpList Tryz.prog ops Q (o::rest) a w:=by
 refine wpList_plain hg fun K' hK'=>?_
 obtain⟨D,hown,hD⟩:=h
 obtain⟨v,ps,hrun,hv⟩:=hown.lookup fZ Tryz.underlying162 (vZ w) (zd:=.held (.bool false)) (zp:=[]) rfl (gT h0 h1)
 rw[hD z] at hv
 simp only[Rv,Option.some.injEq,Prod.mk.injEq,DataW.held.injEq] at hv
 unfold Oper.wp
 simp[execOp,hop,hm,hx,hrun,Result.andThen]
 rw[hv.1]
 exact hK' _ _ hK
theorem tF {w:World}{ops:Array Oper}{rest:List Oper}{o:Oper}{a:Act}{Q:Exit→Act→World→Prop}(hg:o.guard=none)(m x v:Operand)(hop:o.op=Op.mapUpdate 162 m x v)(b n:Nat)(ks:List Int)
  (hm:a.eval m=.map (some b)) (h:Seen w b n ks) (z:Int) (hx:a.eval x=.int .i64 z) (hv:a.eval v=.bool true) (h0:0≤z) (h1:z<1000) (hn:n<1000)
  (hK:∀w',Seen w' b (n+1) (z::ks)→w.grownBy w' (some b)→wpList Tryz.prog ops Q rest (a.put o.dst undef) w'):wpList Tryz.prog ops Q (o::rest) a w:=by
 obtain⟨D,hown,hD⟩:=h
 refine wpList_mapUpdate_own w hg m x v 162 hop 3 4 fZ Tryz.underlying162 Rv b n D hm hown (by unfold maxLen;omega) _ _ _ hx hv (gT h0 h1) (.held (.bool true)) [] rfl ?_
 intro w' hown' hgr
 refine hK w' ⟨_,hown',fun y=>?_⟩ hgr
 by_cases e:y=z
 ·subst e
  rw[Maps.atKey_put_same hown.isMap (fZ.key (gT h0 h1))]
  simp
 ·rw[Maps.atKey_put_other (by simpa using e),hD y]
  simp[e]
theorem q0_any (d1 p1 a:Int)(r x:Bool)(w:World):
  Calls Tryz.prog 126 #[.agg #[.int .i64 d1,.int .i64 p1,.int .i64 a,.bool r,.bool x]] w fun e w'=>e=.returned (.bool false)∧∃o,w'=w.alloc o:=by
 go_enter Tryz.func126,Tryz.ntmps126
 go_wp2
 go_ret
 exact⟨rfl,_,rfl⟩
theorem q1_any (d1 p1 a:Int)(r x:Bool)(w:World):
  Calls Tryz.prog 127 #[.agg #[.int .i64 d1,.int .i64 p1,.int .i64 a,.bool r,.bool x]] w fun e w'=>e=.returned (.bool true)∧∃o,w'=w.alloc o:=by
 go_enter Tryz.func127,Tryz.ntmps127
 go_wp2
 go_ret
 exact⟨rfl,_,rfl⟩
theorem q2_any (n:Nat)(d d1 p1 a:Int)(r x:Bool)(w:World)(h1:w.cell? ⟨n,1,none⟩=some (.int .i64 d))(l1:n<w.heap.size):
  Calls Tryz.prog 128 #[.agg #[.int .i64 d1,.int .i64 p1,.int .i64 a,.bool r,.bool x],.pointer (some ⟨n,0,none⟩)] w fun e w'=>e=.returned (.bool (decide (d1=d)))∧∃o,w'=w.alloc o:=by
 by_cases e1:d1=d
 ·have q1:(d1==d)=true:=by simpa using e1
  rw[decide_eq_true e1]
  clear e1
  go_enter Tryz.func128,Tryz.ntmps128
  go_wp2
  go_ret
  exact⟨by simp,_,rfl⟩
 ·have q1:(d1==d)=false:=by simpa using e1
  rw[decide_eq_false e1]
  clear e1
  go_enter Tryz.func128,Tryz.ntmps128
  go_wp2
  go_ret
  exact⟨by simp,_,rfl⟩
abbrev OwnM (w:World)(b n:Nat)(D:DataW Value):Prop:=w.ownsMap Tryz.prog 3 Rv b n D
theorem dP {w:World}{ops:Array Oper}{rest:List Oper}{o:Oper}{a:Act}{Q:Exit→Act→World→Prop}(hg:o.guard=none)(m x v:Operand)(hop:o.op=Op.insert 149 m x v)(b n:Nat)(D:DataW Value)
  (hm:a.eval m=.map (some b)) (hown:OwnM w b n D) (z:Int) (val:Value) (hx:a.eval x=.int .i64 z) (hv:a.eval v=val) (h0:0≤z) (h1:z<1000) (hn:n<1000)
  (hK:∀w',OwnM w' b (n+1) (D.put (.int .i64 z) (.held val))→w.grownBy w' (some b)→wpList Tryz.prog ops Q rest (a.put o.dst undef) w'):wpList Tryz.prog ops Q (o::rest) a w:=by
 refine wpList_plain hg fun K' hK'=>?_
 obtain⟨w',hrun,r1,r2⟩:=hown.update fZ Tryz.underlying149 (by unfold maxLen;omega) (gT h0 h1) (val:=val) (d:=.held val) (ps:=[]) rfl
 unfold Oper.wp
 simp[execOp,hop,hm,hx,hv,hrun,Result.andThen]
 exact hK' _ _ (hK w' r1 r2)
def qsD (n u v:Nat):DataW Value:=
 ((((DataW.map []).put (.int .i64 0) (.held (.func (.func 126) #[] #[]))).put (.int .i64 1) (.held (.func (.func 127) #[] #[]))).put (.int .i64 2) (.held (.func (.func 128) #[] #[.pointer (some ⟨n,0,none⟩)]))).put (.int .i64 3) (.held (.func (.func 152) #[] #[.pointer (some ⟨u,0,none⟩),.pointer (some ⟨v,0,none⟩)]))
def Asks (w:World)(b:Nat)(d p:Int):Prop:=
 ∃n u v,OwnM w b 4 (qsD n u v)∧(w.cell? ⟨n,1,none⟩=some (.int .i64 d)∧n<w.heap.size)∧(w.cell? ⟨u,0,none⟩=some (.int .i64 d)∧u<w.heap.size)∧(w.cell? ⟨v,0,none⟩=some (.int .i64 p)∧v<w.heap.size)
theorem mA {w w':World}{b n o:Nat}{x:Option Value}(h:w.cell? ⟨n,o,none⟩=x)(hg:w.grownBy w' (some b))(hne:¬n=b)(hl:n<w.heap.size):w'.cell? ⟨n,o,none⟩=x:=by
 rw[←h]
 exact World.cell?_of_block (a:=⟨n,o,none⟩) (hg.block n hl (by simpa using hne))
theorem Blk.grown {w w':World}{n b:Nat}{cs:Array Value}(h:Blk w n cs)(hg:w.grownBy w' (some b))(hne:¬n=b):Blk w' n cs:=by
 have hl:=h.lt
 obtain⟨t,fr,h⟩:=h
 exact⟨t,fr,by rw[hg.block n hl (by simpa using hne)];exact h⟩
set_option maxHeartbeats 1000000 in
theorem dM (k d p:Int)(w:World):
  Calls Tryz.prog 99 #[.agg #[.int .i64 k,.int .i64 d,.int .i64 p]] w fun e w'=>(∃b,e=.returned (.map (some b))∧Asks w' b d p)∧Below w.heap.size w w':=by
 have hmm:=@run_makeMap Tryz.prog
 have hmf:∀(fn:Fn) (first cap:Array Value) (w:World),(Instr.makeFunc fn first cap).run Tryz.prog w=.ok (.func fn first cap) w:=fun _ _ _ _=>rfl
 go_enter Tryz.func99,Tryz.ntmps99
 go_wp2_with (first|(refine dP rfl (.tmp 3) _ _ rfl (w.heap.size+1) 0 (DataW.map []) rfl (by have:=World.ownsMap_made (w.alloc (.cells #[.int .i64 k,.int .i64 d,.int .i64 p] 115)) Tryz.prog 3 Rv;simpa using this) 0 _ rfl rfl (by omega) (by omega) (by omega) ?_))
 intro w1 o1 g1
 have b1:Hid (Below w.heap.size w w1):=(aA (aA (Below.refl _ _) _) _).grown g1 (by simp;omega) (fun j hj=>by cases hj;omega)
 have s1:Hid (w.heap.size+1+1≤w1.heap.size):=by show _≤_;have:=g1.size;simpa using this
 have k1:=((Blk.new w #[.int .i64 k,.int .i64 d,.int .i64 p] 115 (0,0)).past (.map #[] 0)).grown g1 (by omega)
 clear g1
 go_wp2_with (first|(refine dP rfl (.tmp 3) _ _ rfl (w.heap.size+1) 1 _ rfl o1 1 _ rfl rfl (by omega) (by omega) (by omega) ?_))
 intro w2 o2 g2
 have b2:Hid (Below w.heap.size w w2):=b1.out.grown g2 b1.out.size (fun j hj=>by cases hj;omega)
 have s2:Hid (w.heap.size+1+1≤w2.heap.size):=Nat.le_trans s1.out g2.size
 have k2:=k1.grown g2 (by omega)
 clear g2 b1 s1 k1 o1
 go_wp2_with (first|(refine dP rfl (.tmp 3) _ _ rfl (w.heap.size+1) 2 _ rfl o2 2 _ rfl rfl (by omega) (by omega) (by omega) ?_))
 intro w3 o3 g3
 have b3:Hid (Below w.heap.size w w3):=b2.out.grown g3 b2.out.size (fun j hj=>by cases hj;omega)
 have s3:Hid (w.heap.size+1+1≤w3.heap.size):=Nat.le_trans s2.out g3.size
 have k3:=k2.grown g3 (by omega)
 clear g3 b2 s2 k2 o2
 obtain⟨c0,c1,c2⟩:=k3.three
 have l3:=k3.lt
 go_wp2_with (first|(go_at_call 129;refine (qF d p w3).mono ?_;rintro e wq ⟨rfl,rfl⟩)|(refine dP rfl (.tmp 3) _ _ rfl (w.heap.size+1) 3 _ rfl ((o3.alloc _).alloc _) 3 _ rfl rfl (by omega) (by omega) (by omega) ?_))
 intro w4 o4 g4
 have b4:Hid (Below w.heap.size w w4):=(aA (aA b3.out _) _).grown g4 (by have:=s3.out;simp;omega) (fun j hj=>by cases hj;omega)
 have e3:=s3.out
 have hu:w4.cell? ⟨w3.heap.size,0,none⟩=some (.int .i64 d):=mA (by simp[go_sem]) g4 (by omega) (by simp;omega)
 have hv:w4.cell? ⟨w3.heap.size+1,0,none⟩=some (.int .i64 p):=mA (by simp[go_sem]) g4 (by omega) (by simp)
 have z4:w3.heap.size+1+1≤w4.heap.size:=by have:=g4.size;simpa using this
 have HA:Hid (Asks w4 (w.heap.size+1) d p):=⟨w.heap.size,w3.heap.size,w3.heap.size+1,o4,⟨(((k3.past _).past _).grown g4 (by omega)).three.2.1,by omega⟩,⟨hu,by omega⟩,⟨hv,by omega⟩⟩
 clear o4 g4 hu hv k3 o3
 go_wp2
 go_ret
 exact⟨⟨_,rfl,HA.out⟩,b4.out⟩
theorem wA (w:World):(zeroValue 147).run Tryz.prog w=.ok .nilFunc w:=by kernel_rfl
theorem qs_0 (n u v:Nat)(x:DataW Value):(qsD n u v).atKey (.int .i64 0) x=.held (.func (.func 126) #[] #[])∧Maps.has (qsD n u v) (.int .i64 0)=true:=⟨rfl,rfl⟩
theorem qs_1 (n u v:Nat)(x:DataW Value):(qsD n u v).atKey (.int .i64 1) x=.held (.func (.func 127) #[] #[])∧Maps.has (qsD n u v) (.int .i64 1)=true:=⟨rfl,rfl⟩
theorem qs_2 (n u v:Nat)(x:DataW Value):(qsD n u v).atKey (.int .i64 2) x=.held (.func (.func 128) #[] #[.pointer (some ⟨n,0,none⟩)])∧Maps.has (qsD n u v) (.int .i64 2)=true:=⟨rfl,rfl⟩
theorem qs_3 (n u v:Nat)(x:DataW Value):(qsD n u v).atKey (.int .i64 3) x=.held (.func (.func 152) #[] #[.pointer (some ⟨u,0,none⟩),.pointer (some ⟨v,0,none⟩)])∧Maps.has (qsD n u v) (.int .i64 3)=true:=⟨rfl,rfl⟩
theorem qs_no (n u v:Nat)(x:DataW Value){z:Int}(h:¬(0≤z∧z≤3)):(qsD n u v).atKey (.int .i64 z) x=x∧Maps.has (qsD n u v) (.int .i64 z)=false:=by
 have hh:Maps.has (qsD n u v) (.int .i64 z)=false:=by
  unfold qsD
  rw[Maps.has_put_other (by simp;omega),Maps.has_put_other (by simp;omega),Maps.has_put_other (by simp;omega),Maps.has_put_other (by simp;omega)]
  rfl
 exact⟨Maps.atKey_of_not_has hh x,hh⟩
theorem look_ok {w:World}{b:Nat}{D:DataW Value}(h:OwnM w b 4 D){z:Int}(h0:-9223372036854775808≤z)(h1:z≤9223372036854775807){f:Value}{t:Bool}(hD:D.atKey (.int .i64 z) (.held .nilFunc)=.held f∧Maps.has D (.int .i64 z)=t):
  (Instr.lookup 149 (.map (some b)) (.int .i64 z) true).run Tryz.prog w=.ok (.tuple #[f,.bool t]) w:=by
 obtain⟨v,ps,hrun,hv⟩:=h.look_ok fZ Tryz.underlying149 (wA w) (zd:=.held .nilFunc) (zp:=[]) rfl (aBy h0 h1)
 rw[hD.1] at hv
 rw[hD.2] at hrun
 simp only[Rv,Option.some.injEq,Prod.mk.injEq,DataW.held.injEq] at hv
 rw[hrun,hv.1]
theorem Asks.at0 {w:World}{b:Nat}{d p:Int}(h:Asks w b d p):(Instr.lookup 149 (.map (some b)) (.int .i64 0) true).run Tryz.prog w=.ok (.tuple #[.func (.func 126) #[] #[],.bool true]) w:=by
 obtain⟨n,u,v,h,_⟩:=h;exact look_ok h (by decide) (by decide) (qs_0 n u v _)
theorem Asks.at1 {w:World}{b:Nat}{d p:Int}(h:Asks w b d p):(Instr.lookup 149 (.map (some b)) (.int .i64 1) true).run Tryz.prog w=.ok (.tuple #[.func (.func 127) #[] #[],.bool true]) w:=by
 obtain⟨n,u,v,h,_⟩:=h;exact look_ok h (by decide) (by decide) (qs_1 n u v _)
theorem Asks.at2 {w:World}{b:Nat}{d p:Int}(h:Asks w b d p):∃n,(Instr.lookup 149 (.map (some b)) (.int .i64 2) true).run Tryz.prog w=.ok (.tuple #[.func (.func 128) #[] #[.pointer (some ⟨n,0,none⟩)],.bool true]) w∧w.cell? ⟨n,1,none⟩=some (.int .i64 d)∧n<w.heap.size:=by
 obtain⟨n,u,v,h,hn,_⟩:=h;exact⟨n,look_ok h (by decide) (by decide) (qs_2 n u v _),hn⟩
theorem Asks.at3 {w:World}{b:Nat}{d p:Int}(h:Asks w b d p):∃u v,(Instr.lookup 149 (.map (some b)) (.int .i64 3) true).run Tryz.prog w=.ok (.tuple #[.func (.func 152) #[] #[.pointer (some ⟨u,0,none⟩),.pointer (some ⟨v,0,none⟩)],.bool true]) w∧(w.cell? ⟨u,0,none⟩=some (.int .i64 d)∧u<w.heap.size)∧(w.cell? ⟨v,0,none⟩=some (.int .i64 p)∧v<w.heap.size):=by
 obtain⟨n,u,v,h,_,hu,hv⟩:=h;exact⟨u,v,look_ok h (by decide) (by decide) (qs_3 n u v _),hu,hv⟩
theorem Asks.no {w:World}{b:Nat}{d p:Int}(h:Asks w b d p){z:Int}(h0:-9223372036854775808≤z)(h1:z≤9223372036854775807)(hz:¬(0≤z∧z≤3)):(Instr.lookup 149 (.map (some b)) (.int .i64 z) true).run Tryz.prog w=.ok (.tuple #[.nilFunc,.bool false]) w:=by
 obtain⟨n,u,v,h,_⟩:=h;exact look_ok h h0 h1 (qs_no n u v _ hz)
end Go.Proofs.YthlhocneggcekaaGreat
