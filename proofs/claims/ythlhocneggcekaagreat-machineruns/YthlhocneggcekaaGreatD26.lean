/-
  Laid together: HCheck, HState, HStore.
-/
import Derived.Test.YthlhocneggcekaaGreatD7
import Derived.Test.YthlhocneggcekaaGreatD9
import Derived.Test.YthlhocneggcekaaGreatD13
namespace Go.Proofs.YthlhocneggcekaaGreat
open Go.RowKit
set_option maxHeartbeats 1000000 in
theorem mI (p:Int)(v:Value)(r:List Int)(d:Bool)(w:World)(h:Sl w v r):
  Calls Tryz.prog 42 #[.agg #[J p,v,.bool d]] w fun e w'=>e=.returned (J (chkH ⟨p,r,d⟩))∧Below w.heap.size w w':=by
 obtain⟨a,cap,rfl,hl,h⟩:=h
 unfold maxLen at hl
 by_cases hn:r.length=8
 rotate_left
 ·have hne:((r.length:Int) !=8)=true:=by simp;omega
  rw[qS hn]
  clear hn h
  go_enter Tryz.func42,Tryz.ntmps42
  go_wp2
  go_ret
  exact⟨rfl,aA (Below.refl _ _) _⟩
 rcases h with rfl|⟨b,o,rfl,hb,hc⟩
 ·simp at hn
 have HC:Hid (∀i,i<8→w.cell? ⟨b,o+i,none⟩=some (J (nth r i))):=fun i hi=>hc i (by omega)
 have HN:Hid (r.length=8):=hn
 rw[hn]
 clear hc hl hn
 cases hp:placeB p
 ·rw[qT HN.out hp]
  have ho:p<0∨(0≤p∧512≤p):=by simp[placeB] at hp;omega
  clear hp
  rcases ho with ho|⟨ho,ho2⟩
  ·go_enter Tryz.func42,Tryz.ntmps42
   go_wp2
   go_ret
   exact⟨rfl,aA (Below.refl _ _) _⟩
  ·have ho3:¬p<0:=by omega
   go_enter Tryz.func42,Tryz.ntmps42
   go_wp2
   go_ret
   exact⟨rfl,aA (Below.refl _ _) _⟩
 have HP0:Hid (placeB p=true):=hp
 have hpp:¬p<0∧¬512≤p:=by simp[placeB] at hp;omega
 obtain⟨hp1,hp2⟩:=hpp
 clear hp
 go_enter Tryz.func42,Tryz.ntmps42
 go_wp2
 go_loop [20] (fun i=>∃k:Nat,k≤8∧i=J k∧∀j,j<k→wordB (nth r j)=true) (fun i=>8-(intOf i).toNat)
 case atStart=>exact⟨0,Nat.zero_le _,rfl,fun j hj=>absurd hj (Nat.not_lt_zero _)⟩
 case round=>
  obtain⟨k,hk,rfl,hpre⟩:=hrel
  have HP:Hid (∀j,j<k→wordB (nth r j)=true):=hpre
  clear hpre
  by_cases hlt:k<8
  ·have g:=HC.out k hlt
   have hlt1:(k:Int)<8:=by omega
   obtain⟨z,hz⟩:∃z,nth r k=z:=⟨_,rfl⟩
   rw[hz] at g
   have HZ:Hid (nth r k=z):=hz
   clear hz
   by_cases hq:wordB z=true
   ·have hq2:¬z<0∧¬65535<z:=by simp[wordB] at hq;omega
    obtain⟨q1,q2⟩:=hq2
    have HQ:Hid (wordB z=true):=hq
    clear hq
    go_wp2
    refine⟨⟨k+1,by omega,by go_num,fun j hj=>?_⟩,by simp[intOf];omega⟩
    by_cases e:j=k
    ·rw[e,HZ.out];exact HQ.out
    ·exact HP.out j (by omega)
   ·have hq':wordB z=false:=by simpa using hq
    have HD:Hid (chkH ⟨p,r,d⟩=2):=qU HN.out HP0.out hlt (by rw[HZ.out];exact hq')
    have hq2:z<0∨(¬z<0∧65535<z):=by simp[wordB] at hq';omega
    clear hq hq'
    rcases hq2 with q1|⟨q1,q2⟩
    all_goals
     go_wp2
     go_ret
     exact⟨aM HD.out.symm,aA (Below.refl _ _) _⟩
  ·have HD:Hid (chkH ⟨p,r,d⟩=0):=qV HN.out HP0.out fun j hj=>HP.out j (by omega)
   have hge:¬(k:Int)<8:=by omega
   go_wp2
   go_ret
   exact⟨aM HD.out.symm,aA (Below.refl _ _) _⟩
def zeroRegs:Array Value:=madeCells #[J 0] 8
def zero8:List Int:=List.replicate 8 0
theorem nG:zeroRegs.toList=zero8.map (fun z=>J z):=by
 unfold zeroRegs zero8
 rw[toList_madeCells_one,List.map_replicate]
theorem make8 (w:World):(Instr.makeSlice 22 (J 8) (J 8)).run Tryz.prog w=.ok (.slice (some ⟨w.heap.size,0,none⟩) 8 8) (w.alloc (.cells zeroRegs 3)):=by
 obtain⟨i,hi,hz,hs,hb⟩:=infoInt
 have h:=run_make (P:=Tryz.prog) w 22 3 i _ Tryz.underlying22 hi hz .i64 .i64 8 8 (by decide) (by decide) (by rw[hb];decide) (by decide)
 rw[hs] at h
 exact h
def allE (zs:List Int)(h:Ht)(b:Br):Int:=if chk zs=0 then (if chkH h=0 then chkB b else chkH h) else chk zs
set_option maxHeartbeats 2000000 in
theorem nH (v:Value)(zs:List Int)(p:Int)(u:Value)(r:List Int)(d:Bool)(mo ba op oh ot fe fp fh ft:Int)(st lo:Bool)(vc:Value)(l:List Ln)(w:World)(hs:Sl w v zs)(hr:Sl w u r)(h:Ls w vc l):
  Calls Tryz.prog 100 #[.agg #[v],.agg #[J p,u,.bool d],.agg (rB mo ba vc op oh ot st fe fp fh ft lo)] w fun e w'=>e=.returned (J (allE zs ⟨p,r,d⟩ ⟨mo,ba,l,op,oh,ot,st,fe,fp,fh,ft,lo⟩))∧Below w.heap.size w w':=by
 have HM:Hid (Sl w v zs):=hs
 have HR:Hid (Sl w u r):=hr
 have HL:Hid (Ls w vc l):=h
 obtain⟨a1,n1,c1,rfl⟩:∃a k c,v=.slice a k c:=let ⟨a,c,e,_⟩:=hs;⟨a,_,c,e⟩
 obtain⟨a2,n2,c2,rfl⟩:∃a k c,u=.slice a k c:=let ⟨a,c,e,_⟩:=hr;⟨a,_,c,e⟩
 obtain⟨va,vk,rfl,-⟩:=h.shape
 obtain⟨N,hN⟩:∃N,N=l.length:=⟨_,rfl⟩
 rw[←hN] at HL ⊢
 clear hs hr h hN
 have HT:Hid (allE zs ⟨p,r,d⟩ ⟨mo,ba,l,op,oh,ot,st,fe,fp,fh,ft,lo⟩=if chk zs=0 then (if chkH ⟨p,r,d⟩=0 then chkB ⟨mo,ba,l,op,oh,ot,st,fe,fp,fh,ft,lo⟩ else chkH ⟨p,r,d⟩) else chk zs):=rfl
 have B3:Hid (∀A B C:Obj,Below w.heap.size w (((w.alloc A).alloc B).alloc C)):=fun A B C=>aA (aA (aA (Below.refl _ _) A) B) C
 go_enter Tryz.func100,Tryz.ntmps100
 go_wp2_with fail
 refine (cE _ zs _ (HM.out.keep (B3.out _ _ _))).mono ?_
 rintro e w1 ⟨rfl,b1⟩
 have X1:=((Box.newAt (w:=w.alloc (.cells #[.slice a1 n1 c1] 24)) (n:=w.heap.size+1) (by simp) 26 #[J p,.slice a2 n2 c2,.bool d]).past _).keep b1
 have X2:=(Box.newAt (w:=(w.alloc (.cells #[.slice a1 n1 c1] 24)).alloc (.cells #[J p,.slice a2 n2 c2,.bool d] 26)) (n:=w.heap.size+1+1) (by simp) 31 (rB mo ba (.slice va N vk) op oh ot st fe fp fh ft lo)).keep b1
 have BB:Hid (Below w.heap.size w w1):=aB (B3.out _ _ _) b1
 clear b1
 by_cases e1:chk zs=0
 rotate_left
 ·obtain⟨c,hc⟩:∃c,chk zs=c:=⟨_,rfl⟩
  have HC:Hid (allE zs ⟨p,r,d⟩ ⟨mo,ba,l,op,oh,ot,st,fe,fp,fh,ft,lo⟩=c):=by rw[hc] at e1;show _=_;rw[HT.out,hc,if_neg e1]
  rw[hc] at e1 ⊢
  have q1:(c !=0)=true:=by simpa using e1
  clear e1 hc HT X1 X2
  go_wp2_with fail
  go_ret
  exact⟨aM HC.out.symm,BB.out⟩
 rw[e1]
 have HT:Hid (allE zs ⟨p,r,d⟩ ⟨mo,ba,l,op,oh,ot,st,fe,fp,fh,ft,lo⟩=if chkH ⟨p,r,d⟩=0 then chkB ⟨mo,ba,l,op,oh,ot,st,fe,fp,fh,ft,lo⟩ else chkH ⟨p,r,d⟩):=by show _=_;rw[HT.out,if_pos e1]
 clear e1
 obtain⟨i0,i1,i2,-,-,-,s1⟩:=X1.three
 go_wp2_with fail
 refine (mI p _ r d _ (HR.out.keep BB.out)).mono ?_
 rintro e w2 ⟨rfl,b2⟩
 have X2:=X2.keep b2
 have BC:Hid (Below w.heap.size w w2):=aB BB.out b2
 clear b2 i0 i1 i2 s1 X1 BB
 by_cases e2:chkH ⟨p,r,d⟩=0
 rotate_left
 ·obtain⟨c,hc⟩:∃c,chkH ⟨p,r,d⟩=c:=⟨_,rfl⟩
  have HC:Hid (allE zs ⟨p,r,d⟩ ⟨mo,ba,l,op,oh,ot,st,fe,fp,fh,ft,lo⟩=c):=by rw[hc] at e2;show _=_;rw[HT.out,hc,if_neg e2]
  rw[hc] at e2 ⊢
  have q1:(c !=0)=true:=by simpa using e2
  clear e2 hc HT X2
  go_wp2_with fail
  go_ret
  exact⟨aM HC.out.symm,BC.out⟩
 rw[e2]
 have HT:Hid (allE zs ⟨p,r,d⟩ ⟨mo,ba,l,op,oh,ot,st,fe,fp,fh,ft,lo⟩=chkB ⟨mo,ba,l,op,oh,ot,st,fe,fp,fh,ft,lo⟩):=by show _=_;rw[HT.out,if_pos e2]
 clear e2
 obtain⟨⟨d0,d1,d2,d3,d4,d5,d6,d7,d8,d9,d10,d11⟩,s2⟩:=X2.twelve
 go_wp2_with fail
 refine (cV mo ba op oh ot fe fp fh ft st lo _ l _ (HL.out.keep BC.out)).mono ?_
 rintro e w3 ⟨rfl,b3⟩
 go_wp2_with fail
 go_ret
 exact⟨aM HT.out.symm,aB BC.out b3⟩
theorem Box.marksAll {w:World}{n:Nat}{t:TypeId}{cs:Array Value}(h:Box w n t cs):∀i,w.frozen? ⟨n,i,none⟩=false:=fun i=>h.frozen i
theorem Box.state {w:World}{n:Nat}{t:TypeId}{vm vc:Value}{pc:Int}{rs:List Int}{mo ba op oh ot fe fp fh ft:Int}{st lo:Bool}(h:Box w n t #[vm,J pc,J (nth rs 0),J (nth rs 1),J (nth rs 2),J (nth rs 3),J (nth rs 4),J (nth rs 5),J (nth rs 6),J (nth rs 7),J mo,J ba,vc,J op,J oh,J ot,.bool st,J fe,J fp,J fh,J ft,.bool lo]):
  (w.cell? ⟨n,0,none⟩=some vm∧w.cell? ⟨n,1,none⟩=some (J pc)∧w.cell? ⟨n,2,none⟩=some (J (nth rs 0))∧w.cell? ⟨n,3,none⟩=some (J (nth rs 1))∧w.cell? ⟨n,4,none⟩=some (J (nth rs 2))∧w.cell? ⟨n,5,none⟩=some (J (nth rs 3))∧w.cell? ⟨n,6,none⟩=some (J (nth rs 4))∧w.cell? ⟨n,7,none⟩=some (J (nth rs 5))∧w.cell? ⟨n,8,none⟩=some (J (nth rs 6))∧w.cell? ⟨n,9,none⟩=some (J (nth rs 7)))∧
  (w.cell? ⟨n,10,none⟩=some (J mo)∧w.cell? ⟨n,11,none⟩=some (J ba)∧w.cell? ⟨n,12,none⟩=some vc∧w.cell? ⟨n,13,none⟩=some (J op)∧w.cell? ⟨n,14,none⟩=some (J oh)∧w.cell? ⟨n,15,none⟩=some (J ot)∧w.cell? ⟨n,16,none⟩=some (.bool st)∧w.cell? ⟨n,17,none⟩=some (J fe)∧w.cell? ⟨n,18,none⟩=some (J fp)∧w.cell? ⟨n,19,none⟩=some (J fh)∧w.cell? ⟨n,20,none⟩=some (J ft)∧w.cell? ⟨n,21,none⟩=some (.bool lo))∧n<w.heap.size:=
 ⟨⟨h.cell 0,h.cell 1,h.cell 2,h.cell 3,h.cell 4,h.cell 5,h.cell 6,h.cell 7,h.cell 8,h.cell 9⟩,⟨h.cell 10,h.cell 11,h.cell 12,h.cell 13,h.cell 14,h.cell 15,h.cell 16,h.cell 17,h.cell 18,h.cell 19,h.cell 20,h.cell 21⟩,h.lt⟩
theorem Box.state0 {w:World}{n:Nat}{t:TypeId}{a0 a1 a2 a3 a4 a5 a6 a7 a8 a9 a10 a11 a12 a13 a14 a15 a16 a17 a18 a19 a20 a21:Value}(h:Box w n t #[a0,a1,a2,a3,a4,a5,a6,a7,a8,a9,a10,a11,a12,a13,a14,a15,a16,a17,a18,a19,a20,a21]):
  (w.cell? ⟨n,0,none⟩=some a0∧w.cell? ⟨n,1,none⟩=some a1∧w.cell? ⟨n,2,none⟩=some a2∧w.cell? ⟨n,3,none⟩=some a3∧w.cell? ⟨n,4,none⟩=some a4∧w.cell? ⟨n,5,none⟩=some a5∧w.cell? ⟨n,6,none⟩=some a6∧w.cell? ⟨n,7,none⟩=some a7∧w.cell? ⟨n,8,none⟩=some a8∧w.cell? ⟨n,9,none⟩=some a9)∧
  (w.cell? ⟨n,10,none⟩=some a10∧w.cell? ⟨n,11,none⟩=some a11∧w.cell? ⟨n,12,none⟩=some a12∧w.cell? ⟨n,13,none⟩=some a13∧w.cell? ⟨n,14,none⟩=some a14∧w.cell? ⟨n,15,none⟩=some a15∧w.cell? ⟨n,16,none⟩=some a16∧w.cell? ⟨n,17,none⟩=some a17∧w.cell? ⟨n,18,none⟩=some a18∧w.cell? ⟨n,19,none⟩=some a19∧w.cell? ⟨n,20,none⟩=some a20∧w.cell? ⟨n,21,none⟩=some a21)∧n<w.heap.size:=
 ⟨⟨h.cell 0,h.cell 1,h.cell 2,h.cell 3,h.cell 4,h.cell 5,h.cell 6,h.cell 7,h.cell 8,h.cell 9⟩,⟨h.cell 10,h.cell 11,h.cell 12,h.cell 13,h.cell 14,h.cell 15,h.cell 16,h.cell 17,h.cell 18,h.cell 19,h.cell 20,h.cell 21⟩,h.lt⟩
theorem Box.reg {w:World}{n:Nat}{t:TypeId}{vm vc:Value}{pc:Int}{rs:List Int}{mo ba op oh ot fe fp fh ft:Int}{st lo:Bool}(h:Box w n t #[vm,J pc,J (nth rs 0),J (nth rs 1),J (nth rs 2),J (nth rs 3),J (nth rs 4),J (nth rs 5),J (nth rs 6),J (nth rs 7),J mo,J ba,vc,J op,J oh,J ot,.bool st,J fe,J fp,J fh,J ft,.bool lo]){i:Nat}(hi:i<8):w.cell? ⟨n,2+i,none⟩=some (J (nth rs i)):=by
 have:=h.cell (2+i)
 rw[this]
 have e:i=0∨i=1∨i=2∨i=3∨i=4∨i=5∨i=6∨i=7:=by omega
 rcases e with rfl|rfl|rfl|rfl|rfl|rfl|rfl|rfl <;> rfl
theorem aP {l:List Int}{i j:Nat}(h:¬i=j)(z:Int):nth l j=nth (l.set i z) j:=(iI h z).symm
theorem Box.setReg {w:World}{n:Nat}{t:TypeId}{vm vc:Value}{pc:Int}{rs:List Int}{mo ba op oh ot fe fp fh ft:Int}{st lo:Bool}(h:Box w n t #[vm,J pc,J (nth rs 0),J (nth rs 1),J (nth rs 2),J (nth rs 3),J (nth rs 4),J (nth rs 5),J (nth rs 6),J (nth rs 7),J mo,J ba,vc,J op,J oh,J ot,.bool st,J fe,J fp,J fh,J ft,.bool lo]){i:Nat}(hi:i<8)(h8:rs.length=8)(z:Int):
  Box (w.setCell ⟨n,2+i,none⟩ (J z)) n t #[vm,J pc,J (nth (rs.set i z) 0),J (nth (rs.set i z) 1),J (nth (rs.set i z) 2),J (nth (rs.set i z) 3),J (nth (rs.set i z) 4),J (nth (rs.set i z) 5),J (nth (rs.set i z) 6),J (nth (rs.set i z) 7),J mo,J ba,vc,J op,J oh,J ot,.bool st,J fe,J fp,J fh,J ft,.bool lo]:=by
 have:=h.set (2+i) (J z)
 have e:i=0∨i=1∨i=2∨i=3∨i=4∨i=5∨i=6∨i=7:=by omega
 have hz:=lR (l:=rs) (i:=i) (by omega) z
 rcases e with rfl|rfl|rfl|rfl|rfl|rfl|rfl|rfl
 ·rw[aP (show ¬0=1 by decide) z,aP (show ¬0=2 by decide) z,aP (show ¬0=3 by decide) z,aP (show ¬0=4 by decide) z,aP (show ¬0=5 by decide) z,aP (show ¬0=6 by decide) z,aP (show ¬0=7 by decide) z] at this
  rw[hz];exact this
 ·rw[aP (show ¬1=0 by decide) z,aP (show ¬1=2 by decide) z,aP (show ¬1=3 by decide) z,aP (show ¬1=4 by decide) z,aP (show ¬1=5 by decide) z,aP (show ¬1=6 by decide) z,aP (show ¬1=7 by decide) z] at this
  rw[hz];exact this
 ·rw[aP (show ¬2=0 by decide) z,aP (show ¬2=1 by decide) z,aP (show ¬2=3 by decide) z,aP (show ¬2=4 by decide) z,aP (show ¬2=5 by decide) z,aP (show ¬2=6 by decide) z,aP (show ¬2=7 by decide) z] at this
  rw[hz];exact this
 ·rw[aP (show ¬3=0 by decide) z,aP (show ¬3=1 by decide) z,aP (show ¬3=2 by decide) z,aP (show ¬3=4 by decide) z,aP (show ¬3=5 by decide) z,aP (show ¬3=6 by decide) z,aP (show ¬3=7 by decide) z] at this
  rw[hz];exact this
 ·rw[aP (show ¬4=0 by decide) z,aP (show ¬4=1 by decide) z,aP (show ¬4=2 by decide) z,aP (show ¬4=3 by decide) z,aP (show ¬4=5 by decide) z,aP (show ¬4=6 by decide) z,aP (show ¬4=7 by decide) z] at this
  rw[hz];exact this
 ·rw[aP (show ¬5=0 by decide) z,aP (show ¬5=1 by decide) z,aP (show ¬5=2 by decide) z,aP (show ¬5=3 by decide) z,aP (show ¬5=4 by decide) z,aP (show ¬5=6 by decide) z,aP (show ¬5=7 by decide) z] at this
  rw[hz];exact this
 ·rw[aP (show ¬6=0 by decide) z,aP (show ¬6=1 by decide) z,aP (show ¬6=2 by decide) z,aP (show ¬6=3 by decide) z,aP (show ¬6=4 by decide) z,aP (show ¬6=5 by decide) z,aP (show ¬6=7 by decide) z] at this
  rw[hz];exact this
 ·rw[aP (show ¬7=0 by decide) z,aP (show ¬7=1 by decide) z,aP (show ¬7=2 by decide) z,aP (show ¬7=3 by decide) z,aP (show ¬7=4 by decide) z,aP (show ¬7=5 by decide) z,aP (show ¬7=6 by decide) z] at this
  rw[hz];exact this
theorem infoState:(Tryz.prog.info? 154).map (·.size)=some 22:=by kernel_rfl
theorem Box.setRow {w:World}{n:Nat}{t:TypeId}{cs:Array Value}(h:Box w n t cs)(new:Array Value):Box (w.setRow n new) n t new:=setRow_heap w n cs new t _ h
theorem Box.otherRow {w:World}{n m:Nat}{t:TypeId}{cs:Array Value}(h:Box w n t cs)(hp:n≠m)(new:Array Value):Box (w.setRow m new) n t cs:=(setRow_other w m n new hp).trans h
theorem aG {a w:World}{n:Nat}(hp:a.heap.size≤n)(h:Below a.heap.size a w)(new:Array Value):Below a.heap.size a (w.setRow n new):=
 ⟨h.os,h.tape,h.output,by simpa [World.setRow] using h.size,fun k hk=>(setRow_other w n k new (by omega)).trans (h.block k hk)⟩
theorem Box.loadState {w:World}{n:Nat}{t:TypeId}{cs:Array Value}(h:Box w n t cs)(hs:cs.size=22):(loadVar 154 ⟨n,0,none⟩).run Tryz.prog w=.ok (.agg cs) w:=
 run_loadVar_row w n t 154 cs (0,0) _ h Tryz.underlying154 rfl (by rw[infoState,hs])
theorem stateOne (am:Option Addr)(nm cm:Nat)(pc r0 r1 r2 r3 r4 r5 r6 r7 mo ba op oh ot fe fp fh ft:Int)(st lo:Bool)(ca:Option Addr)(ck cc:Nat):Array.all (α:=Value) #[.slice am nm cm,J pc,J r0,J r1,J r2,J r3,J r4,J r5,J r6,J r7,J mo,J ba,.slice ca ck cc,J op,J oh,J ot,.bool st,J fe,J fp,J fh,J ft,.bool lo] (·.oneCell')=true:=by simp[Value.oneCell']
theorem Sl.otherRow {w:World}{v:Value}{zs:List Int}(h:Sl w v zs){m:Nat}(hp:v.ownBlock≠some m)(new:Array Value):Sl (w.setRow m new) v zs:=by
 obtain⟨a,cap,rfl,hl,h⟩:=h
 refine⟨a,cap,rfl,hl,?_⟩
 rcases h with h|⟨b,o,rfl,hlt,hc⟩
 ·exact .inl h
 ·refine .inr ⟨b,o,rfl,by simpa [World.setRow] using hlt,fun i hi=>?_⟩
  have hb:b≠m:=fun e=>hp (by simp[Value.ownBlock,e])
  rw[World.cell?_of_block (a:=⟨b,o+i,none⟩) (setRow_other w m b new hb)]
  exact hc i hi
theorem mJ (z:Int)(w:World)(h0:0≤z):
  Calls Tryz.prog 154 #[J z] w fun e w'=>e=.returned (J (z%65536))∧w'=w:=by
 go_enter Tryz.func154,Tryz.ntmps154
 go_wp2
 go_ret
 exact⟨rfl,rfl⟩
set_option maxHeartbeats 1000000 in
theorem rX (v i:Int)(w:World)(hv:0≤v∧v≤65535)(hi:0≤i∧i≤63):
  Calls Tryz.prog 155 #[J v,J i] w fun e w'=>e=.returned (J (v*2 ^ i.toNat%65536))∧w'=w:=by
 have HV:Hid (0≤v∧v≤65535):=hv
 obtain⟨hi0,hi1⟩:=hi
 clear hv
 go_enter Tryz.func155,Tryz.ntmps155
 go_wp2
 go_loop [0,6] (fun s c=>∃k:Nat,(k:Int)≤i∧c=J k∧s=J (shl v k)) (fun _ c=>64-(intOf c).toNat)
 case atStart=>exact⟨0,by omega,rfl,rfl⟩
 case round=>
  obtain⟨k,hk,rfl,rfl⟩:=hrel
  by_cases hlt:(k:Int)<i
  ·obtain⟨s,hs⟩:∃s,shl v k=s:=⟨_,rfl⟩
   have hsb:=zE HV.out k
   have HS:Hid (shl v (k+1)=s*2%65536):=by show _=_;rw[shl,hs]
   rw[hs] at hsb ⊢
   obtain⟨s0,s1⟩:=hsb
   clear hs
   go_wp2_with (go_at_call 154;refine (mJ _ _ (by omega)).mono ?_;rintro e w' ⟨rfl,rfl⟩)
   refine⟨⟨k+1,by omega,by go_num,by rw[HS.out]⟩,by simp[intOf];omega⟩
  ·have hn:k=i.toNat:=by omega
   have HS:Hid (shl v k=v*2 ^ i.toNat%65536):=by show _=_;rw[oY HV.out,hn]
   clear hn
   go_wp2
   go_ret
   exact⟨aM HS.out,rfl⟩
theorem rY (mo ba op oh ot fe fp fh ft:Int)(st lo:Bool)(vc:Value)(l:List Ln)(w:World)(hc:∃a k c,vc=.slice a k c):
  Calls Tryz.prog 174 #[.agg #[J mo,J ba,vc,J op,J oh,J ot,.bool st,J fe,J fp,J fh,J ft,.bool lo]] w fun e w'=>e=.returned (J (stB ⟨mo,ba,l,op,oh,ot,st,fe,fp,fh,ft,lo⟩))∧∃o,w'=w.alloc o:=by
 obtain⟨ca,ck,cc,rfl⟩:=hc
 cases st <;> cases lo
 all_goals
  go_enter Tryz.func174,Tryz.ntmps174
  go_wp2
  go_ret
  exact⟨rfl,_,rfl⟩
section
open Go
variable {P:Program} {ops:Array Oper} {Q:Exit→Act→World→Prop} {md:Region.Mode} {S:World→Prop}
theorem bZ {i j:Nat}{o o2:Oper}{n:Nat}{listed:Array Bool}{a:Act}{w:World}(hr:Region.ready md ops listed=[i,j])(ho:opL ops.toList i=some o)(ho2:opL ops.toList j=some o2)
  (h:∀K':Act→World→Prop,Shut (∀a w,S w→(S w→wpAnyH P md ops Q S n (listed.setIfInBounds i true) a w)→K' a w)→if Region.wanted o (yielded ops a.tmps)=true then Oper.wp P o a w K' Q else K' (a.put o.dst undef) w)
  (h2:∀K':Act→World→Prop,Shut (∀a w,S w→(S w→wpAnyH P md ops Q S n (listed.setIfInBounds j true) a w)→K' a w)→if Region.wanted o2 (yielded ops a.tmps)=true then Oper.wp P o2 a w K' Q else K' (a.put o2.dst undef) w):
  wpAnyH P md ops Q S (n+1) listed a w:=wpAnyH_ready hr (by simp) (AllReadyH.cons (bY ho) h (AllReadyH.cons (bY ho2) h2 AllReadyH.nil))
end
theorem rZ (v:Value)(zs:List Int)(k x:Int)(w:World)(h:Sl w v zs)(hk:chk zs=0)(hx:wordB x=true):
  Calls Tryz.prog 163 #[.agg #[v],J k,J x] w fun e w'=>∃a n c,e=.returned (.tuple #[.agg #[.slice a n c],J (if placeB k=true then 0 else 4)])∧(placeB k=true→Sl w' (.slice a n c) (zs.set k.toNat x)∧Fresh w.heap.size (.slice a n c))∧Below w.heap.size w w':=by
 by_cases hp:placeB k=true
 ·refine (nR v zs k x w h hk hp hx).mono ?_
  rintro e w' ⟨v',rfl,h1,hf,h2⟩
  have h3:=h1
  obtain⟨a,c,rfl,-⟩:=h1
  exact⟨a,_,c,by rw[if_pos hp],fun _=>⟨h3,hf⟩,h2⟩
 ·refine (nS v zs k x w h (fun q=>hp q.2.1)).mono ?_
  rintro e w' ⟨rfl,h2⟩
  refine⟨none,0,0,?_,fun q=>absurd q hp,h2⟩
  rw[if_neg hp,wrE,if_pos hk,if_neg hp]
set_option maxRecDepth 10000 in
set_option maxHeartbeats 4000000 in
theorem xL (am:Option Addr)(nm cm:Nat)(zs:List Int)(pc:Int)(rs:List Int)(mo ba op oh ot fe fp fh ft:Int)(st lo:Bool)(ca:Option Addr)(ck cc:Nat)(k x y i:Int)(w:World)(hs:Sl w (.slice am nm cm) zs)(hz:chk zs=0)(h8:rs.length=8)(hw:∀j,j<8→0≤nth rs j∧nth rs j≤65535)(hx:0≤x∧x≤7)(hy:0≤y∧y≤7)(hi:0≤i∧i≤63):
  Calls Tryz.prog 157 #[.agg (rS (.slice am nm cm) pc rs mo ba (.slice ca ck cc) op oh ot st fe fp fh ft lo),.agg #[J k,J x,J y,J i]] w fun e w'=>
   ∃a1 n1 c1,e=.returned (.tuple #[.agg (rS (.slice a1 n1 c1) pc rs mo ba (.slice ca ck cc) op oh ot st fe fp fh ft lo),.bool (decide (nth rs y.toNat+i≤511))])∧(nth rs y.toNat+i≤511→Sl w' (.slice a1 n1 c1) (zs.set (nth rs y.toNat+i).toNat (nth rs x.toNat))∧Fresh w.heap.size (.slice a1 n1 c1))∧Below w.heap.size w w':=by
 have HM:Hid (Sl w (.slice am nm cm) zs):=hs
 have HZ:Hid (chk zs=0):=hz
 obtain⟨hx0,hx1⟩:=hx
 obtain⟨hy0,hy1⟩:=hy
 obtain⟨hi0,hi1⟩:=hi
 have hx9:x<8:=by omega
 have hy9:y<8:=by omega
 have hx8:x.toNat<8:=by omega
 have hy8:y.toNat<8:=by omega
 have H8:Hid (rs.length=8):=h8
 have rx:=hw x.toNat hx8
 have ry:=hw y.toNat hy8
 obtain⟨one,h1⟩:∃one,nth rs x.toNat=one:=⟨_,rfl⟩
 obtain⟨two,h2⟩:∃two,nth rs y.toNat=two:=⟨_,rfl⟩
 have H1:Hid (nth rs x.toNat=one):=h1
 have H2:Hid (nth rs y.toNat=two):=h2
 rw[h1] at rx
 rw[h2] at ry
 rw[h1,h2]
 have HX:Hid (wordB one=true):=decide_eq_true rx
 have HP:Hid (placeB (two+i)=decide (two+i≤511)):=by
  show _=_
  unfold placeB
  by_cases e:two+i≤511
  ·rw[decide_eq_true e,decide_eq_true (by omega)]
  ·rw[decide_eq_false e,decide_eq_false (by omega)]
 obtain⟨ee,he1⟩:∃ee:Int,(if placeB (two+i)=true then (0:Int) else 4)=ee:=⟨_,rfl⟩
 have HE1:Hid _:=he1
 have HOK:Hid ((ee==0)=decide (two+i≤511)):=by
  show _=_
  rw[←he1,HP.out]
  by_cases e:two+i≤511
  ·rw[decide_eq_true e];rfl
  ·rw[decide_eq_false e];rfl
 obtain⟨ok,hok⟩:∃ok,(ee==0)=ok:=⟨_,rfl⟩
 have hwr:IntKind.i64.wrap (two+i)=two+i:=cF _ (by omega) (by omega)
 clear he1 h1 h2 hs h8 hw hz
 go_enter Tryz.func157,Tryz.ntmps157
 go_upto_region 1 with fail
 have X0:=((Box.newAt (w:=w) (n:=w.heap.size) rfl 154 (rS (.slice am nm cm) pc rs mo ba (.slice ca ck cc) op oh ot st fe fp fh ft lo)).past (.cells #[J k,J x,J y,J i] 130)).past (.cells zS 154)
 have X1:=(Box.newAt (w:=w.alloc (.cells (rS (.slice am nm cm) pc rs mo ba (.slice ca ck cc) op oh ot st fe fp fh ft lo) 154)) (n:=w.heap.size+1) (by simp) 130 #[J k,J x,J y,J i]).past (.cells zS 154)
 have X2:=Box.newAt (w:=(w.alloc (.cells (rS (.slice am nm cm) pc rs mo ba (.slice ca ck cc) op oh ot st fe fp fh ft lo) 154)).alloc (.cells #[J k,J x,J y,J i] 130)) (n:=w.heap.size+1+1) (by simp) 154 zS
 have B0:Hid (Below w.heap.size w _):=aA (aA (aA (Below.refl w.heap.size w) (.cells (rS (.slice am nm cm) pc rs mo ba (.slice ca ck cc) op oh ot st fe fp fh ft lo) 154)) (.cells #[J k,J x,J y,J i] 130)) (.cells zS 154)
 have W3:Hid ((((w.alloc (.cells (rS (.slice am nm cm) pc rs mo ba (.slice ca ck cc) op oh ot st fe fp fh ft lo) 154)).alloc (.cells #[J k,J x,J y,J i] 130)).alloc (.cells zS 154)).heap.size=w.heap.size+1+1+1):=by show _=_;simp
 generalize (((w.alloc (.cells (rS (.slice am nm cm) pc rs mo ba (.slice ca ck cc) op oh ot st fe fp fh ft lo) 154)).alloc (.cells #[J k,J x,J y,J i] 130)).alloc (.cells zS 154))=W at *
 refine wp_region_held_drew (S:=fun w'=>Below W.heap.size W w') (by kernel_rfl) (Below.drew (Below.refl _ _)) (fun hHeld=>?_)
 have CF:Cl (fun w'=>Below W.heap.size W w') _:=⟨fun wz hSz=>And.intro ((X0.keep hSz).state) (And.intro ((X1.keep hSz).four) (And.intro (eqJ ((X0.keep hSz).reg hx8) H1.out) (eqJ ((X0.keep hSz).reg hy8) H2.out)))⟩
 refine tkH 0 rfl ?_
 refine tkH 1 rfl ?_
 refine tkH 2 rfl ?_
 refine tkH 3 rfl ?_
 refine tkH 4 rfl ?_
 refine tkH 5 rfl ?_
 refine tkH 6 rfl ?_
 refine tkH 7 rfl ?_
 refine tkH 8 rfl ?_
 refine tkH 9 rfl ?_
 refine tkH 10 rfl ?_
 refine tkH 11 rfl ?_
 refine tkH 12 rfl ?_
 refine tkH 13 rfl ?_
 refine tkH 14 rfl ?_
 refine bZ (i:=15) (j:=19) (by kernel_rfl) (by rfl) (by rfl) (fun K hK=>?_) (fun K hK=>?_)
 ·go_simp
  refine (rZ _ zs (two+i) one _ (HM.out.keep (aB B0.out hHeld)) HZ.out HX.out).mono ?_
  rintro e w5 ⟨a1,n1,c1,rfl,hS1,b5⟩
  rw[HE1.out]
  go_wp2_with fail
  refine hK.out _ _ ?_ (fun hHeld2=>?_)
  ·exact aB hHeld b5
  clear hK K hHeld
  have hHeld:=hHeld2
  clear hHeld2
  refine tkH 16 rfl ?_
  refine tkH 17 rfl ?_
  refine tkH 18 rfl ?_
  refine aE (i:=19) (by kernel_rfl) (by rfl) (fun K hK=>?_)
  go_simp
  refine hK.out _ _ ?_ (fun hHeld2=>?_)
  ·exact aA hHeld _
  clear hK K hHeld
  have hHeld:=hHeld2
  clear hHeld2
  refine aE (i:=20) (by kernel_rfl) (by rfl) (fun K hK=>?_)
  go_simp
  refine hK.out _ _ ?_ (fun hHeld2=>?_)
  ·exact aA (aB (Below.drew (Below.refl _ _)) b5) _
  clear hK K hHeld
  have hHeld:=hHeld2
  clear hHeld2
  refine tkH 21 rfl ?_
  refine wpAnyH_done (by kernel_rfl) ?_ _
  have X6:=Box.newAt (w:=w5) (n:=w5.heap.size) rfl 24 #[.slice a1 n1 c1]
  have HS1:Hid (two+i≤511→Sl (w5.alloc (.cells #[.slice a1 n1 c1] 24)) (.slice a1 n1 c1) (zs.set (two+i).toNat one)∧Fresh (w.heap.size+1+1+1) (.slice a1 n1 c1)):=fun q=>let h:=hS1 (by rw[HP.out];exact decide_eq_true q);⟨h.1.keep (aA (Below.refl _ _) _),h.2.mono (by have:=W3.out;simp;omega)⟩
  have hN6:w.heap.size+1+1<w5.heap.size:=by have:=b5.size;have w3:=W3.out;simp at this;omega
  clear hS1 b5
  generalize (w5.alloc (.cells #[.slice a1 n1 c1] 24))=W5 at *
  generalize w5.heap.size=N6 at *
  have X0:=X0.keep hHeld
  have X2:=X2.keep hHeld
  have B5:Hid (Below w.heap.size w W5):=aB B0.out hHeld
  clear hHeld B0 X1
  have Y0:=Box.set X0 0 (.slice a1 n1 c1)
  have Y0:Box (W5.setCell ⟨w.heap.size,0,none⟩ (.slice a1 n1 c1)) w.heap.size 154 (rS (.slice a1 n1 c1) pc rs mo ba (.slice ca ck cc) op oh ot st fe fp fh ft lo):=Y0
  have Y2:=X2.other (p:=⟨w.heap.size,0,none⟩) (by show w.heap.size+1+1≠w.heap.size;omega) (.slice a1 n1 c1)
  have B6:Hid (Below w.heap.size w (W5.setCell ⟨w.heap.size,0,none⟩ (.slice a1 n1 c1))):=aI (by show w.heap.size≤w.heap.size;omega) B5.out _
  have HS6:Hid (two+i≤511→Sl (W5.setCell ⟨w.heap.size,0,none⟩ (.slice a1 n1 c1)) (.slice a1 n1 c1) (zs.set (two+i).toNat one)∧Fresh (w.heap.size+1+1+1) (.slice a1 n1 c1)):=fun q=>⟨Sl.setSlice (HS1.out q).1 X0.state0.1.1 _,(HS1.out q).2⟩
  obtain⟨⟨q0,-⟩,-,s0⟩:=X0.state0
  have fx:=X0.marksAll
  obtain⟨u6,-,s6⟩:=X6.one
  go_upto_region 3 with fail
  clear q0 fx s0 u6 s6 X0 X2 X6
  generalize (W5.setCell ⟨w.heap.size,0,none⟩ (.slice a1 n1 c1))=W6 at *
  go_wp2_with (first
   | (refine wpList_load_row rfl 154 (.tmp 2) rfl w.heap.size rfl _ _ _ _ Y0 Tryz.underlying154 rfl infoState ?_)
   | (refine wpList_store_row rfl 154 (.tmp 4) (.tmp 29) rfl (w.heap.size+1+1) _ rfl rfl _ _ Y2 infoState rfl (stateOne _ _ _ _ _ _ _ _ _ _ _ _ _ _ _ _ _ _ _ _ _ _ _ _ _ _) ?_))
  have hl:=Box.loadState (Y2.setRow (rS (.slice a1 n1 c1) pc rs mo ba (.slice ca ck cc) op oh ot st fe fp fh ft lo)) rfl
  refine bodyPost_ret (v:=.tuple #[.agg (rS (.slice a1 n1 c1) pc rs mo ba (.slice ca ck cc) op oh ot st fe fp fh ft lo),.bool ok]) (by simp[results,Tryz.results157,asAddr,hl]) rfl ⟨a1,n1,c1,by rw[←HOK.out,hok],fun q=>?_,?_⟩
  ·exact⟨(HS6.out q).1.otherRow ((HS6.out q).2.ne (by omega)) _,(HS6.out q).2.mono (by omega)⟩
  ·exact aG (by omega) B6.out _
 ·go_simp
  refine hK.out _ _ ?_ (fun hHeld2=>?_)
  ·exact aA hHeld _
  clear hK K hHeld
  have hHeld:=hHeld2
  clear hHeld2
  refine aE (i:=15) (by kernel_rfl) (by rfl) (fun K hK=>?_)
  go_simp
  refine (rZ _ zs (two+i) one _ (HM.out.keep (aB B0.out hHeld)) HZ.out HX.out).mono ?_
  rintro e w5 ⟨a1,n1,c1,rfl,hS1,b5⟩
  rw[HE1.out]
  have X6:=((Box.newAt (w:=W) (n:=W.heap.size) rfl 24 #[.slice none 0 0]).drew.keep b5)
  go_wp2_with fail
  refine hK.out _ _ ?_ (fun hHeld2=>?_)
  ·exact aB hHeld b5
  clear hK K hHeld
  have hHeld:=hHeld2
  clear hHeld2
  refine tkH 16 rfl ?_
  refine tkH 17 rfl ?_
  refine tkH 18 rfl ?_
  obtain⟨u6,f6,s6⟩:=X6.one
  refine aE (i:=20) (by kernel_rfl) (by rfl) (fun K hK=>?_)
  go_simp
  refine hK.out _ _ ?_ (fun hHeld2=>?_)
  ·exact cW (Nat.le_refl _) hHeld _
  clear hK K hHeld
  have hHeld:=hHeld2
  clear hHeld2
  refine tkH 21 rfl ?_
  refine wpAnyH_done (by kernel_rfl) ?_ _
  have X6:=X6.set1 (.slice a1 n1 c1)
  have HS1:Hid (two+i≤511→Sl (w5.setCell ⟨W.heap.size,0,none⟩ (.slice a1 n1 c1)) (.slice a1 n1 c1) (zs.set (two+i).toNat one)∧Fresh (w.heap.size+1+1+1) (.slice a1 n1 c1)):=fun q=>let h:=hS1 (by rw[HP.out];exact decide_eq_true q);⟨Sl.setSlice h.1 u6 _,h.2.mono (by have:=W3.out;simp;omega)⟩
  have hN6:w.heap.size+1+1<W.heap.size:=by have:=W3.out;omega
  clear hS1 b5 u6 f6 s6
  generalize (w5.setCell ⟨W.heap.size,0,none⟩ (.slice a1 n1 c1))=W5 at *
  obtain⟨N6,hWN⟩:∃N6,W.heap.size=N6:=⟨_,rfl⟩
  have HW6:=hHeld
  rw[hWN] at X6 hN6 ⊢
  clear hWN HW6
  have X0:=X0.keep hHeld
  have X2:=X2.keep hHeld
  have B5:Hid (Below w.heap.size w W5):=aB B0.out hHeld
  clear hHeld B0 X1
  have Y0:=Box.set X0 0 (.slice a1 n1 c1)
  have Y0:Box (W5.setCell ⟨w.heap.size,0,none⟩ (.slice a1 n1 c1)) w.heap.size 154 (rS (.slice a1 n1 c1) pc rs mo ba (.slice ca ck cc) op oh ot st fe fp fh ft lo):=Y0
  have Y2:=X2.other (p:=⟨w.heap.size,0,none⟩) (by show w.heap.size+1+1≠w.heap.size;omega) (.slice a1 n1 c1)
  have B6:Hid (Below w.heap.size w (W5.setCell ⟨w.heap.size,0,none⟩ (.slice a1 n1 c1))):=aI (by show w.heap.size≤w.heap.size;omega) B5.out _
  have HS6:Hid (two+i≤511→Sl (W5.setCell ⟨w.heap.size,0,none⟩ (.slice a1 n1 c1)) (.slice a1 n1 c1) (zs.set (two+i).toNat one)∧Fresh (w.heap.size+1+1+1) (.slice a1 n1 c1)):=fun q=>⟨Sl.setSlice (HS1.out q).1 X0.state0.1.1 _,(HS1.out q).2⟩
  obtain⟨⟨q0,-⟩,-,s0⟩:=X0.state0
  have fx:=X0.marksAll
  obtain⟨u6,-,s6⟩:=X6.one
  go_upto_region 3 with fail
  clear q0 fx s0 u6 s6 X0 X2 X6
  generalize (W5.setCell ⟨w.heap.size,0,none⟩ (.slice a1 n1 c1))=W6 at *
  go_wp2_with (first
   | (refine wpList_load_row rfl 154 (.tmp 2) rfl w.heap.size rfl _ _ _ _ Y0 Tryz.underlying154 rfl infoState ?_)
   | (refine wpList_store_row rfl 154 (.tmp 4) (.tmp 29) rfl (w.heap.size+1+1) _ rfl rfl _ _ Y2 infoState rfl (stateOne _ _ _ _ _ _ _ _ _ _ _ _ _ _ _ _ _ _ _ _ _ _ _ _ _ _) ?_))
  have hl:=Box.loadState (Y2.setRow (rS (.slice a1 n1 c1) pc rs mo ba (.slice ca ck cc) op oh ot st fe fp fh ft lo)) rfl
  refine bodyPost_ret (v:=.tuple #[.agg (rS (.slice a1 n1 c1) pc rs mo ba (.slice ca ck cc) op oh ot st fe fp fh ft lo),.bool ok]) (by simp[results,Tryz.results157,asAddr,hl]) rfl ⟨a1,n1,c1,by rw[←HOK.out,hok],fun q=>?_,?_⟩
  ·exact⟨(HS6.out q).1.otherRow ((HS6.out q).2.ne (by omega)) _,(HS6.out q).2.mono (by omega)⟩
  ·exact aG (by omega) B6.out _
end Go.Proofs.YthlhocneggcekaaGreat
