/-
  Laid together: Digits, EntryOf, ContextOf, WalkedR, WalkSaysWalk.
-/
import Derived.Test.YthlhocneggcekaaGreatD3
import Derived.Deep.DrawnRows
namespace Go.Proofs.YthlhocneggcekaaGreat
open Go.RowKit
def num:List Int→Int
 | []=>0
 | b::bs=>b+2*num bs
theorem num_in (zs:List Int)(h:∀i,i<zs.length→0≤nth zs i∧nth zs i≤1):0≤num zs∧num zs<2 ^ zs.length:=by
 induction zs with
 | nil=>simp[num]
 | cons b bs ih=>
  have h0:=h 0 (by simp)
  have hb:nth (b::bs) 0=b:=rfl
  rw[hb] at h0
  have:=ih fun i hi=>h (i+1) (by simp;omega)
  rw[num,List.length_cons,Int.pow_succ]
  omega
theorem aAk (zs:List Int)(k:Nat)(hk:k<zs.length):num (zs.drop k)=nth zs k+2*num (zs.drop (k+1)):=by
 rw[List.drop_eq_getElem_cons hk,num]
 simp[nth,hk]
theorem aAl (zs:List Int)(k i:Nat):nth (zs.drop k) i=nth zs (k+i):=by simp[nth]
theorem aAm {n:Nat}(h:n≤16):(2:Int) ^ n≤65536:=by
 have:(2:Int) ^ n≤2 ^ 16:=by exact_mod_cast Nat.pow_le_pow_right (by decide) h
 exact this
set_option maxHeartbeats 1000000 in
theorem mE (v:Value)(zs:List Int)(w:World)(h:Sl w v zs)(hz:∀i,i<zs.length→0≤nth zs i∧nth zs i≤1)(hl:zs.length≤16):
  Calls Tryz.prog 142 #[v] w fun e w'=>e=.returned (J (num zs))∧w'=w:=by
 obtain⟨a,cap,rfl,_,h⟩:=h
 rcases h with rfl|⟨b,o,rfl,hb,hc⟩
 ·go_enter Tryz.func142,Tryz.ntmps142
  go_wp2
  go_loop [3,4] (fun n i=>n=J 0∧i=J (-1)) (fun _ i=>0)
  case atStart=>exact⟨rfl,rfl⟩
  case round=>
   obtain⟨rfl,rfl⟩:=hrel
   go_wp2
   go_ret
   exact⟨rfl,rfl⟩
 ·have HC:Hid (∀i,i<zs.length→w.cell? ⟨b,o+i,none⟩=some (J (nth zs i))):=hc
  have HZ:Hid (∀i,i<zs.length→0≤nth zs i∧nth zs i≤1):=hz
  clear hc hz
  go_enter Tryz.func142,Tryz.ntmps142
  go_wp2
  go_loop [3,4] (fun n i=>∃k:Nat,k≤zs.length∧i=J ((k:Int)-1)∧n=J (num (zs.drop k))) (fun _ i=>(intOf i+1).toNat)
  case atStart=>exact⟨zs.length,Nat.le_refl _,rfl,by simp[num]⟩
  case round=>
   obtain⟨k,hk,rfl,rfl⟩:=hrel
   by_cases h0:k=0
   ·subst h0
    go_wp2
    go_ret
    exact⟨rfl,rfl⟩
   ·obtain⟨j,rfl⟩:∃j,k=j+1:=⟨k-1,by omega⟩
    have g:=HC.out j (by omega)
    obtain⟨g0,g1⟩:=HZ.out j (by omega)
    obtain⟨m0,m1⟩:=num_in (zs.drop (j+1)) fun i hi=>by rw[aAl];exact HZ.out _ (by simp at hi;omega)
    have m2:num (zs.drop (j+1))<65536:=Int.lt_of_lt_of_le m1 (aAm (by simp;omega))
    have HN:Hid _:=aAk zs j (by omega)
    have e1:((j+1:Nat):Int)-1=j:=by omega
    rw[e1]
    generalize num (zs.drop (j+1))=n at *
    generalize nth zs j=d at *
    clear m1 e1
    go_wp2
    refine⟨⟨j,by omega,by go_num,?_⟩,by simp[intOf]⟩
    rw[HN.out,Int.add_comm]
def dg (z:Int)(j:Nat):Int:=z/2 ^ j%2
def digits (z:Int)(k:Nat):List Int:=(List.range 16).map (fun j=>if j<k then dg z j else 0)
def digArr (z:Int)(k:Nat):Array Value:=((digits z k).map (fun d=>J d)).toArray
theorem rN (z:Int):digArr z 0=#[J 0,J 0,J 0,J 0,J 0,J 0,J 0,J 0,J 0,J 0,J 0,J 0,J 0,J 0,J 0,J 0]:=by
 simp[digArr,digits,List.range,List.range.loop]
theorem rO (z:Int):digArr z 16=#[J (dg z 0),J (dg z 1),J (dg z 2),J (dg z 3),J (dg z 4),J (dg z 5),J (dg z 6),J (dg z 7),J (dg z 8),J (dg z 9),J (dg z 10),J (dg z 11),J (dg z 12),J (dg z 13),J (dg z 14),J (dg z 15)]:=by
 simp[digArr,digits,List.range,List.range.loop]
theorem rP (z:Int)(k:Nat):(digArr z k).size=16:=by simp[digArr,digits]
theorem wO (z:Int)(k:Nat)(hk:k<16):(digArr z k)[k]?=some (J 0):=by
 simp[digArr,digits,hk]
theorem tQ (z:Int)(k:Nat):(digArr z k).setIfInBounds k (J (dg z k))=digArr z (k+1):=by
 apply Array.ext
 ·simp[digArr,digits]
 ·intro i h1 h2
  rw[Array.getElem_setIfInBounds]
  ·by_cases e:k=i
   ·subst e;simp[digArr,digits]
   ·rw[if_neg e]
    have:(i<k)=(i<k+1):=by simp;omega
    simp[digArr,digits,this]
  ·simpa [rP] using h2
set_option maxHeartbeats 2000000 in
theorem dX (z:Int)(w:World)(h0:0≤z)(h1:z≤65535):
  Calls Tryz.prog 141 #[J z] w fun e w'=>e=.returned (.agg #[J (dg z 0),J (dg z 1),J (dg z 2),J (dg z 3),J (dg z 4),J (dg z 5),J (dg z 6),J (dg z 7),J (dg z 8),J (dg z 9),J (dg z 10),J (dg z 11),J (dg z 12),J (dg z 13),J (dg z 14),J (dg z 15)])∧∃o1 o2,w'=(w.alloc o1).alloc o2:=by
 go_enter Tryz.func141,Tryz.ntmps141
 go_wp2
 go_loopw [0,5] (fun x i w'=>∃k:Nat,k≤16∧x=J (z/2 ^ k)∧i=J k∧w'=(w.alloc (.cells #[J 0,J 0,J 0,J 0,J 0,J 0,J 0,J 0,J 0,J 0,J 0,J 0,J 0,J 0,J 0,J 0] 187)).alloc (.cells (digArr z k) 187)) (fun _ i _=>16-(intOf i).toNat)
 case atStart=>exact⟨0,by omega,by simp,rfl,by rw[rN]⟩
 case round=>
  obtain⟨k,hk,rfl,rfl,rfl⟩:=hrel
  by_cases hlt:k<16
  ·obtain⟨y0,y1⟩:=sV z k h0 h1
   have hat:=wO z k hlt
   have HS:Hid _:=tQ z k
   have HD:Hid (z/2 ^ k/2=z/2 ^ (k+1)):=by
    show z/2 ^ k/2=z/2 ^ (k+1)
    rw[Int.pow_succ,Int.ediv_ediv_of_nonneg (Int.le_of_lt (Int.pow_pos (by decide)))]
   have HG:Hid (dg z k=z/2 ^ k%2):=rfl
   have hlt1:(k:Int)<16:=by omega
   generalize z/2 ^ k=y at *
   go_wp2
   refine⟨⟨k+1,by omega,?_,by go_num,?_⟩,by simp[intOf];omega⟩
   ·rw[HD.out]
   ·rw[←HS.out,HG.out]
  ·obtain rfl:k=16:=by omega
   rw[rO]
   go_wp2
   refine bodyPost_ret (v:=.agg #[J (dg z 0),J (dg z 1),J (dg z 2),J (dg z 3),J (dg z 4),J (dg z 5),J (dg z 6),J (dg z 7),J (dg z 8),J (dg z 9),J (dg z 10),J (dg z 11),J (dg z 12),J (dg z 13),J (dg z 14),J (dg z 15)]) (by simp[results,Tryz.results141,go_sem]) rfl ⟨rfl,_,_,rfl⟩
attribute [local go_sem ↓] Go.wp_at_zero Go.wp_at_succ
theorem vH {w:World}{b o n cap:Nat}{t:TypeId}{fr:Nat × Nat}{cs:Array Value}{zs:List Int}(hb:w.heap[b]?=some (.cells cs t fr))(hcs:(cs.toList.drop o).take zs.length=zs.map (fun z=>J z))(hn:n=zs.length)(hm:zs.length≤maxLen):
  Sl w (.slice (some ⟨b,o,none⟩) n cap) zs:=by
 subst hn
 refine⟨_,cap,rfl,hm,.inr ⟨b,o,rfl,?_,fun i hi=>?_⟩⟩
 ·rcases Nat.lt_or_ge b w.heap.size with h|h
  ·exact h
  ·rw[Array.getElem?_eq_none h] at hb;exact absurd hb (by simp)
 ·have h:((cs.toList.drop o).take zs.length)[i]?=(zs.map (fun z=>J z))[i]?:=by rw[hcs]
  rw[List.getElem?_take,if_pos hi,List.getElem?_drop,List.getElem?_map,List.getElem?_eq_getElem hi] at h
  rw[cell_of_row w b (o+i) cs t fr hb,←Array.getElem?_toList,h]
  simp[nth,hi]
theorem cX (z:Int)(j:Nat):0≤dg z j∧dg z j≤1:=by unfold dg;omega
theorem cI (z:Int)(j:Nat):(dg z j==1)=bitB z j:=rfl
theorem num_hi (z:Int)(h0:0≤z)(h1:z≤65535):num [dg z 10,dg z 11,dg z 12,dg z 13,dg z 14,dg z 15]=z/1024:=by
 simp only[num,dg];omega
theorem aB4 (z:Int):num [dg z 4,dg z 5,dg z 6,dg z 7,dg z 8,dg z 9]=z/16%64:=by
 simp only[num,dg];omega
theorem aAn {a b c d e f:Int}(ha:0≤a∧a≤1)(hb:0≤b∧b≤1)(hc:0≤c∧c≤1)(hd:0≤d∧d≤1)(he:0≤e∧e≤1)(hf:0≤f∧f≤1):
  ∀i,i<[a,b,c,d,e,f].length→0≤nth [a,b,c,d,e,f] i∧nth [a,b,c,d,e,f] i≤1:=by
 intro i hi
 obtain rfl|rfl|rfl|rfl|rfl|rfl:i=0∨i=1∨i=2∨i=3∨i=4∨i=5:=by simp at hi;omega
 ·exact ha
 ·exact hb
 ·exact hc
 ·exact hd
 ·exact he
 ·exact hf
theorem eM {z:Int}{w:World}{n:Nat}(h0:0≤z)(h1:z≤65535)(hb:w.heap[n]?=some (.cells #[J (dg z 0),J (dg z 1),J (dg z 2),J (dg z 3),J (dg z 4),J (dg z 5),J (dg z 6),J (dg z 7),J (dg z 8),J (dg z 9),J (dg z 10),J (dg z 11),J (dg z 12),J (dg z 13),J (dg z 14),J (dg z 15)] 187 (0,0))):
  Calls Tryz.prog 142 #[.slice (some ⟨n,10,none⟩) 6 6] w fun e w'=>e=.returned (J (z/1024))∧w'=w:=by
 rw[←num_hi z h0 h1]
 exact mE _ _ _ (vH hb rfl rfl (by simp[maxLen])) (aAn (cX _ _) (cX _ _) (cX _ _) (cX _ _) (cX _ _) (cX _ _)) (by simp)
theorem iN {z:Int}{w:World}{n:Nat}(hb:w.heap[n]?=some (.cells #[J (dg z 0),J (dg z 1),J (dg z 2),J (dg z 3),J (dg z 4),J (dg z 5),J (dg z 6),J (dg z 7),J (dg z 8),J (dg z 9),J (dg z 10),J (dg z 11),J (dg z 12),J (dg z 13),J (dg z 14),J (dg z 15)] 187 (0,0))):
  Calls Tryz.prog 142 #[.slice (some ⟨n,4,none⟩) 6 12] w fun e w'=>e=.returned (J (z/16%64))∧w'=w:=by
 rw[←aB4 z]
 exact mE _ _ _ (vH hb rfl rfl (by simp[maxLen])) (aAn (cX _ _) (cX _ _) (cX _ _) (cX _ _) (cX _ _) (cX _ _)) (by simp)
theorem aB5 {z:Int}(h:wordB z=false):okE z=false∧vE z=false∧rE z=false∧xE z=false∧lE z=false∧pE z=0:=by
 have ho:okE z=false:=by simp[okE,h]
 have hv:vE z=false:=by simp[vE,ho]
 exact⟨ho,hv,by simp[rE,hv],by simp[xE,hv],by simp[lE,hv],by simp[pE,hv]⟩
theorem aB6 {z:Int}(hw:wordB z=true)(h:dg z 0=0):okE z=true∧vE z=false∧rE z=false∧xE z=false∧lE z=false∧pE z=0:=by
 have hb:bitB z 0=false:=by rw[←cI,h];rfl
 have ho:okE z=true:=by simp[okE,hw,hb]
 have hv:vE z=false:=by simp[vE,hb]
 exact⟨ho,hv,by simp[rE,hv],by simp[xE,hv],by simp[lE,hv],by simp[pE,hv]⟩
theorem aB7 {z:Int}(hw:wordB z=true)(h:dg z 0=1)(k:0<z/1024∨dg z 1<dg z 2∨dg z 3<dg z 1):okE z=false∧vE z=false∧rE z=false∧xE z=false∧lE z=false∧pE z=0:=by
 obtain⟨h0,h1⟩:0≤z∧z≤65535:=by simpa [wordB] using hw
 have hb:bitB z 0=true:=by rw[←cI,h];rfl
 have ho:okE z=false:=by
  rw[okE,hw,hb,yG z h0 h1]
  rcases k with k|k|k
  ·rw[show decide (1024≤z)=true by simp;omega];rfl
  ·have a:=cX z 1
   have b:=cX z 2
   have c1:bitB z 1=false:=by rw[←cI,show dg z 1=0 by omega];rfl
   have c2:bitB z 2=true:=by rw[←cI,show dg z 2=1 by omega];rfl
   rw[c1,c2];simp[formE]
  ·have a:=cX z 1
   have b:=cX z 3
   have c1:bitB z 1=true:=by rw[←cI,show dg z 1=1 by omega];rfl
   have c2:bitB z 3=false:=by rw[←cI,show dg z 3=0 by omega];rfl
   rw[c1,c2];simp[formE]
 have hv:vE z=false:=by simp[vE,ho]
 exact⟨ho,hv,by simp[rE,hv],by simp[xE,hv],by simp[lE,hv],by simp[pE,hv]⟩
theorem aAo {z:Int}(hw:wordB z=true)(h:dg z 0=1)(k1:¬0<z/1024)(k2:¬dg z 1<dg z 2)(k3:¬dg z 3<dg z 1):okE z=true∧vE z=true∧rE z=(dg z 1==1)∧xE z=(dg z 2==1)∧lE z=(dg z 3==1)∧pE z=z/16%64:=by
 obtain⟨h0,h1⟩:0≤z∧z≤65535:=by simpa [wordB] using hw
 have hb:bitB z 0=true:=by rw[←cI,h];rfl
 have ho:okE z=true:=by
  rw[okE,hw,hb,yG z h0 h1,show decide (1024≤z)=false by simp;omega,←cI,←cI,←cI]
  obtain⟨a1,a2⟩:=cX z 1
  obtain⟨b1,b2⟩:=cX z 2
  obtain⟨c1,c2⟩:=cX z 3
  have x1:dg z 1=0∨dg z 1=1:=by omega
  have x2:dg z 2=0∨dg z 2=1:=by omega
  have x3:dg z 3=0∨dg z 3=1:=by omega
  rcases x1 with x1|x1 <;> rcases x2 with x2|x2 <;> rcases x3 with x3|x3 <;> rw[x1,x2] at k2 <;> rw[x1,x3] at k3 <;> rw[x1,x2,x3] <;> simp[formE] at *
 have hv:vE z=true:=by simp[vE,ho,hb]
 exact⟨ho,hv,by simp[rE,hv,cI],by simp[xE,hv,cI],by simp[lE,hv,cI],by simp[pE,hv]⟩
theorem keepD {w w':World}{n:Nat}{z:Int}(h:w'.heap[n]?=some (.cells #[J (dg z 0),J (dg z 1),J (dg z 2),J (dg z 3),J (dg z 4),J (dg z 5),J (dg z 6),J (dg z 7),J (dg z 8),J (dg z 9),J (dg z 10),J (dg z 11),J (dg z 12),J (dg z 13),J (dg z 14),J (dg z 15)] 187 (0,0)))(hb:Below w.heap.size w w'):
  w'.cell? ⟨n,1,none⟩=some (J (dg z 1))∧w'.cell? ⟨n,2,none⟩=some (J (dg z 2))∧w'.cell? ⟨n,3,none⟩=some (J (dg z 3))∧w'.heap[n]?=some (.cells #[J (dg z 0),J (dg z 1),J (dg z 2),J (dg z 3),J (dg z 4),J (dg z 5),J (dg z 6),J (dg z 7),J (dg z 8),J (dg z 9),J (dg z 10),J (dg z 11),J (dg z 12),J (dg z 13),J (dg z 14),J (dg z 15)] 187 (0,0))∧Below w.heap.size w w':=
 ⟨cell_of_row _ _ _ _ _ _ h,cell_of_row _ _ _ _ _ _ h,cell_of_row _ _ _ _ _ _ h,h,hb⟩
set_option maxHeartbeats 4000000 in
theorem kN (z:Int)(w:World):
  Calls Tryz.prog 143 #[J z] w fun e w'=>e=.returned (.tuple #[.agg #[.bool (vE z),.bool (rE z),.bool (xE z),.bool (lE z),J (pE z)],.bool (okE z)])∧Below w.heap.size w w':=by
 cases hw:wordB z
 ·obtain⟨e1,e2,e3,e4,e5,e6⟩:=aB5 hw
  rw[e1,e2,e3,e4,e5,e6]
  clear e1 e2 e3 e4 e5 e6
  go_enter Tryz.func143,Tryz.ntmps143
  go_wp2_with fail
  refine (aD _ _ _ _).mono ?_
  rintro e w1 ⟨rfl,rfl⟩
  rw[bI,hw]
  go_wp2
  refine bodyPost_ret (v:=.tuple #[.agg #[.bool false,.bool false,.bool false,.bool false,J 0],.bool false]) (by simp[results,Tryz.results143,go_sem]) rfl ⟨rfl,?_⟩
  exact aA (Below.refl _ _) _
 obtain⟨h0,h1⟩:0≤z∧z≤65535:=by simpa [wordB] using hw
 by_cases hb:dg z 0=0
 ·obtain⟨e1,e2,e3,e4,e5,e6⟩:=aB6 hw hb
  rw[e1,e2,e3,e4,e5,e6]
  clear e1 e2 e3 e4 e5 e6
  go_enter Tryz.func143,Tryz.ntmps143
  go_wp2_with fail
  refine (aD _ _ _ _).mono ?_
  rintro e w1 ⟨rfl,rfl⟩
  rw[bI,hw]
  go_wp2_with fail
  refine (dX _ _ h0 h1).mono ?_
  rintro e w2 ⟨rfl,o1,o2,rfl⟩
  rw[hb]
  go_wp2
  refine bodyPost_ret (v:=.tuple #[.agg #[.bool false,.bool false,.bool false,.bool false,J 0],.bool true]) (by simp[results,Tryz.results143,go_sem]) rfl ⟨rfl,?_⟩
  repeat (first|exact Below.refl _ _|refine aA ?_ _)
 have hb1:dg z 0=1:=by have:=cX z 0;omega
 have hn0:(dg z 0==0)=false:=by simpa using hb
 by_cases hk:0<z/1024∨dg z 1<dg z 2∨dg z 3<dg z 1
 ·obtain⟨e1,e2,e3,e4,e5,e6⟩:=aB7 hw hb1 hk
  rw[e1,e2,e3,e4,e5,e6]
  clear e1 e2 e3 e4 e5 e6 hb1 hb
  go_enter Tryz.func143,Tryz.ntmps143
  go_wp2_with fail
  refine (aD _ _ _ _).mono ?_
  rintro e w1 ⟨rfl,rfl⟩
  rw[bI,hw]
  go_wp2_with fail
  refine (dX _ _ h0 h1).mono ?_
  rintro e w2 ⟨rfl,o1,o2,rfl⟩
  go_wp2_with fail
  refine (eM h0 h1 (aY (by simp))).mono ?_
  rintro e w2 ⟨rfl,rfl⟩
  by_cases k1:0<z/1024
  ·clear hk
   go_wp2
   refine bodyPost_ret (v:=.tuple #[.agg #[.bool false,.bool false,.bool false,.bool false,J 0],.bool false]) (by simp[results,Tryz.results143,go_sem]) rfl ⟨rfl,?_⟩
   repeat (first|exact Below.refl _ _|refine aA ?_ _)
  by_cases k2:dg z 1<dg z 2
  ·clear hk
   go_wp2
   refine bodyPost_ret (v:=.tuple #[.agg #[.bool false,.bool false,.bool false,.bool false,J 0],.bool false]) (by simp[results,Tryz.results143,go_sem]) rfl ⟨rfl,?_⟩
   repeat (first|exact Below.refl _ _|refine aA ?_ _)
  have k3:dg z 3<dg z 1:=by
   rcases hk with h|h|h
   ·exact absurd h k1
   ·exact absurd h k2
   ·exact h
  clear hk
  go_wp2
  refine bodyPost_ret (v:=.tuple #[.agg #[.bool false,.bool false,.bool false,.bool false,J 0],.bool false]) (by simp[results,Tryz.results143,go_sem]) rfl ⟨rfl,?_⟩
  repeat (first|exact Below.refl _ _|refine aA ?_ _)
 have k1:¬0<z/1024:=fun h=>hk (.inl h)
 have k2:¬dg z 1<dg z 2:=fun h=>hk (.inr (.inl h))
 have k3:¬dg z 3<dg z 1:=fun h=>hk (.inr (.inr h))
 obtain⟨e1,e2,e3,e4,e5,e6⟩:=aAo hw hb1 k1 k2 k3
 rw[e1,e2,e3,e4,e5,e6]
 clear e1 e2 e3 e4 e5 e6 hb1 hb hk
 go_enter Tryz.func143,Tryz.ntmps143
 go_wp2_with fail
 refine (aD _ _ _ _).mono ?_
 rintro e w1 ⟨rfl,rfl⟩
 rw[bI,hw]
 go_wp2_with fail
 refine (dX _ _ h0 h1).mono ?_
 rintro e w2 ⟨rfl,o1,o2,rfl⟩
 go_wp2_with fail
 refine (eM h0 h1 (aY (by simp))).mono ?_
 rintro e w2 ⟨rfl,rfl⟩
 go_wp2
 go_region_held3 (fun w'=>w'.cell? ⟨w.heap.size+1+1+1,1,none⟩=some (J (dg z 1))∧w'.cell? ⟨w.heap.size+1+1+1,2,none⟩=some (J (dg z 2))∧w'.cell? ⟨w.heap.size+1+1+1,3,none⟩=some (J (dg z 3))∧w'.heap[w.heap.size+1+1+1]?=some (.cells #[J (dg z 0),J (dg z 1),J (dg z 2),J (dg z 3),J (dg z 4),J (dg z 5),J (dg z 6),J (dg z 7),J (dg z 8),J (dg z 9),J (dg z 10),J (dg z 11),J (dg z 12),J (dg z 13),J (dg z 14),J (dg z 15)] 187 (0,0))∧Below w.heap.size w w')
  ((refine keepD ?_ ?_;(focus (first|assumption|exact aY (by simp)|exact dD (aY (by simp))));(repeat (first|assumption|exact Below.refl _ _|refine Below.drew ?_|refine aH ?_ _|refine aA ?_ _|refine aB ?_ (by assumption)))))
  (first|(go_at_call 142;refine (iN (by first|assumption|exact aY (by simp)|exact dD (aY (by simp)))).mono ?_;rintro e w5 ⟨rfl,rfl⟩))
 rename_i hH
 have hB:=hH.2.2.2.2
 clear hH
 go_wp2
 refine bodyPost_ret (v:=.tuple #[.agg #[.bool true,.bool (dg z 1==1),.bool (dg z 2==1),.bool (dg z 3==1),J (z/16%64)],.bool true]) (by simp[results,Tryz.results143,go_sem]) rfl ⟨rfl,?_⟩
 repeat (first|assumption|exact Below.refl _ _|refine Below.drew ?_|refine aH ?_ _|refine aA ?_ _)
theorem nD (w:World)(n:Nat)(p:Addr)(u:Value):(w.drewN n).setCell p u=(w.setCell p u).drewN n:=rfl
attribute [local go_sem] nD
theorem aB8 {z:Int}(h:wordB z=false):okC z=false∧vC z=false∧aC z=false∧pC z=0:=by
 have ho:okC z=false:=by simp[okC,h]
 have hv:vC z=false:=by simp[vC,ho]
 exact⟨ho,hv,by simp[aC,hv],by simp[pC,hv]⟩
theorem aB9 {z:Int}(hw:wordB z=true)(h:dg z 0=0):okC z=true∧vC z=false∧aC z=false∧pC z=0:=by
 have hb:bitB z 0=false:=by rw[←cI,h];rfl
 have ho:okC z=true:=by simp[okC,hw,hb]
 have hv:vC z=false:=by simp[vC,hb]
 exact⟨ho,hv,by simp[aC,hv],by simp[pC,hv]⟩
theorem aCa {z:Int}(hw:wordB z=true)(h:dg z 0=1)(k:0<dg z 2+dg z 3+z/1024∨(dg z 1=1∧0<z/16%64)):okC z=false∧vC z=false∧aC z=false∧pC z=0:=by
 obtain⟨h0,h1⟩:0≤z∧z≤65535:=by simpa [wordB] using hw
 have hb:bitB z 0=true:=by rw[←cI,h];rfl
 have ho:okC z=false:=by
  rw[okC,hw,hb,qB z h0 h1]
  rcases k with k|⟨k,k'⟩
  ·have a:=cX z 2
   have b:=cX z 3
   by_cases hz:1024≤z
   ·rw[show decide (1024≤z)=true by simpa using hz];simp
   ·by_cases h2:dg z 2=1
    ·rw[←cI z 2,h2];simp
    ·rw[←cI z 3,show dg z 3=1 by omega];simp
  ·rw[←cI z 1,k]
   have:¬z/16%64=0:=by omega
   simp[formC,this]
 have hv:vC z=false:=by simp[vC,ho]
 exact⟨ho,hv,by simp[aC,hv],by simp[pC,hv]⟩
theorem aAp {z:Int}(hw:wordB z=true)(h:dg z 0=1)(k1:¬0<dg z 2+dg z 3+z/1024)(k2:¬(dg z 1=1∧0<z/16%64)):okC z=true∧vC z=true∧aC z=(dg z 1==1)∧pC z=z/16%64:=by
 obtain⟨h0,h1⟩:0≤z∧z≤65535:=by simpa [wordB] using hw
 have hb:bitB z 0=true:=by rw[←cI,h];rfl
 have a:=cX z 2
 have b:=cX z 3
 have ho:okC z=true:=by
  rw[okC,hw,hb,qB z h0 h1,show decide (1024≤z)=false by simp;omega,←cI z 2,←cI z 3,←cI z 1,show dg z 2=0 by omega,show dg z 3=0 by omega]
  by_cases h3:dg z 1=1
  ·have h4:z/16%64=0:=by omega
   rw[h3,h4];rfl
  ·have h4:(dg z 1==1)=false:=by simpa using h3
   rw[h4];rfl
 have hv:vC z=true:=by simp[vC,ho,hb]
 exact⟨ho,hv,by simp[aC,hv,cI],by simp[pC,hv]⟩
theorem mF {a b c:Int}(a0:0≤a)(a1:a≤1)(b0:0≤b)(b1:b≤1)(c0:0≤c)(c1:c≤63):IntKind.i64.wrap (IntKind.i64.wrap (a+b)+c)=a+b+c:=by
 rw[cF (a+b) (by omega) (by omega),cF _ (by omega) (by omega)]
set_option maxHeartbeats 4000000 in
theorem nE (z:Int)(w:World):
  Calls Tryz.prog 115 #[J z] w fun e w'=>e=.returned (.tuple #[.agg #[.bool (vC z),.bool (aC z),J (pC z)],.bool (okC z)])∧Below w.heap.size w w':=by
 cases hw:wordB z
 ·obtain⟨e1,e2,e3,e4⟩:=aB8 hw
  rw[e1,e2,e3,e4]
  clear e1 e2 e3 e4
  go_enter Tryz.func115,Tryz.ntmps115
  go_wp2_with fail
  refine (aD _ _ _ _).mono ?_
  rintro e w1 ⟨rfl,rfl⟩
  rw[bI,hw]
  go_wp2
  refine bodyPost_ret (v:=.tuple #[.agg #[.bool false,.bool false,J 0],.bool false]) (by simp[results,Tryz.results115,go_sem]) rfl ⟨rfl,?_⟩
  exact aA (Below.refl _ _) _
 obtain⟨h0,h1⟩:0≤z∧z≤65535:=by simpa [wordB] using hw
 by_cases hb:dg z 0=0
 ·obtain⟨e1,e2,e3,e4⟩:=aB9 hw hb
  rw[e1,e2,e3,e4]
  clear e1 e2 e3 e4
  go_enter Tryz.func115,Tryz.ntmps115
  go_wp2_with fail
  refine (aD _ _ _ _).mono ?_
  rintro e w1 ⟨rfl,rfl⟩
  rw[bI,hw]
  go_wp2_with fail
  refine (dX _ _ h0 h1).mono ?_
  rintro e w2 ⟨rfl,o1,o2,rfl⟩
  rw[hb]
  go_wp2
  refine bodyPost_ret (v:=.tuple #[.agg #[.bool false,.bool false,J 0],.bool true]) (by simp[results,Tryz.results115,go_sem]) rfl ⟨rfl,?_⟩
  repeat (first|exact Below.refl _ _|refine aA ?_ _)
 have hb1:dg z 0=1:=by have:=cX z 0;omega
 have hn0:(dg z 0==0)=false:=by simpa using hb
 obtain⟨a2,a2'⟩:=cX z 2
 obtain⟨a3,a3'⟩:=cX z 3
 have ht:z/1024≤63:=by omega
 have ht':0≤z/1024:=by omega
 by_cases hk:0<dg z 2+dg z 3+z/1024∨(dg z 1=1∧0<z/16%64)
 ·obtain⟨e1,e2,e3,e4⟩:=aCa hw hb1 hk
  rw[e1,e2,e3,e4]
  clear e1 e2 e3 e4 hb1 hb
  go_enter Tryz.func115,Tryz.ntmps115
  go_wp2_with fail
  refine (aD _ _ _ _).mono ?_
  rintro e w1 ⟨rfl,rfl⟩
  rw[bI,hw]
  go_wp2_with fail
  refine (dX _ _ h0 h1).mono ?_
  rintro e w2 ⟨rfl,o1,o2,rfl⟩
  go_wp2_with fail
  refine (iN (aY (by simp))).mono ?_
  rintro e w2 ⟨rfl,rfl⟩
  by_cases k1:0<dg z 2+dg z 3+z/1024
  ·have d1:decide (0<IntKind.i64.wrap (IntKind.i64.wrap (dg z 2+dg z 3)+z/1024))=true:=by rw[mF a2 a2' a3 a3' ht' ht];simpa using k1
   clear hk
   go_wp2
   go_quiet (first|(go_at_call 142;refine Calls.quiet_of_same (eM h0 h1 (by first|assumption|exact aY (by simp)|exact dD (aY (by simp))))))
   go_wp2
   refine bodyPost_ret (v:=.tuple #[.agg #[.bool false,.bool false,J 0],.bool false]) (by simp[results,Tryz.results115,go_sem]) rfl ⟨rfl,?_⟩
   repeat (first|assumption|exact Below.refl _ _|refine Below.drew ?_|refine aH ?_ _|refine aA ?_ _)
  ·obtain⟨k2,k3⟩:dg z 1=1∧0<z/16%64:=by
    rcases hk with h|h
    ·exact absurd h k1
    ·exact h
   have d1:decide (0<IntKind.i64.wrap (IntKind.i64.wrap (dg z 2+dg z 3)+z/1024))=false:=by rw[mF a2 a2' a3 a3' ht' ht];simpa using k1
   have d2:(dg z 1==1)=true:=by simpa using k2
   have d3:decide (0<z/16%64)=true:=by simpa using k3
   clear hk k2
   go_wp2
   go_quiet (first|(go_at_call 142;refine Calls.quiet_of_same (eM h0 h1 (by first|assumption|exact aY (by simp)|exact dD (aY (by simp))))))
   go_wp2
   refine bodyPost_ret (v:=.tuple #[.agg #[.bool false,.bool false,J 0],.bool false]) (by simp[results,Tryz.results115,go_sem]) rfl ⟨rfl,?_⟩
   repeat (first|assumption|exact Below.refl _ _|refine Below.drew ?_|refine aH ?_ _|refine aA ?_ _)
 ·have k1:¬0<dg z 2+dg z 3+z/1024:=fun h=>hk (.inl h)
  have k2:¬(dg z 1=1∧0<z/16%64):=fun h=>hk (.inr h)
  obtain⟨e1,e2,e3,e4⟩:=aAp hw hb1 k1 k2
  rw[e1,e2,e3,e4]
  clear e1 e2 e3 e4 hb1 hb hk
  have d1:decide (0<IntKind.i64.wrap (IntKind.i64.wrap (dg z 2+dg z 3)+z/1024))=false:=by rw[mF a2 a2' a3 a3' ht' ht];simpa using k1
  clear k1
  go_enter Tryz.func115,Tryz.ntmps115
  go_wp2_with fail
  refine (aD _ _ _ _).mono ?_
  rintro e w1 ⟨rfl,rfl⟩
  rw[bI,hw]
  go_wp2_with fail
  refine (dX _ _ h0 h1).mono ?_
  rintro e w2 ⟨rfl,o1,o2,rfl⟩
  go_wp2_with fail
  refine (iN (aY (by simp))).mono ?_
  rintro e w2 ⟨rfl,rfl⟩
  by_cases h3:dg z 1=1
  ·have h4:¬0<z/16%64:=fun h=>k2 ⟨h3,h⟩
   have d2:(dg z 1==1)=true:=by simpa using h3
   have d3:decide (0<z/16%64)=false:=by simpa using h4
   clear h3 h4 k2
   go_wp2
   go_quiet (first|(go_at_call 142;refine Calls.quiet_of_same (eM h0 h1 (by first|assumption|exact aY (by simp)|exact dD (aY (by simp))))))
   go_wp2
   refine bodyPost_ret (v:=.tuple #[.agg #[.bool true,.bool (dg z 1==1),J (z/16%64)],.bool true]) (by simp[results,Tryz.results115,go_sem,d2]) rfl ⟨by rw[d2],?_⟩
   repeat (first|assumption|exact Below.refl _ _|refine Below.drew ?_|refine aH ?_ _|refine aA ?_ _)
  ·have d2:(dg z 1==1)=false:=by simpa using h3
   clear h3 k2
   go_wp2
   go_quiet (first|(go_at_call 142;refine Calls.quiet_of_same (eM h0 h1 (by first|assumption|exact aY (by simp)|exact dD (aY (by simp))))))
   go_wp2
   refine bodyPost_ret (v:=.tuple #[.agg #[.bool true,.bool (dg z 1==1),J (z/16%64)],.bool true]) (by simp[results,Tryz.results115,go_sem,d2]) rfl ⟨by rw[d2],?_⟩
   repeat (first|assumption|exact Below.refl _ _|refine Below.drew ?_|refine aH ?_ _|refine aA ?_ _)
theorem eW (z:Int):betweenB 0 63 z=pageB z:=by
 rw[betweenB,pageB,Bool.eq_iff_iff];simp;omega
theorem vI {z:Int}(h:okE z=false):¬fltR z=0∧fltR z=4:=by simp[fltR,h]
theorem aAq {z:Int}(h:okE z=true)(k:vE z=false):¬fltR z=0∧fltR z=3:=by simp[fltR,h,k]
theorem aAr {z:Int}(h:okE z=true)(k:vE z=true):fltR z=0:=by simp[fltR,h,k]
theorem not_true {b:Bool}(h:b=false):¬b=true:=by rw[h];decide
theorem oC {zs:List Int}{root page:Int}{wr b r x l:Bool}{p:Int}(hk:chk zs=0)(hd:pageB root=true∧pageB page=true)(hf:fnd zs root page=((b,r,x,l,p),0)):
  wkd zs root page wr=if (r&&(x || !wr))=true then ((b,r,x,l,p),0,0) else ((false,false,false,false,0),5,0):=by
 rw[wkd,if_pos hk,if_pos hd,wkF,hf,if_pos rfl]
 split <;> rfl
theorem eN {zs:List Int}{root page:Int}{wr:Bool}{f:Int}(hk:chk zs=0)(hd:pageB root=true∧pageB page=true)(hf:fnd zs root page=(E0,f))(h0:¬f=0):
  wkd zs root page wr=((false,false,false,false,0),f,0):=by
 rw[wkd,if_pos hk,if_pos hd,wkF,hf,if_neg h0];rfl
set_option maxHeartbeats 4000000 in
theorem rQ (v:Value)(zs:List Int)(root page:Int)(wr:Bool)(w:World)(h:Sl w v zs)(hk:chk zs=0):
  Calls Tryz.prog 116 #[.agg #[v],J root,J page,.bool wr] w fun e w'=>(∃b r x l p f c,e=.returned (.tuple #[.agg #[.bool b,.bool r,.bool x,.bool l,J p],J f,J c])∧wkd zs root page wr=((b,r,x,l,p),f,c))∧Below w.heap.size w w':=by
 have HK:Hid (chk zs=0):=hk
 have hn:=(bF hk).1
 obtain⟨b,o,cap,rfl,hb,hc⟩:=h.open512 hn
 have HC:Hid (∀i,i<512→w.cell? ⟨b,o+i,none⟩=some (J (nth zs i))):=hc
 clear hn hk hc h
 cases hr:pageB root
 ·have hd:¬(pageB root=true∧pageB page=true):=by rw[hr];simp
  have HD:Hid _:=hd
  clear hd
  go_enter Tryz.func116,Tryz.ntmps116
  go_wp2_with fail
  refine (aD _ _ _ _).mono ?_
  rintro e w2 ⟨rfl,rfl⟩
  rw[eW,hr]
  go_wp2
  refine bodyPost_ret (v:=.tuple #[.agg #[.bool false,.bool false,.bool false,.bool false,J 0],J 0,J 4]) (by simp[results,Tryz.results116,go_sem, *]) rfl ⟨⟨_,_,_,_,_,_,_,rfl,by rw[wkd,if_pos HK.out,if_neg HD.out];rfl⟩,?_⟩
  exact aA (aA (aA (Below.refl _ _) _) _) _
 cases hp:pageB page
 ·have hd:¬(pageB root=true∧pageB page=true):=by rw[hp];simp
  have HD:Hid _:=hd
  clear hd
  go_enter Tryz.func116,Tryz.ntmps116
  go_wp2_with fail
  refine (aD _ _ _ _).mono ?_
  rintro e w2 ⟨rfl,rfl⟩
  rw[eW,hr]
  go_wp2_with fail
  refine (aD _ _ _ _).mono ?_
  rintro e w2 ⟨rfl,rfl⟩
  rw[eW,hp]
  go_wp2
  refine bodyPost_ret (v:=.tuple #[.agg #[.bool false,.bool false,.bool false,.bool false,J 0],J 0,J 4]) (by simp[results,Tryz.results116,go_sem, *]) rfl ⟨⟨_,_,_,_,_,_,_,rfl,by rw[wkd,if_pos HK.out,if_neg HD.out];rfl⟩,?_⟩
  exact aA (aA (aA (Below.refl _ _) _) _) _
 have hd:pageB root=true∧pageB page=true:=⟨hr,hp⟩
 have HD:Hid _:=hd
 clear hd
 obtain⟨r0,r1⟩:0≤root∧root<64:=by simpa [pageB] using hr
 obtain⟨g0,g1⟩:0≤page∧page<64:=by simpa [pageB] using hp
 have g:w.cell? ⟨b,o+(8*root+page/8).toNat,none⟩=some (J (one zs root page)):=HC.out _ (by omega)
 have y1:b<w.heap.size+1:=by omega
 have y2:b<w.heap.size+1+1:=by omega
 go_enter Tryz.func116,Tryz.ntmps116
 go_wp2_with fail
 refine (aD _ _ _ _).mono ?_
 rintro e w2 ⟨rfl,rfl⟩
 rw[eW,hr]
 go_wp2_with fail
 refine (aD _ _ _ _).mono ?_
 rintro e w2 ⟨rfl,rfl⟩
 rw[eW,hp]
 clear hr hp
 go_wp2_with fail
 refine (kN _ _).mono ?_
 rintro e w1 ⟨rfl,b1⟩
 have B1:Hid _:=b1
 have BB:Hid (Below w.heap.size w w1):=aB (aA (aA (aA (Below.refl _ _) _) _) _) b1
 obtain⟨c1,f1⟩:=bcell b1
 have s1:w.heap.size+1+1<w1.heap.size:=by have:=b1.size;simp at this;omega
 have s0:w.heap.size+1<w1.heap.size:=by omega
 clear b1 g
 cases ho:okE (one zs root page)
 ·obtain⟨x1,x2⟩:=vI ho
  have HF:Hid (fnd zs root page=(E0,4)):=by show _=_;rw[fnd,if_neg x1,x2]
  clear x1 x2 ho
  go_wp2
  refine bodyPost_ret (v:=.tuple #[.agg #[.bool false,.bool false,.bool false,.bool false,J 0],J 4,J 0]) (by simp[results,Tryz.results116,go_sem, *]) rfl ⟨⟨_,_,_,_,_,_,_,rfl,eN HK.out HD.out HF.out (by decide)⟩,?_⟩
  exact aA (aV (by omega) BB.out _ _ _ _ _) _
 cases hv:vE (one zs root page)
 ·obtain⟨x1,x2⟩:=aAq ho hv
  have HF:Hid (fnd zs root page=(E0,3)):=by show _=_;rw[fnd,if_neg x1,x2]
  clear x1 x2 ho hv
  go_wp2
  refine bodyPost_ret (v:=.tuple #[.agg #[.bool false,.bool false,.bool false,.bool false,J 0],J 3,J 0]) (by simp[results,Tryz.results116,go_sem, *]) rfl ⟨⟨_,_,_,_,_,_,_,rfl,eN HK.out HD.out HF.out (by decide)⟩,?_⟩
  exact aA (aV (by omega) BB.out _ _ _ _ _) _
 have X1:Hid (fltR (one zs root page)=0):=aAr ho hv
 have HV:Hid (vE (one zs root page)=true):=hv
 obtain⟨p0,p1⟩:=nQ (one zs root page)
 clear ho hv
 cases hl:lE (one zs root page)
 rotate_left
 ·by_cases h8:pE (one zs root page)%8=0
  rotate_left
  ·have HF:Hid (fnd zs root page=(E0,4)):=by show _=_;rw[fnd,if_pos X1.out,if_pos hl,if_neg h8]
   clear hl
   go_wp2
   refine bodyPost_ret (v:=.tuple #[.agg #[.bool false,.bool false,.bool false,.bool false,J 0],J 4,J 0]) (by simp[results,Tryz.results116,go_sem, *]) rfl ⟨⟨_,_,_,_,_,_,_,rfl,eN HK.out HD.out HF.out (by decide)⟩,?_⟩
   exact aA (aV (by omega) BB.out _ _ _ _ _) _
  have HF:Hid (fnd zs root page=((true,rE (one zs root page),xE (one zs root page),true,pE (one zs root page)+page%8),0)):=by show _=_;rw[fnd,if_pos X1.out,if_pos hl,if_pos h8,HV.out,hl]
  clear hl
  generalize rE (one zs root page)=r at *
  generalize xE (one zs root page)=x at *
  have HW:Hid _:=@oC zs root page wr _ _ _ _ _ HK.out HD.out HF.out
  cases r
  ·go_wp2
   refine bodyPost_ret (v:=.tuple #[.agg #[.bool false,.bool false,.bool false,.bool false,J 0],J 5,J 0]) (by simp[results,Tryz.results116,go_sem, *]) rfl ⟨⟨_,_,_,_,_,_,_,rfl,HW.out⟩,?_⟩
   exact aA (aV (by omega) BB.out _ _ _ _ _) _
  cases wr
  ·have HW':Hid _:=HW.out.trans (if_pos (by cases x <;> rfl))
   clear HW
   go_wp2
   refine bodyPost_ret (v:=.tuple #[.agg #[.bool true,.bool true,.bool x,.bool true,J (pE (one zs root page)+page%8)],J 0,J 0]) (by simp[results,Tryz.results116,go_sem, *]) rfl ⟨⟨_,_,_,_,_,_,_,rfl,HW'.out⟩,?_⟩
   exact aA (aV (by omega) BB.out _ _ _ _ _) _
  cases x
  ·go_wp2
   refine bodyPost_ret (v:=.tuple #[.agg #[.bool false,.bool false,.bool false,.bool false,J 0],J 5,J 0]) (by simp[results,Tryz.results116,go_sem, *]) rfl ⟨⟨_,_,_,_,_,_,_,rfl,HW.out⟩,?_⟩
   exact aA (aV (by omega) BB.out _ _ _ _ _) _
  ·go_wp2
   refine bodyPost_ret (v:=.tuple #[.agg #[.bool true,.bool true,.bool true,.bool true,J (pE (one zs root page)+page%8)],J 0,J 0]) (by simp[results,Tryz.results116,go_sem, *]) rfl ⟨⟨_,_,_,_,_,_,_,rfl,HW.out⟩,?_⟩
   exact aA (aV (by omega) BB.out _ _ _ _ _) _
 have HL:Hid (¬lE (one zs root page)=true):=not_true hl
 clear hl
 have e2:w.cell? ⟨b,o+(8*pE (one zs root page)+page%8).toNat,none⟩=some (J (two zs root page)):=HC.out _ (by omega)
 have g2:w1.cell? ⟨b,o+(8*pE (one zs root page)+page%8).toNat,none⟩=some (J (two zs root page)):=by rw[BB.out.cell (p:=⟨b,_,none⟩) hb];exact e2
 have hb1:b<w1.heap.size:=by omega
 have s00:w.heap.size<w1.heap.size:=by omega
 have z3:w.heap.size<w.heap.size+1+1+1:=by omega
 have z4:w.heap.size+1<w.heap.size+1+1+1:=by omega
 have z5:b<w.heap.size+1+1+1:=by omega
 go_wp2_with fail
 refine (kN _ _).mono ?_
 rintro e w2 ⟨rfl,b2⟩
 have B2:Hid _:=aB (aA B1.out _) b2
 have BB2:Hid (Below w.heap.size w w2):=aB (aA BB.out _) b2
 have K2:=(Blk.new w1 _ _ _).keep b2
 obtain⟨d0,d1,d2,d3,d4⟩:=K2.five
 have L2:=K2.lt
 have fz:∀i,w2.frozen? ⟨w1.heap.size,i,none⟩=false:=fun i=>by rw[(bcell b2).2 _ _ (by simp)];simp[go_sem]
 have s2:w.heap.size+1+1<w2.heap.size:=by omega
 have s20:w.heap.size+1<w2.heap.size:=by omega
 have n1:¬w1.heap.size=w.heap.size+1:=by omega
 have n2:¬w1.heap.size=w.heap.size+1+1:=by omega
 have BS:Hid (∀u0 u1 u2 u3 u4,Below w.heap.size w (((((w2.setCell ⟨w1.heap.size,0,none⟩ u0).setCell ⟨w1.heap.size,1,none⟩ u1).setCell ⟨w1.heap.size,2,none⟩ u2).setCell ⟨w1.heap.size,3,none⟩ u3).setCell ⟨w1.heap.size,4,none⟩ u4)):=fun u0 u1 u2 u3 u4=>aV (by omega) BB2.out _ _ _ _ _
 clear c1 f1 K2 b2 B1 BB g2 s0 s1 hb1 s00
 obtain⟨c1,f1⟩:=bcell B2.out
 cases ho:okE (two zs root page)
 ·obtain⟨x1,x2⟩:=vI ho
  have HF:Hid (fnd zs root page=(E0,4)):=by show _=_;rw[fnd,if_pos X1.out,if_neg HL.out,if_neg x1,x2]
  clear x1 x2 ho
  go_wp2
  refine bodyPost_ret (v:=.tuple #[.agg #[.bool false,.bool false,.bool false,.bool false,J 0],J 4,J 0]) (by simp[results,Tryz.results116,go_sem, *]) rfl ⟨⟨_,_,_,_,_,_,_,rfl,eN HK.out HD.out HF.out (by decide)⟩,?_⟩
  exact aV (by omega) (BS.out _ _ _ _ _) _ _ _ _ _
 cases hv:vE (two zs root page)
 ·obtain⟨x1,x2⟩:=aAq ho hv
  have HF:Hid (fnd zs root page=(E0,3)):=by show _=_;rw[fnd,if_pos X1.out,if_neg HL.out,if_neg x1,x2]
  clear x1 x2 ho hv
  go_wp2
  refine bodyPost_ret (v:=.tuple #[.agg #[.bool false,.bool false,.bool false,.bool false,J 0],J 3,J 0]) (by simp[results,Tryz.results116,go_sem, *]) rfl ⟨⟨_,_,_,_,_,_,_,rfl,eN HK.out HD.out HF.out (by decide)⟩,?_⟩
  exact aV (by omega) (BS.out _ _ _ _ _) _ _ _ _ _
 have X2:Hid (fltR (two zs root page)=0):=aAr ho hv
 have HV2:Hid (vE (two zs root page)=true):=hv
 clear ho hv
 cases hl:lE (two zs root page)
 ·have x1:=not_true hl
  have HF:Hid (fnd zs root page=(E0,4)):=by show _=_;rw[fnd,if_pos X1.out,if_neg HL.out,if_pos X2.out,if_neg x1]
  clear x1 hl
  go_wp2
  refine bodyPost_ret (v:=.tuple #[.agg #[.bool false,.bool false,.bool false,.bool false,J 0],J 4,J 0]) (by simp[results,Tryz.results116,go_sem, *]) rfl ⟨⟨_,_,_,_,_,_,_,rfl,eN HK.out HD.out HF.out (by decide)⟩,?_⟩
  exact aV (by omega) (BS.out _ _ _ _ _) _ _ _ _ _
 have HF:Hid (fnd zs root page=((true,rE (two zs root page),xE (two zs root page),true,pE (two zs root page)),0)):=by show _=_;rw[fnd,if_pos X1.out,if_neg HL.out,if_pos X2.out,if_pos hl,entE,HV2.out,hl]
 clear hl
 generalize rE (two zs root page)=r at *
 generalize xE (two zs root page)=x at *
 have HW:Hid _:=@oC zs root page wr _ _ _ _ _ HK.out HD.out HF.out
 cases r
 ·skip
  go_wp2
  refine bodyPost_ret (v:=.tuple #[.agg #[.bool false,.bool false,.bool false,.bool false,J 0],J 5,J 0]) (by simp[results,Tryz.results116,go_sem, *]) rfl ⟨⟨_,_,_,_,_,_,_,rfl,HW.out⟩,?_⟩
  exact aV (by omega) (BS.out _ _ _ _ _) _ _ _ _ _
 cases wr
 ·have HW':Hid _:=HW.out.trans (if_pos (by cases x <;> rfl))
  clear HW
  go_wp2
  refine bodyPost_ret (v:=.tuple #[.agg #[.bool true,.bool true,.bool x,.bool true,J (pE (two zs root page))],J 0,J 0]) (by simp[results,Tryz.results116,go_sem, *]) rfl ⟨⟨_,_,_,_,_,_,_,rfl,HW'.out⟩,?_⟩
  exact aV (by omega) (BS.out _ _ _ _ _) _ _ _ _ _
 cases x
 ·skip
  go_wp2
  refine bodyPost_ret (v:=.tuple #[.agg #[.bool false,.bool false,.bool false,.bool false,J 0],J 5,J 0]) (by simp[results,Tryz.results116,go_sem, *]) rfl ⟨⟨_,_,_,_,_,_,_,rfl,HW.out⟩,?_⟩
  exact aV (by omega) (BS.out _ _ _ _ _) _ _ _ _ _
 ·skip
  go_wp2
  refine bodyPost_ret (v:=.tuple #[.agg #[.bool true,.bool true,.bool true,.bool true,J (pE (two zs root page))],J 0,J 0]) (by simp[results,Tryz.results116,go_sem, *]) rfl ⟨⟨_,_,_,_,_,_,_,rfl,HW.out⟩,?_⟩
  exact aV (by omega) (BS.out _ _ _ _ _) _ _ _ _ _
theorem mG {v:Value}{zs:List Int}{root page:Int}{wr:Bool}{w:World}{b r x l:Bool}{p f c:Int}(hk:wkd zs root page wr=((b,r,x,l,p),f,c))(h:Sl w v zs)(h0:chk zs=0):
  Calls Tryz.prog 116 #[.agg #[v],J root,J page,.bool wr] w fun e w'=>e=.returned (.tuple #[.agg #[.bool b,.bool r,.bool x,.bool l,J p],J f,J c])∧Below w.heap.size w w':=by
 refine (rQ v zs root page wr w h h0).mono ?_
 rintro e w' ⟨⟨b',r',x',l',p',f',c',rfl,hk'⟩,hb⟩
 rw[hk] at hk'
 simp only[Prod.mk.injEq] at hk'
 obtain⟨⟨rfl,rfl,rfl,rfl,rfl⟩,rfl,rfl⟩:=hk'
 exact⟨rfl,hb⟩
end Go.Proofs.YthlhocneggcekaaGreat
