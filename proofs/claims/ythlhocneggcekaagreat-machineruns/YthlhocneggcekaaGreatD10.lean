/-
  Laid together: CheckCR, Ring4, CheckBR, EqualL, SameB.
-/
import Derived.Test.YthlhocneggcekaaGreatD9
namespace Go.Proofs.YthlhocneggcekaaGreat
open Go.RowKit
def keyN (x:Ln):Int:=x.1*64+x.2.1
def seenN (l:List Ln)(k:Nat):List Int:=((l.take k).map keyN).reverse
theorem tI (l:List Ln):seenN l 0=[]:=by simp[seenN]
theorem tJ {l:List Ln}{k:Nat}(h:k<l.length):seenN l (k+1)=keyN (lth l k)::seenN l k:=by
 unfold seenN
 rw[List.take_succ_eq_append_getElem h,List.map_append,List.reverse_append,cQ h]
 rfl
theorem aAa {x:Ln}(h:rngB x=true):(0≤x.1∧x.1<8)∧(0≤x.2.1∧x.2.1<64):=by
 simp[rngB] at h;exact⟨by omega,by omega⟩
theorem qW {x y:Ln}(hx:rngB x=true)(hy:rngB y=true):keyB x y=true↔keyN x=keyN y:=by
 obtain⟨a1,a2⟩:=aAa hx
 obtain⟨b1,b2⟩:=aAa hy
 unfold keyB keyN
 simp only[Bool.and_eq_true,decide_eq_true_eq]
 constructor
 ·rintro⟨e1,e2⟩;rw[e1,e2]
 ·intro e;constructor <;> omega
theorem oA {l:List Ln}{k:Nat}(hk:k<l.length)(h:∀j,j<k→errL l j=0)(hr:rngB (lth l k)=true):keyN (lth l k)∈seenN l k↔0≤fndC (l.take k) (lth l k).1 (lth l k).2.1:=by
 rw[←lK,List.any_eq_true]
 unfold seenN
 rw[List.mem_reverse,List.mem_map]
 constructor
 ·rintro⟨y,hy,e⟩
  refine⟨y,hy,?_⟩
  obtain⟨j,hj,rfl⟩:=List.getElem_of_mem hy
  have hj':j<k:=by simp at hj;omega
  have hz:=(fK.1 (h j hj')).1
  rw[cQ (by omega)] at hz
  rw[List.getElem_take] at e ⊢
  exact (qW hr hz).2 e.symm
 ·rintro⟨y,hy,e⟩
  refine⟨y,hy,?_⟩
  obtain⟨j,hj,rfl⟩:=List.getElem_of_mem hy
  have hj':j<k:=by simp at hj;omega
  have hz:=(fK.1 (h j hj')).1
  rw[cQ (by omega)] at hz
  rw[List.getElem_take] at e ⊢
  exact ((qW hr hz).1 e).symm
set_option maxHeartbeats 1000000 in
theorem bT (v:Value)(l:List Ln)(w:World)(h:Ls w v l):
  Calls Tryz.prog 69 #[v] w fun e w'=>e=.returned (J (chkC l))∧Below w.heap.size w w':=by
 have hmm:=@run_makeMap Tryz.prog
 have HL:Hid (Ls w v l):=h
 obtain⟨a,cap,rfl,hl,hm,h⟩:=h
 unfold maxLen at hm
 by_cases h6:6<l.length
 ·have e6:chkC l=1:=jU h6
  rw[e6]
  have h6':(6:Int)<l.length:=by omega
  go_enter Tryz.func69,Tryz.ntmps69
  go_wp2
  go_ret
  exact⟨rfl,Below.refl _ _⟩
 have h6':¬(6:Int)<l.length:=by omega
 have hmz:(l.length:Int)≤6:=by omega
 rcases h with rfl|⟨b,o,rfl,hb,hc⟩
 ·go_enter Tryz.func69,Tryz.ntmps69
  go_wp2
  go_loopw [5,12] (fun _ i w'=>i=J 0∧Below w.heap.size w w') (fun _ i _=>0)
  case atStart=>exact⟨rfl,aA (Below.refl _ _) _⟩
  case round=>
   obtain⟨rfl,hB⟩:=hrel
   go_wp2
   go_ret
   exact⟨aM (fJ h6 (fun j hj=>absurd hj (Nat.not_lt_zero _))).symm,hB⟩
 ·have HC:Hid _:=hc
  clear hc
  go_enter Tryz.func69,Tryz.ntmps69
  go_wp2
  go_loopw [5,12] (fun _ i w'=>∃k:Nat,k≤l.length∧i=J k∧(∀j,j<k→errL l j=0)∧Seen w' w.heap.size k (seenN l k)∧Below w.heap.size w w') (fun _ i _=>l.length-(intOf i).toNat)
  case atStart=>exact⟨0,Nat.zero_le _,rfl,fun j hj=>absurd hj (Nat.not_lt_zero _),by rw[tI];exact Seen.new w,aA (Below.refl _ _) _⟩
  case round=>
   obtain⟨k,hk,rfl,hpre,hS,hB⟩:=hrel
   have HP:Hid _:=hpre
   have HB:Hid _:=hB
   by_cases hlt:k<l.length
   ·obtain⟨g0,g1,g2,g3,g4⟩:=(HC.out k hlt).keep hB hb
    have hb':b<wr.heap.size:=Nat.lt_of_lt_of_le hb hB.size
    obtain⟨y,hy⟩:∃y,y=lth l k:=⟨_,rfl⟩
    have HY:Hid _:=hy
    rw[←hy] at g0 g1 g2 g3 g4
    clear hy hpre hB
    obtain⟨d1,p1,a1,r1,x1⟩:=y
    simp only at g0 g1 g2 g3 g4
    have hlt1:(k:Int)<l.length:=by omega
    have hk6:k<1000:=by omega
    have hsz:w.heap.size<wr.heap.size:=hS.lt
    have HS:Hid _:=hS
    clear hS
    have HW:Hid (own (d1,p1,a1,r1,x1)=if (devB d1&&pgB p1&&pgB a1)=true then (if r1=true then 0 else 3) else 2):=rfl
    by_cases ho:own (d1,p1,a1,r1,x1)=0
    rotate_left
    ·have HE:Hid (chkC l=own (d1,p1,a1,r1,x1)):=gL h6 hlt HP.out (by have:=lL (l:=l) (k:=k) (by rw[←HY.out];exact ho);rw[this,←HY.out]) ho
     cases e1:devB d1
     ·have H2:Hid (chkC l=2):=by show _=_;rw[HE.out,HW.out,e1];rfl
      go_wp2_with (first|(go_at_call 53;refine (dV _ _ _ _).mono ?_;rintro e w1 ⟨rfl,rfl⟩;first|rw[jW,e1]|rw[eA]))
      go_ret
      exact⟨aM H2.out.symm,aA HB.out _⟩
     cases e2:pgB p1
     ·have H2:Hid (chkC l=2):=by show _=_;rw[HE.out,HW.out,e1,e2];rfl
      go_wp2_with (first|(go_at_call 53;refine (dV _ _ _ _).mono ?_;rintro e w1 ⟨rfl,rfl⟩;first|rw[jW,e1]|rw[eA,e2]))
      go_ret
      exact⟨aM H2.out.symm,aA HB.out _⟩
     cases e3:pgB a1
     ·have H2:Hid (chkC l=2):=by show _=_;rw[HE.out,HW.out,e1,e2,e3];rfl
      go_wp2_with (first|(go_at_call 53;refine (dV _ _ _ _).mono ?_;rintro e w1 ⟨rfl,rfl⟩;first|rw[jW,e1]|rw[eA,e2]|rw[eA,e3]))
      go_ret
      exact⟨aM H2.out.symm,aA HB.out _⟩
     cases r1
     rotate_left
     ·exact absurd (by rw[HW.out,e1,e2,e3];rfl) ho
     have H2:Hid (chkC l=3):=by show _=_;rw[HE.out,HW.out,e1,e2,e3];rfl
     go_wp2_with (first|(go_at_call 53;refine (dV _ _ _ _).mono ?_;rintro e w1 ⟨rfl,rfl⟩;first|rw[jW,e1]|rw[eA,e2]|rw[eA,e3]))
     go_ret
     exact⟨aM H2.out.symm,aA HB.out _⟩
    have hw:=HW.out
    rw[ho] at hw
    have e1:devB d1=true:=by cases e:devB d1;(· rw[e] at hw;simp at hw);rfl
    have e2:pgB p1=true:=by cases e:pgB p1;(· rw[e] at hw;simp at hw);rfl
    have e3:pgB a1=true:=by cases e:pgB a1;(· rw[e] at hw;simp at hw);rfl
    have e4:r1=true:=by rw[e1,e2,e3] at hw;cases r1;(· simp at hw);rfl
    subst e4
    clear hw HW
    have hd:0≤d1∧d1<8:=by simpa [devB] using e1
    have hp:0≤p1∧p1<64:=by simpa [pgB] using e2
    obtain⟨hd0,hd1⟩:=hd
    obtain⟨hp0,hp1⟩:=hp
    have HR:Hid (rngB (lth l k)=true):=by show _=_;rw[←HY.out,vS,e1,e2,e3];rfl
    have HS1:∀ob,Seen (wr.alloc ob) w.heap.size k (seenN l k):=fun ob=>Seen.keep HS.out (aA (Below.refl _ _) _)
    have HS2:Hid _:=HS1
    clear HS1
    have HN:Hid (keyN (lth l k)=d1*64+p1):=by show _=_;rw[←HY.out];rfl
    by_cases hin:d1*64+p1∈seenN l k
    ·have HE:Hid (chkC l=5):=gL h6 hlt HP.out (lM (by rw[←HY.out];exact ho) ((oA hlt HP.out HR.out).1 (by rw[HN.out];exact hin))) (by decide)
     go_wp2_with (first|(go_at_call 53;refine (dV _ _ _ _).mono ?_;rintro e w1 ⟨rfl,rfl⟩;first|rw[jW,e1]|rw[eA,e2]|rw[eA,e3])|(at_lookup;refine kG rfl _ _ rfl w.heap.size k (seenN l k) rfl (HS2.out _) (d1*64+p1) (by first|rfl|simp) (by omega) (by omega) ?_;rw[decide_eq_true hin]))
     go_ret
     exact⟨aM HE.out.symm,aA HB.out _⟩
    ·have HE:Hid (errL l k=0):=jX (by rw[←HY.out];exact ho) (fun hf=>hin (by rw[←HN.out];exact (oA hlt HP.out HR.out).2 hf))
     have HQ:Hid (seenN l (k+1)=(d1*64+p1)::seenN l k):=by show _=_;rw[tJ hlt,HN.out]
     go_wp2_with (first|(go_at_call 53;refine (dV _ _ _ _).mono ?_;rintro e w1 ⟨rfl,rfl⟩;first|rw[jW,e1]|rw[eA,e2]|rw[eA,e3])|(at_lookup;refine kG rfl _ _ rfl w.heap.size k (seenN l k) rfl (HS2.out _) (d1*64+p1) (by first|rfl|simp) (by omega) (by omega) ?_;rw[decide_eq_false hin])|(at_mapUpdate;refine tF rfl _ _ _ rfl w.heap.size k (seenN l k) rfl (HS2.out _) (d1*64+p1) (by first|rfl|simp) rfl (by omega) (by omega) hk6 ?_;intro w1 hs1 hgr1))
     exact⟨⟨k+1,by omega,by go_num,dI HP.out HE.out,by rw[HQ.out];exact hs1,(aA HB.out _).grown hgr1 (by simp;omega) (fun j hj=>by cases hj;exact Nat.le_refl _)⟩,by simp[intOf];omega⟩
   ·have HF:Hid (chkC l=0):=fJ h6 fun j hj=>HP.out j (by omega)
    clear hpre hB hS
    go_wp2
    go_ret
    exact⟨aM HF.out.symm,HB.out⟩
theorem eI (z:Int):betweenB 0 63 z=pageR z:=by unfold betweenB pageR;exact decide_eq_decide.2 (by omega)
theorem eJ (z:Int):betweenB 0 7 z=stepR z:=by unfold betweenB stepR;exact decide_eq_decide.2 (by omega)
set_option maxHeartbeats 1000000 in
theorem fG (p h t:Int)(w:World):
  Calls Tryz.prog 70 #[.agg #[J p,J h,J t]] w fun e w'=>e=.returned (J (chkR p h t))∧w'=w.alloc (ringB p h t):=by
 cases a:pageR p
 ·have:chkR p h t=2:=by simp[chkR,a]
  rw[this]
  go_enter Tryz.func70,Tryz.ntmps70
  go_wp2_with (go_at_call 53;refine (aD _ _ _ _).mono ?_;rintro e w' ⟨rfl,rfl⟩;first|rw[eI]|rw[eJ])
  go_ret
  exact⟨rfl,rfl⟩
 cases b:stepR h
 ·have:chkR p h t=2:=by simp[chkR,a,b]
  rw[this]
  go_enter Tryz.func70,Tryz.ntmps70
  go_wp2_with (go_at_call 53;refine (aD _ _ _ _).mono ?_;rintro e w' ⟨rfl,rfl⟩;first|rw[eI]|rw[eJ])
  go_ret
  exact⟨rfl,rfl⟩
 cases c:stepR t
 ·have:chkR p h t=2:=by simp[chkR,a,b,c]
  rw[this]
  go_enter Tryz.func70,Tryz.ntmps70
  go_wp2_with (go_at_call 53;refine (aD _ _ _ _).mono ?_;rintro e w' ⟨rfl,rfl⟩;first|rw[eI]|rw[eJ])
  go_ret
  exact⟨rfl,rfl⟩
 have:chkR p h t=0:=by simp[chkR,a,b,c]
 rw[this]
 go_enter Tryz.func70,Tryz.ntmps70
 go_wp2_with (go_at_call 53;refine (aD _ _ _ _).mono ?_;rintro e w' ⟨rfl,rfl⟩;first|rw[eI]|rw[eJ])
 go_ret
 exact⟨rfl,rfl⟩
set_option maxHeartbeats 1000000 in
theorem jB (p h t:Int)(w:World)(hh:0≤h∧h<8)(ht:0≤t∧t<8):
  Calls Tryz.prog 119 #[.agg #[J p,J h,J t]] w fun e w'=>e=.returned (J (lenR h t))∧w'=w.alloc (ringB p h t):=by
 have HH:Hid (0≤h∧h<8):=hh
 have HT:Hid (0≤t∧t<8):=ht
 have HL:Hid (lenR h t=(t-h+8)%8):=rfl
 clear hh ht
 go_enter Tryz.func119,Tryz.ntmps119
 go_wp2
 go_loop [3,4] (fun a b=>∃i:Nat,a=J i∧b=J ((h+i)%8)∧(i:Int)≤lenR h t) (fun a _=>8-(intOf a).toNat)
 case atStart=>
  obtain⟨h0,h1⟩:=HH.out
  refine⟨0,rfl,?_,?_⟩
  ·congr 1;simp;omega
  ·rw[HL.out];simp;omega
 case round=>
  obtain⟨i,rfl,rfl,hi⟩:=hrel
  obtain⟨h0,h1⟩:=HH.out
  obtain⟨t0,t1⟩:=HT.out
  have hl:=HL.out
  have Hl:Hid (lenR h t=(t-h+8)%8):=HL.out
  have Hi:Hid ((i:Int)≤lenR h t):=hi
  by_cases he:(h+i)%8=t
  ·have hq:((h+(i:Int))%8 !=t)=false:=by simpa using he
   have HD:Hid ((i:Int)=lenR h t):=by show _=_;omega
   clear he hl hi
   go_wp2
   go_ret
   exact⟨aM HD.out,rfl⟩
  ·have hq:((h+(i:Int))%8 !=t)=true:=by simpa using he
   have HD:Hid ((i:Int)+1≤lenR h t∧lenR h t<8∧((h+i)%8+1)%8=(h+((i+1:Nat):Int))%8):=by refine⟨?_,?_,?_⟩ <;> omega
   have k0:0≤(h+(i:Int))%8:=by omega
   have k1:(h+(i:Int))%8<8:=by omega
   clear he hl hi
   generalize hk:(h+(i:Int))%8=k at *
   have hi8:(i:Int)<8:=by have:=HD.out;omega
   go_wp2
   refine⟨⟨i+1,by go_num,?_,by have:=HD.out;omega⟩,by simp[intOf];omega⟩
   rw[←HD.out.2.2]
theorem qX {b:Br}:(rngBr b=true∧betweenB 0 2 b.mode=true∧betweenB 0 63 b.base=true∧betweenB 0 999 b.fen=true)∨
  (rngBr b=false∧(betweenB 0 2 b.mode=false∨(betweenB 0 2 b.mode=true∧betweenB 0 63 b.base=false)∨(betweenB 0 2 b.mode=true∧betweenB 0 63 b.base=true∧betweenB 0 999 b.fen=false))):=by
 have e:rngBr b=(betweenB 0 2 b.mode&&betweenB 0 63 b.base&&betweenB 0 999 b.fen):=rfl
 rw[e]
 cases betweenB 0 2 b.mode <;> cases betweenB 0 63 b.base <;> cases betweenB 0 999 b.fen <;> simp
set_option maxHeartbeats 2000000 in
theorem kR (mo ba op oh ot fe fp fh ft:Int)(st lo:Bool)(vc:Value)(l:List Ln)(w:World)(h:Ls w vc l):
  Calls Tryz.prog 39 #[.agg (rB mo ba vc op oh ot st fe fp fh ft lo)] w fun e w'=>e=.returned (J (chkB ⟨mo,ba,l,op,oh,ot,st,fe,fp,fh,ft,lo⟩))∧Below w.heap.size w w':=by
 have HS:Hid (Ls w vc l):=h
 obtain⟨va,vk,rfl,-⟩:=h.shape
 clear h
 rcases qX (b:=⟨mo,ba,l,op,oh,ot,st,fe,fp,fh,ft,lo⟩) with ⟨hr,h1,h2,h3⟩|⟨hr,hw⟩
 rotate_left
 ·have HE:Hid (chkB ⟨mo,ba,l,op,oh,ot,st,fe,fp,fh,ft,lo⟩=2):=by show _=_;rw[chkB,hr];rfl
  clear hr
  dsimp only at hw
  rcases hw with h1|⟨h1,h2⟩|⟨h1,h2,h3⟩
  all_goals
   go_enter Tryz.func39,Tryz.ntmps39
   go_wp2_with (go_at_call 53;refine (aD _ _ _ _).mono ?_;rintro e w' ⟨rfl,rfl⟩)
   go_ret
   exact⟨aM HE.out.symm,aA (Below.refl _ _) _⟩
 dsimp only at h1 h2 h3
 have HR:Hid (rngBr ⟨mo,ba,l,op,oh,ot,st,fe,fp,fh,ft,lo⟩=true):=hr
 clear hr
 go_enter Tryz.func39,Tryz.ntmps39
 go_wp2_with (go_at_call 53;refine (aD _ _ _ _).mono ?_;rintro e w' ⟨rfl,rfl⟩)
 refine (bT _ l _ (HS.out.alloc _)).mono ?_
 rintro e w1 ⟨rfl,b1⟩
 have X0:=(Box.newAt (n:=w.heap.size) rfl 31 (rB mo ba (.slice va l.length vk) op oh ot st fe fp fh ft lo)).keep b1
 have B1:Hid (Below w.heap.size w w1):=aB (aA (Below.refl _ _) _) b1
 clear b1
 obtain⟨⟨q0,q1,q2,q3,q4,q5,q6,q7,q8,q9,q10,q11⟩,s0⟩:=X0.twelve
 by_cases hc:chkC l=0
 rotate_left
 ·have HE:Hid (chkB ⟨mo,ba,l,op,oh,ot,st,fe,fp,fh,ft,lo⟩=chkC l):=by show _=_;rw[chkB,if_pos HR.out,if_neg hc]
  have hq:(chkC l==0)=false:=by simpa using hc
  go_wp2
  go_ret
  exact⟨aM HE.out.symm,B1.out⟩
 rw[hc]
 go_wp2_with fail
 refine (fG _ _ _ _).mono ?_
 rintro e w2 ⟨rfl,rfl⟩
 by_cases hk:chkR op oh ot=0
 rotate_left
 ·have HE:Hid (chkB ⟨mo,ba,l,op,oh,ot,st,fe,fp,fh,ft,lo⟩=chkR op oh ot):=by show _=_;rw[chkB,if_pos HR.out,if_pos hc,if_neg hk]
  have hq:(chkR op oh ot==0)=false:=by simpa using hk
  go_wp2
  go_ret
  exact⟨aM HE.out.symm,aA B1.out _⟩
 have HE:Hid (chkB ⟨mo,ba,l,op,oh,ot,st,fe,fp,fh,ft,lo⟩=chkR fp fh ft):=by show _=_;rw[chkB,if_pos HR.out,if_pos hc,if_pos hk]
 rw[hk]
 go_wp2_with fail
 refine (fG _ _ _ _).mono ?_
 rintro e w2 ⟨rfl,rfl⟩
 go_wp2
 go_ret
 exact⟨aM HE.out.symm,aA (aA B1.out _) _⟩
theorem wE {xs ys:List Ln}(hl:xs.length=ys.length)(h:∀i,i<xs.length→lth xs i=lth ys i):xs=ys:=by
 apply List.ext_getElem hl
 intro i h1 h2
 have:=h i h1
 rwa [cQ h1,cQ h2] at this
theorem aAb {xs ys:List Ln}{i:Nat}(h:¬lth xs i=lth ys i):¬xs=ys:=fun e=>h (by rw[e])
theorem wG {a b c:Int}{d e:Bool}{a' b' c':Int}{d' e':Bool}(h:¬(a,b,c,d,e)=(a',b',c',d',e')):
  ¬a=a'∨(a=a'∧¬b=b')∨(a=a'∧b=b'∧¬c=c')∨(a=a'∧b=b'∧c=c'∧¬d=d')∨(a=a'∧b=b'∧c=c'∧d=d'∧¬e=e'):=by
 simp only[Prod.mk.injEq] at h
 by_cases h1:a=a'
 ·by_cases h2:b=b'
  ·by_cases h3:c=c'
   ·by_cases h4:d=d'
    ·by_cases h5:e=e'
     ·exact absurd ⟨h1,h2,h3,h4,h5⟩ h
     ·exact .inr (.inr (.inr (.inr ⟨h1,h2,h3,h4,h5⟩)))
    ·exact .inr (.inr (.inr (.inl ⟨h1,h2,h3,h4⟩)))
   ·exact .inr (.inr (.inl ⟨h1,h2,h3⟩))
  ·exact .inr (.inl ⟨h1,h2⟩)
 ·exact .inl h1
set_option maxHeartbeats 1000000 in
theorem bC (v1 v2:Value)(xs ys:List Ln)(w:World)(h1:Ls w v1 xs)(h2:Ls w v2 ys):
  Calls Tryz.prog 20 #[v1,v2] w fun e w'=>e=.returned (.bool (decide (xs=ys)))∧∃n,w'=w.drewN n:=by
 obtain⟨a1,c1,rfl,n1,l1,h1⟩:=h1
 obtain⟨a2,c2,rfl,n2,l2,h2⟩:=h2
 unfold maxLen at l1 l2
 by_cases hl:xs.length=ys.length
 ·have hne:((xs.length:Int) !=(ys.length:Int))=false:=by simp[hl]
  rcases h1 with rfl|⟨b1,o1,rfl,hb1,hc1⟩
  ·obtain rfl:ys=[]:=List.eq_nil_of_length_eq_zero hl.symm
   go_enter Tryz.func20,Tryz.ntmps20
   go_wp2
   go_loopw [5,13] (fun _ i w'=>i=J 0∧w'=w) (fun _ i _=>0)
   case atStart=>exact⟨rfl,rfl⟩
   case round=>
    obtain⟨rfl,rfl⟩:=hrel
    go_wp2
    go_ret
    exact⟨rfl,0,rfl⟩
  ·rcases h2 with rfl|⟨b2,o2,rfl,hb2,hc2⟩
   ·obtain rfl:xs=[]:=List.eq_nil_of_length_eq_zero hl
    go_enter Tryz.func20,Tryz.ntmps20
    go_wp2
    go_loopw [5,13] (fun _ i w'=>i=J 0∧w'=w) (fun _ i _=>0)
    case atStart=>exact⟨rfl,rfl⟩
    case round=>
     obtain⟨rfl,rfl⟩:=hrel
     go_wp2
     go_ret
     exact⟨rfl,0,rfl⟩
   have Hl:Hid (xs.length=ys.length):=hl
   have hle:(xs.length:Int)≤ys.length:=by omega
   have H1:=hc1
   have H2:=hc2
   clear hl hc1 hc2
   have HC1:Hid _:=H1
   have HC2:Hid _:=H2
   clear H1 H2
   go_enter Tryz.func20,Tryz.ntmps20
   go_wp2
   go_loopw [5,13] (fun _ i w'=>∃k:Nat,k≤xs.length∧i=J k∧(∀j,j<k→lth xs j=lth ys j)∧∃n,w'=w.drewN n) (fun _ i _=>xs.length-(intOf i).toNat)
   case atStart=>exact⟨0,Nat.zero_le _,rfl,fun j hj=>absurd hj (Nat.not_lt_zero _),0,rfl⟩
   case round=>
    obtain⟨k,hk,rfl,hpre,n,rfl⟩:=hrel
    have HP:Hid (∀j,j<k→lth xs j=lth ys j):=hpre
    clear hpre
    by_cases hlt:k<xs.length
    ·obtain⟨g0,g1,g2,g3,g4⟩:=HC1.out k hlt
     obtain⟨f0,f1,f2,f3,f4⟩:=HC2.out k (by have:=Hl.out;omega)
     have hlt1:(k:Int)<xs.length:=by omega
     have hlt2:(k:Int)<ys.length:=by omega
     obtain⟨y,hy⟩:∃y,y=lth xs k:=⟨_,rfl⟩
     obtain⟨z,hz⟩:∃z,z=lth ys k:=⟨_,rfl⟩
     have HY:Hid (y=lth xs k):=hy
     have HZ:Hid (z=lth ys k):=hz
     rw[←hy] at g0 g1 g2 g3 g4
     rw[←hz] at f0 f1 f2 f3 f4
     clear hy hz
     obtain⟨d1,p1,a1,r1,x1⟩:=y
     obtain⟨d2,p2,a2,r2,x2⟩:=z
     simp only at g0 g1 g2 g3 g4 f0 f1 f2 f3 f4
     by_cases hq:(d1,p1,a1,r1,x1)=((d2,p2,a2,r2,x2):Ln)
     ·have HQ:Hid (lth xs k=lth ys k):=by show _=_;rw[←HY.out,←HZ.out];exact hq
      simp only[Prod.mk.injEq] at hq
      obtain⟨rfl,rfl,rfl,rfl,rfl⟩:=hq
      go_wp2
      go_quiet (fail)
      go_wp2
      exact⟨⟨k+1,by omega,by go_num,dI HP.out HQ.out,_,rfl⟩,by simp[intOf];omega⟩
     ·have HN:Hid (decide (xs=ys)=false):=decide_eq_false (aAb (i:=k) (by rw[←HY.out,←HZ.out];exact hq))
      rcases wG hq with e1|⟨rfl,e1⟩|⟨rfl,rfl,e1⟩|⟨rfl,rfl,rfl,e1⟩|⟨rfl,rfl,rfl,rfl,e1⟩
      all_goals
       clear hq
       go_wp2
       go_quiet (fail)
       go_wp2
       go_ret
       exact⟨aL HN.out.symm,n+nq,World.drewN_drewN _ _ _⟩
    ·have HD:Hid (decide (xs=ys)=true):=decide_eq_true (wE Hl.out fun i hi=>HP.out i (by omega))
     go_wp2
     go_ret
     exact⟨aL HD.out.symm,_,rfl⟩
 ·have hne:((xs.length:Int) !=(ys.length:Int))=true:=by simp;omega
  have hd:decide (xs=ys)=false:=by simp;intro e;exact hl (by rw[e])
  rw[hd]
  go_enter Tryz.func20,Tryz.ntmps20
  go_wp2
  go_ret
  exact⟨rfl,0,rfl⟩
def sameBr (a b:Br):Bool:=
 decide (a.mode=b.mode)&&(decide (a.base=b.base)&&(decide (a.cache=b.cache)&&(decide (a.op=b.op)&&(decide (a.oh=b.oh)&&(decide (a.ot=b.ot)&&(decide (a.stop=b.stop)&&(decide (a.fen=b.fen)&&(decide (a.fp=b.fp)&&(decide (a.fh=b.fh)&&(decide (a.ft=b.ft)&&decide (a.lost=b.lost)))))))))))
theorem kH (b:Br):sameBr b b=true:=by simp[sameBr]
set_option maxHeartbeats 4000000 in
theorem mC (mo ba op oh ot fe fp fh ft:Int)(st lo:Bool)(vc:Value)(l:List Ln)(mo1 ba1 op1 oh1 ot1 fe1 fp1 fh1 ft1:Int)(st1 lo1:Bool)(vc1:Value)(l1:List Ln)(w:World)(h:Ls w vc l)(h1:Ls w vc1 l1):
  Calls Tryz.prog 46 #[.agg (rB mo ba vc op oh ot st fe fp fh ft lo),.agg (rB mo1 ba1 vc1 op1 oh1 ot1 st1 fe1 fp1 fh1 ft1 lo1)] w fun e w'=>e=.returned (.bool (sameBr ⟨mo,ba,l,op,oh,ot,st,fe,fp,fh,ft,lo⟩ ⟨mo1,ba1,l1,op1,oh1,ot1,st1,fe1,fp1,fh1,ft1,lo1⟩))∧Below w.heap.size w w':=by
 have HS:Hid (Ls w vc l):=h
 have HS1:Hid (Ls w vc1 l1):=h1
 obtain⟨va,vk,rfl,-⟩:=h.shape
 obtain⟨va1,vk1,rfl,-⟩:=h1.shape
 clear h h1
 by_cases hd:mo=mo1
 rotate_left
 ·have HE:Hid (sameBr ⟨mo,ba,l,op,oh,ot,st,fe,fp,fh,ft,lo⟩ ⟨mo1,ba1,l1,op1,oh1,ot1,st1,fe1,fp1,fh1,ft1,lo1⟩=false):=by show _=_;simp[sameBr,hd]
  have hq:(mo==mo1)=false:=by simpa using hd
  go_enter Tryz.func46,Tryz.ntmps46
  go_wp2_with fail
  go_ret
  exact⟨aL HE.out.symm,by first|exact aA (aA (Below.refl _ _) _) _|exact aH (aA (aA (Below.refl _ _) _) _) _⟩
 subst hd
 by_cases hd:ba=ba1
 rotate_left
 ·have HE:Hid (sameBr ⟨mo,ba,l,op,oh,ot,st,fe,fp,fh,ft,lo⟩ ⟨mo,ba1,l1,op1,oh1,ot1,st1,fe1,fp1,fh1,ft1,lo1⟩=false):=by show _=_;simp[sameBr,hd]
  have hq:(ba==ba1)=false:=by simpa using hd
  go_enter Tryz.func46,Tryz.ntmps46
  go_wp2_with fail
  go_ret
  exact⟨aL HE.out.symm,by first|exact aA (aA (Below.refl _ _) _) _|exact aH (aA (aA (Below.refl _ _) _) _) _⟩
 subst hd
 by_cases hd:l=l1
 rotate_left
 ·have HE:Hid (sameBr ⟨mo,ba,l,op,oh,ot,st,fe,fp,fh,ft,lo⟩ ⟨mo,ba,l1,op1,oh1,ot1,st1,fe1,fp1,fh1,ft1,lo1⟩=false):=by show _=_;simp[sameBr,hd]
  have hq:decide (l=l1)=false:=by simpa using hd
  go_enter Tryz.func46,Tryz.ntmps46
  go_wp2_with (go_at_call 20;refine (bC _ _ l l1 _ (HS.out.keep (aA (aA (Below.refl _ _) _) _)) (HS1.out.keep (aA (aA (Below.refl _ _) _) _))).mono ?_;rintro e w' ⟨rfl,n,rfl⟩)
  go_ret
  exact⟨aL HE.out.symm,by first|exact aA (aA (Below.refl _ _) _) _|exact aH (aA (aA (Below.refl _ _) _) _) _⟩
 subst hd
 by_cases hd:op=op1
 rotate_left
 ·have HE:Hid (sameBr ⟨mo,ba,l,op,oh,ot,st,fe,fp,fh,ft,lo⟩ ⟨mo,ba,l,op1,oh1,ot1,st1,fe1,fp1,fh1,ft1,lo1⟩=false):=by show _=_;simp[sameBr,hd]
  have hq:(op==op1)=false:=by simpa using hd
  go_enter Tryz.func46,Tryz.ntmps46
  go_wp2_with (go_at_call 20;refine (bC _ _ l l _ (HS.out.keep (aA (aA (Below.refl _ _) _) _)) (HS1.out.keep (aA (aA (Below.refl _ _) _) _))).mono ?_;rintro e w' ⟨rfl,n,rfl⟩)
  go_ret
  exact⟨aL HE.out.symm,by first|exact aA (aA (Below.refl _ _) _) _|exact aH (aA (aA (Below.refl _ _) _) _) _⟩
 subst hd
 by_cases hd:oh=oh1
 rotate_left
 ·have HE:Hid (sameBr ⟨mo,ba,l,op,oh,ot,st,fe,fp,fh,ft,lo⟩ ⟨mo,ba,l,op,oh1,ot1,st1,fe1,fp1,fh1,ft1,lo1⟩=false):=by show _=_;simp[sameBr,hd]
  have hq:(oh==oh1)=false:=by simpa using hd
  go_enter Tryz.func46,Tryz.ntmps46
  go_wp2_with (go_at_call 20;refine (bC _ _ l l _ (HS.out.keep (aA (aA (Below.refl _ _) _) _)) (HS1.out.keep (aA (aA (Below.refl _ _) _) _))).mono ?_;rintro e w' ⟨rfl,n,rfl⟩)
  go_ret
  exact⟨aL HE.out.symm,by first|exact aA (aA (Below.refl _ _) _) _|exact aH (aA (aA (Below.refl _ _) _) _) _⟩
 subst hd
 by_cases hd:ot=ot1
 rotate_left
 ·have HE:Hid (sameBr ⟨mo,ba,l,op,oh,ot,st,fe,fp,fh,ft,lo⟩ ⟨mo,ba,l,op,oh,ot1,st1,fe1,fp1,fh1,ft1,lo1⟩=false):=by show _=_;simp[sameBr,hd]
  have hq:(ot==ot1)=false:=by simpa using hd
  go_enter Tryz.func46,Tryz.ntmps46
  go_wp2_with (go_at_call 20;refine (bC _ _ l l _ (HS.out.keep (aA (aA (Below.refl _ _) _) _)) (HS1.out.keep (aA (aA (Below.refl _ _) _) _))).mono ?_;rintro e w' ⟨rfl,n,rfl⟩)
  go_ret
  exact⟨aL HE.out.symm,by first|exact aA (aA (Below.refl _ _) _) _|exact aH (aA (aA (Below.refl _ _) _) _) _⟩
 subst hd
 by_cases hd:st=st1
 rotate_left
 ·have HE:Hid (sameBr ⟨mo,ba,l,op,oh,ot,st,fe,fp,fh,ft,lo⟩ ⟨mo,ba,l,op,oh,ot,st1,fe1,fp1,fh1,ft1,lo1⟩=false):=by show _=_;simp[sameBr,hd]
  have hq:(st==st1)=false:=by simpa using hd
  go_enter Tryz.func46,Tryz.ntmps46
  go_wp2_with (go_at_call 20;refine (bC _ _ l l _ (HS.out.keep (aA (aA (Below.refl _ _) _) _)) (HS1.out.keep (aA (aA (Below.refl _ _) _) _))).mono ?_;rintro e w' ⟨rfl,n,rfl⟩)
  go_ret
  exact⟨aL HE.out.symm,by first|exact aA (aA (Below.refl _ _) _) _|exact aH (aA (aA (Below.refl _ _) _) _) _⟩
 subst hd
 by_cases hd:fe=fe1
 rotate_left
 ·have HE:Hid (sameBr ⟨mo,ba,l,op,oh,ot,st,fe,fp,fh,ft,lo⟩ ⟨mo,ba,l,op,oh,ot,st,fe1,fp1,fh1,ft1,lo1⟩=false):=by show _=_;simp[sameBr,hd]
  have hq:(fe==fe1)=false:=by simpa using hd
  go_enter Tryz.func46,Tryz.ntmps46
  go_wp2_with (go_at_call 20;refine (bC _ _ l l _ (HS.out.keep (aA (aA (Below.refl _ _) _) _)) (HS1.out.keep (aA (aA (Below.refl _ _) _) _))).mono ?_;rintro e w' ⟨rfl,n,rfl⟩)
  go_ret
  exact⟨aL HE.out.symm,by first|exact aA (aA (Below.refl _ _) _) _|exact aH (aA (aA (Below.refl _ _) _) _) _⟩
 subst hd
 by_cases hd:fp=fp1
 rotate_left
 ·have HE:Hid (sameBr ⟨mo,ba,l,op,oh,ot,st,fe,fp,fh,ft,lo⟩ ⟨mo,ba,l,op,oh,ot,st,fe,fp1,fh1,ft1,lo1⟩=false):=by show _=_;simp[sameBr,hd]
  have hq:(fp==fp1)=false:=by simpa using hd
  go_enter Tryz.func46,Tryz.ntmps46
  go_wp2_with (go_at_call 20;refine (bC _ _ l l _ (HS.out.keep (aA (aA (Below.refl _ _) _) _)) (HS1.out.keep (aA (aA (Below.refl _ _) _) _))).mono ?_;rintro e w' ⟨rfl,n,rfl⟩)
  go_ret
  exact⟨aL HE.out.symm,by first|exact aA (aA (Below.refl _ _) _) _|exact aH (aA (aA (Below.refl _ _) _) _) _⟩
 subst hd
 by_cases hd:fh=fh1
 rotate_left
 ·have HE:Hid (sameBr ⟨mo,ba,l,op,oh,ot,st,fe,fp,fh,ft,lo⟩ ⟨mo,ba,l,op,oh,ot,st,fe,fp,fh1,ft1,lo1⟩=false):=by show _=_;simp[sameBr,hd]
  have hq:(fh==fh1)=false:=by simpa using hd
  go_enter Tryz.func46,Tryz.ntmps46
  go_wp2_with (go_at_call 20;refine (bC _ _ l l _ (HS.out.keep (aA (aA (Below.refl _ _) _) _)) (HS1.out.keep (aA (aA (Below.refl _ _) _) _))).mono ?_;rintro e w' ⟨rfl,n,rfl⟩)
  go_ret
  exact⟨aL HE.out.symm,by first|exact aA (aA (Below.refl _ _) _) _|exact aH (aA (aA (Below.refl _ _) _) _) _⟩
 subst hd
 by_cases hd:ft=ft1
 rotate_left
 ·have HE:Hid (sameBr ⟨mo,ba,l,op,oh,ot,st,fe,fp,fh,ft,lo⟩ ⟨mo,ba,l,op,oh,ot,st,fe,fp,fh,ft1,lo1⟩=false):=by show _=_;simp[sameBr,hd]
  have hq:(ft==ft1)=false:=by simpa using hd
  go_enter Tryz.func46,Tryz.ntmps46
  go_wp2_with (go_at_call 20;refine (bC _ _ l l _ (HS.out.keep (aA (aA (Below.refl _ _) _) _)) (HS1.out.keep (aA (aA (Below.refl _ _) _) _))).mono ?_;rintro e w' ⟨rfl,n,rfl⟩)
  go_ret
  exact⟨aL HE.out.symm,by first|exact aA (aA (Below.refl _ _) _) _|exact aH (aA (aA (Below.refl _ _) _) _) _⟩
 subst hd
 by_cases hd:lo=lo1
 rotate_left
 ·have HE:Hid (sameBr ⟨mo,ba,l,op,oh,ot,st,fe,fp,fh,ft,lo⟩ ⟨mo,ba,l,op,oh,ot,st,fe,fp,fh,ft,lo1⟩=false):=by show _=_;simp[sameBr,hd]
  have hq:(lo==lo1)=false:=by simpa using hd
  go_enter Tryz.func46,Tryz.ntmps46
  go_wp2_with (go_at_call 20;refine (bC _ _ l l _ (HS.out.keep (aA (aA (Below.refl _ _) _) _)) (HS1.out.keep (aA (aA (Below.refl _ _) _) _))).mono ?_;rintro e w' ⟨rfl,n,rfl⟩)
  go_ret
  exact⟨aL HE.out.symm,by first|exact aA (aA (Below.refl _ _) _) _|exact aH (aA (aA (Below.refl _ _) _) _) _⟩
 subst hd
 have HE:Hid (sameBr ⟨mo,ba,l,op,oh,ot,st,fe,fp,fh,ft,lo⟩ ⟨mo,ba,l,op,oh,ot,st,fe,fp,fh,ft,lo⟩=true):=kH _
 go_enter Tryz.func46,Tryz.ntmps46
 go_wp2_with (go_at_call 20;refine (bC _ _ l l _ (HS.out.keep (aA (aA (Below.refl _ _) _) _)) (HS1.out.keep (aA (aA (Below.refl _ _) _) _))).mono ?_;rintro e w' ⟨rfl,n,rfl⟩)
 go_ret
 exact⟨aL HE.out.symm,by first|exact aA (aA (Below.refl _ _) _) _|exact aH (aA (aA (Below.refl _ _) _) _) _⟩
end Go.Proofs.YthlhocneggcekaaGreat
