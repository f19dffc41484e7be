/-
  Laid together: MRunB, MRun, MDriven.
-/
import Derived.Test.YthlhocneggcekaaGreatD43
import Derived.Test.YthlhocneggcekaaGreatDMDo
namespace Go.Proofs.YthlhocneggcekaaGreat
open Go.RowKit
def rnE (m:Mc)(l:List Hp):Int:=if chkM m=0 then (if l.length≤120 then 0 else 1) else chkM m
def rnX (m:Mc)(l:List Hp):Mc × List To × List Int:=if rnE m l=0 then rnM m l else (M0,[],[])
theorem aA9 {l:List Hp}{i:Nat}(h:i<l.length):l[i]?=some (hpth l i):=by simp[hpth,h]
theorem aCj {l:List Hp}{i:Nat}(h:i<l.length):l.take (i+1)=l.take i++[hpth l i]:=by
 rw[List.take_add_one,aA9 h];rfl
theorem Mean.kept {w w':World}{base:Nat}{may:Nat→Prop}{x:Tq}{t:To}(h:Mean w base x t)(k:KeptB may w w')(hm:∀q,may q→q<base):Mean w' base x t:=
 ⟨h.done,h.f,h.dat.kept k (fun q hq hb=>by have:=h.fd q hq;have:=hm q hb;omega),h.tch.kept k (fun q hq hb=>by have:=h.ft q hq;have:=hm q hb;omega),h.fd,h.ft⟩
theorem pX {qs:List Tq}{k:Nat}(h:k<qs.length)(x:Tq):qth (qs.set k x) k=x:=by unfold qth;rw[List.getElem?_set_self h];rfl
theorem nM {qs:List Tq}{k j:Nat}(h:¬j=k)(x:Tq):qth (qs.set k x) j=qth qs j:=by unfold qth;rw[List.getElem?_set_ne (fun e=>h e.symm)]
theorem xX {a b:List To}{j:Nat}(h:j<a.length):toth (a++b) j=toth a j:=by unfold toth;rw[List.getElem?_append_left h]
theorem xY {a:List To}{x:To}{j:Nat}(h:j=a.length):toth (a++[x]) j=x:=by subst h;unfold toth;rw[List.getElem?_append_right (Nat.le_refl _)];simp
theorem aBa {a b:List Int}{j:Nat}(h:j<a.length):nth (a++b) j=nth a j:=by unfold nth;rw[List.getD_eq_getElem?_getD,List.getD_eq_getElem?_getD,List.getElem?_append_left h]
theorem aBb {a:List Int}{x:Int}{j:Nat}(h:j=a.length):nth (a++[x]) j=x:=by subst h;unfold nth;rw[List.getD_eq_getElem?_getD,List.getElem?_append_right (Nat.le_refl _)];simp
def RunBad (N n9 n10 n11:Nat)(q:Nat):Prop:=q<N∨q=n9∨q=n10∨q=n11
structure RunI (m:Mc)(l:List Hp)(w:World)(N n9 n10 n11 NB:Nat)(i:Nat)(wx:World):Prop where
 now:∃cs,Box wx n9 33 cs∧IsM wx (rnM m (l.take i)).1 cs∧OffRow (RunBad N n9 n10 n11) cs
 told:∃qs,Box wx n10 40 (told4 qs)∧qs.length=l.length∧∀j,j<i→Mean wx NB (qth qs j) (toth (rnM m (l.take i)).2.1 j)
 said:∃es,Box wx n11 41 (said1 es)∧es.length=l.length∧∀j,j<i→nth es j=nth (rnM m (l.take i)).2.2 j
 bel:Below w.heap.size w wx
 lo:NB≤wx.heap.size
 i:i≤l.length
def RunW (b:Bool)(w5:World)(n9:Nat)(cs1:Array Value):World:=if b=true then w5.setRow n9 cs1 else w5
set_option maxHeartbeats 1000000 in
theorem RunI.step {m:Mc}{l:List Hp}{w:World}{N n9 n10 n11 NB i:Nat}{wx w5:World}(h:RunI m l w N n9 n10 n11 NB i wx)(hi:i<l.length)(hb:Below wx.heap.size wx w5){cs1:Array Value}{x:Tq}{E:Int}{t:To}
  (hx:∀now y T,now=(rnM m (l.take i)).1→hpR now (hpth l i)=(y,T)→E=hpE now (hpth l i)∧t=T∧(E=0→IsM w5 y cs1))
  (ho:OffRow (fun q=>q<wx.heap.size) cs1) (ht:Mean w5 wx.heap.size x t)
  (hw:w.heap.size≤n9∧w.heap.size≤n10∧w.heap.size≤n11) (hn:n9<NB∧n10<NB∧n11<NB∧N≤NB) (hd:¬n9=n10∧¬n9=n11∧¬n10=n11) {b:Bool} (hE:b=decide (E=0)):
  RunI m l w N n9 n10 n11 NB (i+1) ((((((RunW b w5 n9 cs1).setCell ⟨n10,i*4,none⟩ (.bool x.done)).setCell ⟨n10,i*4+1,none⟩ (.slice x.da x.dn x.dc)).setCell ⟨n10,i*4+2,none⟩ (J x.f)).setCell ⟨n10,i*4+3,none⟩ (.slice x.ta x.tn x.tc)).setCell ⟨n11,i,none⟩ (J E)):=by
 obtain⟨⟨cs,B9,M9,O9⟩,⟨qs,B10,L10,F10⟩,⟨es,B11,L11,F11⟩,hbel,hlo,hil⟩:=h
 obtain⟨⟨y,T⟩,hR⟩:∃R,hpR (rnM m (l.take i)).1 (hpth l i)=R:=⟨_,rfl⟩
 obtain⟨rfl,rfl,hy⟩:=hx _ y T rfl hR
 have e1:(rnM m (l.take (i+1)))=((if hpE (rnM m (l.take i)).1 (hpth l i)=0 then y else (rnM m (l.take i)).1),(rnM m (l.take i)).2.1++[t],(rnM m (l.take i)).2.2++[hpE (rnM m (l.take i)).1 (hpth l i)]):=by
  rw[aCj hi,zV,hR]
 obtain⟨hl1,hl2⟩:=pF (l.take i) m
 have hti:(l.take i).length=i:=by rw[List.length_take];omega
 rw[hti] at hl1 hl2
 obtain⟨now,hnow⟩:∃now,(rnM m (l.take i)).1=now:=⟨_,rfl⟩
 rw[hnow] at hR hy e1 M9 hE
 obtain⟨ts,hts⟩:∃ts,(rnM m (l.take i)).2.1=ts:=⟨_,rfl⟩
 obtain⟨zs,hzs⟩:∃zs,(rnM m (l.take i)).2.2=zs:=⟨_,rfl⟩
 rw[hts] at e1 F10 hl1
 rw[hzs] at e1 F11 hl2
 have B9:=B9.keep hb
 have B10:=B10.keep hb
 have B11:=B11.keep hb
 have M9:=M9.keep hb
 have hs5:=hb.size
 rw[hnow]
 obtain⟨w6,hw6⟩:∃w6,RunW b w5 n9 cs1=w6:=⟨_,rfl⟩
 rw[hw6]
 have K6:KeptB (fun q=>q=n9) w5 w6:=by
  rw[←hw6]
  unfold RunW
  split
  ·exact (KeptB.refl (fun q=>q=n9) w5).setRow (n:=n9) (.inl rfl) _
  ·exact KeptB.refl _ _
 have N6:∃cs',Box w6 n9 33 cs'∧IsM w6 (if hpE now (hpth l i)=0 then y else now) cs'∧OffRow (RunBad N n9 n10 n11) cs':=by
  by_cases h0:hpE now (hpth l i)=0
  ·have hbt:b=true:=by rw[hE];exact decide_eq_true h0
   have e6:w6=w5.setRow n9 cs1:=by rw[←hw6,hbt];rfl
   rw[if_pos h0]
   have o1:OffRow (RunBad N n9 n10 n11) cs1:=ho.less (fun q hq=>by unfold RunBad at hq;omega)
   exact⟨cs1,by rw[e6];exact B9.setRow cs1,(hy h0).kept K6 o1 (fun q hq=>.inr (.inl hq)),o1⟩
  ·have hbt:b=false:=by rw[hE];exact decide_eq_false h0
   have e6:w6=w5:=by rw[←hw6,hbt];rfl
   rw[if_neg h0,e6]
   exact⟨cs,B9,M9,O9⟩
 have hs6:=K6.size
 have B10:=B10.kept K6 (fun e=>hd.1 e.symm)
 have B11:=B11.kept K6 (fun e=>hd.2.1 e.symm)
 have Q10:=B10.setQ (k:=i) (by omega) x
 have K7:KeptB (fun q=>q=n10∨q=n11) w6 (((((w6.setCell ⟨n10,i*4,none⟩ (.bool x.done)).setCell ⟨n10,i*4+1,none⟩ (.slice x.da x.dn x.dc)).setCell ⟨n10,i*4+2,none⟩ (J x.f)).setCell ⟨n10,i*4+3,none⟩ (.slice x.ta x.tn x.tc)).setCell ⟨n11,i,none⟩ (J (hpE now (hpth l i)))):=
  (((((KeptB.refl _ _).setCell (p:=⟨n10,i*4,none⟩) (.inl (.inl rfl)) _).setCell (p:=⟨n10,i*4+1,none⟩) (.inl (.inl rfl)) _).setCell (p:=⟨n10,i*4+2,none⟩) (.inl (.inl rfl)) _).setCell (p:=⟨n10,i*4+3,none⟩) (.inl (.inl rfl)) _).setCell (p:=⟨n11,i,none⟩) (.inl (.inr rfl)) _
 have Q10:=Q10.other (p:=⟨n11,i,none⟩) (by dsimp only;omega) (J (hpE now (hpth l i)))
 have Q11:=((((B11.other (p:=⟨n10,i*4,none⟩) (by dsimp only;omega) (.bool x.done)).other (p:=⟨n10,i*4+1,none⟩) (by dsimp only;omega) (.slice x.da x.dn x.dc)).other (p:=⟨n10,i*4+2,none⟩) (by dsimp only;omega) (J x.f)).other (p:=⟨n10,i*4+3,none⟩) (by dsimp only;omega) (.slice x.ta x.tn x.tc)).setE i (hpE now (hpth l i))
 obtain⟨cs',C9,D9,O9'⟩:=N6
 have k5:∀(q:Tq) (T:To),Mean w5 NB q T→Mean _ NB q T:=fun q T hq=>(hq.kept K6 (fun q hq=>by omega)).kept K7 (fun q hq=>by omega)
 refine⟨⟨cs',C9.kept K7 (by omega),?_,O9'⟩,⟨qs.set i x,Q10,by rw[List.length_set];exact L10,fun j hj=>?_⟩,⟨es.set i _,Q11,by rw[List.length_set];exact L11,fun j hj=>?_⟩,?_,?_,by omega⟩
 ·rw[e1]
  exact D9.kept K7 O9' (fun q hq=>by unfold RunBad;omega)
 ·rw[e1]
  by_cases hji:j=i
  ·subst hji
   rw[pX (by omega),xY hl1.symm]
   exact k5 x t (ht.mono hlo)
  ·rw[nM hji,xX (by omega)]
   exact k5 _ _ ((F10 j (by omega)).keep hb)
 ·rw[e1]
  by_cases hji:j=i
  ·subst hji
   rw[iS (by omega),aBb hl2.symm]
  ·rw[gZ (fun e=>hji e.symm),aBa (by omega)]
   exact F11 j (by omega)
 ·have b5:Below w.heap.size w w5:=aB hbel hb
  have b6:Below w.heap.size w w6:=by
   rw[←hw6]
   unfold RunW
   split
   ·exact aG (n:=n9) hw.1 b5 cs1
   ·exact b5
  exact aI (p:=⟨n11,i,none⟩) hw.2.2 (aI (p:=⟨n10,i*4+3,none⟩) hw.2.1 (aI (p:=⟨n10,i*4+2,none⟩) hw.2.1 (aI (p:=⟨n10,i*4+1,none⟩) hw.2.1 (aI (p:=⟨n10,i*4,none⟩) hw.2.1 b6 _) _) _) _) _
 ·have:=K7.size;omega
def Tos (w:World)(base:Nat)(v:Value)(ts:List To):Prop:=∃qs,Qs w v qs∧Means w base qs ts
abbrev RunC (m:Mc)(l:List Hp)(w:World)(e:Ending)(w':World):Prop:=
 ∃cs1 a1 c1 a2 c2,e=.returned (.tuple #[.agg cs1,.slice a1 (rnX m l).2.1.length c1,.slice a2 (rnX m l).2.2.length c2,J (rnE m l)])∧IsM w' (rnX m l).1 cs1∧Tos w' w.heap.size (.slice a1 (rnX m l).2.1.length c1) (rnX m l).2.1∧Sl w' (.slice a2 (rnX m l).2.2.length c2) (rnX m l).2.2∧
  OffRow (fun q=>q<w.heap.size) cs1∧Fresh w.heap.size (.slice a1 (rnX m l).2.1.length c1)∧Fresh w.heap.size (.slice a2 (rnX m l).2.2.length c2)∧Below w.heap.size w w'
theorem gE {m:Mc}{l:List Hp}(h:¬rnE m l=0):rnX m l=(M0,[],[]):=by rw[rnX,if_neg h]
theorem aBc {m:Mc}{l:List Hp}(h:rnE m l=0):rnX m l=rnM m l:=by rw[rnX,if_pos h]
theorem aBd {m:Mc}{l:List Hp}(h:chkM m=0)(k:l.length≤120):rnE m l=0:=by rw[rnE,if_pos h,if_pos k]
theorem vL {m:Mc}{l:List Hp}{a:Value}{x:Int}(h:x=rnE m l)(k:¬rnE m l=0):Ending.returned (.tuple #[a,.slice none 0 0,.slice none 0 0,J x])=.returned (.tuple #[a,.slice none (rnX m l).2.1.length 0,.slice none (rnX m l).2.2.length 0,J (rnE m l)]):=by rw[gE k,h];rfl
theorem infoErrno:∃i,Tryz.prog.info? 41=some i∧i.zero=some (J 0)∧i.size=1∧i.bytes=8:=by
 have h:(Tryz.prog.info? 41).map (fun i=>(i.zero,i.size,i.bytes))=some (some (J 0),1,8):=by kernel_rfl
 cases hi:Tryz.prog.info? 41 with
 | none=>rw[hi] at h;simp at h
 | some i=>rw[hi] at h;simp at h;exact⟨i,rfl,h.1,h.2.1,h.2.2⟩
theorem makeTold (n:Nat)(hn:n≤120)(w:World):(Instr.makeSlice 57 (J n) (J n)).run Tryz.prog w=.ok (.slice (some ⟨w.heap.size,0,none⟩) n n) (w.alloc (.cells (told4 (List.replicate n q0)) 40)):=by
 obtain⟨i,hi,hz,hs,hb⟩:=infoTold
 have h:=run_make (P:=Tryz.prog) w 57 40 i _ Tryz.underlying57 hi hz .i64 .i64 n n (by omega) (by omega) (by rw[hb];omega) (by omega)
 rw[hs] at h
 simp only[Int.toNat_natCast] at h
 rw[←uK]
 exact h
theorem makeSaid (n:Nat)(hn:n≤120)(w:World):(Instr.makeSlice 58 (J n) (J n)).run Tryz.prog w=.ok (.slice (some ⟨w.heap.size,0,none⟩) n n) (w.alloc (.cells (said1 (List.replicate n 0)) 41)):=by
 obtain⟨i,hi,hz,hs,hb⟩:=infoErrno
 have h:=run_make (P:=Tryz.prog) w 58 41 i _ Tryz.underlying58 hi hz .i64 .i64 n n (by omega) (by omega) (by rw[hb];omega) (by omega)
 rw[hs] at h
 simp only[Int.toNat_natCast] at h
 rw[←uL]
 exact h
def RunA (n:Nat)(W:World)(a b:Value)(wx:World):Prop:=
 ∃n10 n11,a=.slice (some ⟨n10,0,none⟩) n n∧b=.slice (some ⟨n11,0,none⟩) n n∧Box wx n10 40 (told4 (List.replicate n q0))∧Box wx n11 41 (said1 (List.replicate n 0))∧¬n10=n11∧W.heap.size≤n10∧W.heap.size≤n11∧Below W.heap.size W wx
set_option maxRecDepth 10000 in
set_option maxHeartbeats 4000000 in
theorem aBe {m:Mc}{l:List Hp}{cs:Array Value}{v:Value}{w:World}(hm:IsM w m cs)(hl:Hps w v l)(hE:¬chkM m=0):
  Calls Tryz.prog 23 #[.agg cs,v] w fun e w'=>RunC m l w e w':=by
 have HZ:Hid (rnE m l=chkM m):=if_neg hE
 have HE:Hid (¬rnE m l=0):=by show ¬_;rw[HZ.out];exact hE
 have HM:Hid (IsM w m cs):=hm
 have HL:Hid (Hps w v l):=hl
 obtain⟨va,vk,rfl⟩:=hl.shape
 have hc16:cs.size=16:=hm.size.1
 have HI:(Tryz.prog.info? 33).map (·.size)=some cs.size:=by rw[infoM,hc16]
 have X0:=(Box.newAt (w:=w) (n:=w.heap.size) rfl 33 cs).past (.cells zM 33)
 have X1:Box ((w.alloc (.cells cs 33)).alloc (.cells zM 33)) (w.heap.size+1) 33 zeroM:=Box.newAt (w:=w.alloc (.cells cs 33)) (n:=w.heap.size+1) (by simp) 33 _
 have BW:Hid (Below w.heap.size w ((w.alloc (.cells cs 33)).alloc (.cells zM 33))):=aA (aA (Below.refl w.heap.size w) _) _
 have hsz:((w.alloc (.cells cs 33)).alloc (.cells zM 33)).heap.size=w.heap.size+1+1:=by simp
 clear hm hl
 go_enter Tryz.func23,Tryz.ntmps23
 go_upto_region 1 with fail
 (try simp only[Value.cells])
 generalize ((w.alloc (.cells cs 33)).alloc (.cells zM 33))=W at *
 go_wp2_with (first
  | fail
  | (refine wpList_load_row rfl 33 (.tmp 2) rfl w.heap.size rfl _ _ _ _ X0 Tryz.underlying33 rfl HI ?_))
 refine (eY (HM.out.keep BW.out)).mono ?_
 rintro e w1 ⟨rfl,b1⟩
 have X0:=X0.keep b1
 have X1:=X1.keep b1
 have B1:Hid (Below w.heap.size w w1):=aB BW.out b1
 have z1:w.heap.size+1+1≤w1.heap.size:=by rw[←hsz];exact b1.size
 clear b1 BW hsz
 obtain⟨z,hz⟩:∃z,chkM m=z:=⟨_,rfl⟩
 rw[hz] at HZ hE ⊢
 clear hz
 have q:(z !=0)=true:=by simpa using hE
 clear hE
 go_wp2_with (first
  | fail
  | (refine wpList_store_row rfl 33 (.tmp 4) (.tmp 21) rfl (w.heap.size+1) zeroM rfl rfl _ _ X1 (by rw[infoM];rfl) rfl (by simp[zeroM,Value.oneCell']) ?_))
 have l1:=Box.loadM (X1.setRow zeroM) rfl
 refine bodyPost_ret (v:=.tuple #[.agg zeroM,.slice none 0 0,.slice none 0 0,J z]) (by simp[results,Tryz.results23,asAddr,l1]) rfl ⟨zeroM,none,0,none,0,vL HZ.out.symm HE.out,by rw[gE HE.out];exact jK _,by rw[gE HE.out];exact⟨[],Qs.nothing _,Means.nil _ _⟩,by rw[gE HE.out];exact Sl.nil _ none 0,gV _,Fresh.none _ _ _,Fresh.none _ _ _,aG (by omega) B1.out _⟩
set_option maxRecDepth 10000 in
set_option maxHeartbeats 4000000 in
theorem xZ {m:Mc}{l:List Hp}{cs:Array Value}{v:Value}{w:World}(hm:IsM w m cs)(hl:Hps w v l)(hE:chkM m=0)(hn:¬l.length≤120):
  Calls Tryz.prog 23 #[.agg cs,v] w fun e w'=>RunC m l w e w':=by
 have HZ:Hid (rnE m l=1):=by show _=_;rw[rnE,if_pos hE,if_neg hn]
 have HE:Hid (¬rnE m l=0):=by show ¬_;rw[HZ.out];decide
 have HM:Hid (IsM w m cs):=hm
 have HL:Hid (Hps w v l):=hl
 obtain⟨va,vk,rfl⟩:=hl.shape
 have hc16:cs.size=16:=hm.size.1
 have HI:(Tryz.prog.info? 33).map (·.size)=some cs.size:=by rw[infoM,hc16]
 have X0:=(Box.newAt (w:=w) (n:=w.heap.size) rfl 33 cs).past (.cells zM 33)
 have X1:Box ((w.alloc (.cells cs 33)).alloc (.cells zM 33)) (w.heap.size+1) 33 zeroM:=Box.newAt (w:=w.alloc (.cells cs 33)) (n:=w.heap.size+1) (by simp) 33 _
 have BW:Hid (Below w.heap.size w ((w.alloc (.cells cs 33)).alloc (.cells zM 33))):=aA (aA (Below.refl w.heap.size w) _) _
 have hsz:((w.alloc (.cells cs 33)).alloc (.cells zM 33)).heap.size=w.heap.size+1+1:=by simp
 clear hm hl
 go_enter Tryz.func23,Tryz.ntmps23
 go_upto_region 1 with fail
 (try simp only[Value.cells])
 generalize ((w.alloc (.cells cs 33)).alloc (.cells zM 33))=W at *
 go_wp2_with (first
  | fail
  | (refine wpList_load_row rfl 33 (.tmp 2) rfl w.heap.size rfl _ _ _ _ X0 Tryz.underlying33 rfl HI ?_))
 refine (eY (HM.out.keep BW.out)).mono ?_
 rintro e w1 ⟨rfl,b1⟩
 have X0:=X0.keep b1
 have X1:=X1.keep b1
 have B1:Hid (Below w.heap.size w w1):=aB BW.out b1
 have z1:w.heap.size+1+1≤w1.heap.size:=by rw[←hsz];exact b1.size
 clear b1 BW hsz
 rw[hE]
 clear hE
 have q:((0:Int) !=0)=false:=rfl
 have q1:(l.length:Int)>120:=by omega
 go_wp2_with (first
  | fail
  | (refine wpList_store_row rfl 33 (.tmp 4) (.tmp 26) rfl (w.heap.size+1) zeroM rfl rfl _ _ X1 (by rw[infoM];rfl) rfl (by simp[zeroM,Value.oneCell']) ?_))
 have l1:=Box.loadM (X1.setRow zeroM) rfl
 refine bodyPost_ret (v:=.tuple #[.agg zeroM,.slice none 0 0,.slice none 0 0,J 1]) (by simp[results,Tryz.results23,asAddr,l1]) rfl ⟨zeroM,none,0,none,0,vL HZ.out.symm HE.out,by rw[gE HE.out];exact jK _,by rw[gE HE.out];exact⟨[],Qs.nothing _,Means.nil _ _⟩,by rw[gE HE.out];exact Sl.nil _ none 0,gV _,Fresh.none _ _ _,Fresh.none _ _ _,aG (by omega) B1.out _⟩
set_option maxRecDepth 10000 in
set_option maxHeartbeats 4000000 in
theorem aCk {m:Mc}{l:List Hp}{cs:Array Value}{v:Value}{w:World}(hm:IsM w m cs)(hl:Hps w v l)(hE:chkM m=0)(hn:l.length≤120):
  Calls Tryz.prog 23 #[.agg cs,v] w fun e w'=>RunC m l w e w':=by
 have HZ:Hid (rnE m l=0):=aBd hE hn
 have HE:Hid (chkM m=0):=hE
 have HM:Hid (IsM w m cs):=hm
 have HL:Hid (Hps w v l):=hl
 obtain⟨va,vk,rfl⟩:=hl.shape
 have hc16:cs.size=16:=hm.size.1
 have HI:(Tryz.prog.info? 33).map (·.size)=some cs.size:=by rw[infoM,hc16]
 have X0:=(Box.newAt (w:=w) (n:=w.heap.size) rfl 33 cs).past (.cells zM 33)
 have X1:Box ((w.alloc (.cells cs 33)).alloc (.cells zM 33)) (w.heap.size+1) 33 zeroM:=Box.newAt (w:=w.alloc (.cells cs 33)) (n:=w.heap.size+1) (by simp) 33 _
 have BW:Hid (Below w.heap.size w ((w.alloc (.cells cs 33)).alloc (.cells zM 33))):=aA (aA (Below.refl w.heap.size w) _) _
 have hsz:((w.alloc (.cells cs 33)).alloc (.cells zM 33)).heap.size=w.heap.size+1+1:=by simp
 clear hm hl
 go_enter Tryz.func23,Tryz.ntmps23
 go_upto_region 1 with fail
 (try simp only[Value.cells])
 generalize ((w.alloc (.cells cs 33)).alloc (.cells zM 33))=W at *
 go_wp2_with (first
  | fail
  | (refine wpList_load_row rfl 33 (.tmp 2) rfl w.heap.size rfl _ _ _ _ X0 Tryz.underlying33 rfl HI ?_))
 refine (eY (HM.out.keep BW.out)).mono ?_
 rintro e w1 ⟨rfl,b1⟩
 have X0:=X0.keep b1
 have X1:=X1.keep b1
 have B1:Hid (Below w.heap.size w w1):=aB BW.out b1
 have z1:w.heap.size+1+1≤w1.heap.size:=by rw[←hsz];exact b1.size
 clear b1 BW hsz
 rw[hE]
 clear hE
 have q:((0:Int) !=0)=false:=rfl
 have q1:¬(l.length:Int)>120:=by omega
 go_wp2_with (first
  | fail
  | (refine wpList_load_row rfl 33 (.tmp 2) rfl w.heap.size rfl _ _ _ _ X0 Tryz.underlying33 rfl HI ?_))
 refine (eO (HM.out.keep B1.out) HE.out).mono ?_
 rintro e w2 ⟨cc,rfl,CS,OC,b2⟩
 have X1:=X1.keep b2
 have B2:Hid (Below w.heap.size w w2):=aB B1.out b2
 have z2:w1.heap.size≤w2.heap.size:=b2.size
 obtain⟨hk16,hka⟩:=CS.size
 clear b2 X0 HI
 obtain⟨n9,hn9⟩:∃n,n=w2.heap.size:=⟨_,rfl⟩
 have X9:Box (w2.alloc (.cells zM 33)) n9 33 zeroM:=Box.newAt hn9 _ _
 have e9:w2.heap.size=n9:=hn9.symm
 have HN9:Hid (n9=w2.heap.size):=hn9
 clear hn9
 go_upto_region 7 with (first
  | fail
  | (refine wpList_store_row rfl 33 (.tmp 9) (.tmp 28) rfl n9 cc rfl rfl _ _ X9 (by rw[infoM,hk16]) (by rw[hk16];rfl) hka ?_))
 have hn9:=HN9.out
 clear e9
 have X9:=X9.setRow cc
 have X1:=(X1.past (.cells zM 33)).otherRow (show w.heap.size+1≠n9 by omega) cc
 have CS:=(CS.keep (aA (Below.refl _ _) (.cells zM 33))).kept ((KeptB.refl (fun q=>q=n9) _).setRow (n:=n9) (.inl rfl) cc) OC (fun q hq=>by omega)
 have B3:Hid (Below w.heap.size w ((w2.alloc (.cells zM 33)).setRow n9 cc)):=aG (by omega) (aA B2.out _) _
 have z9:w2.heap.size≤n9:=by omega
 clear hn9
 have z3:n9<((w2.alloc (.cells zM 33)).setRow n9 cc).heap.size:=X9.lt
 clear B1 B2 q q1 hc16
 generalize ((w2.alloc (.cells zM 33)).setRow n9 cc)=w3 at *
 have hm:=makeTold l.length hn
 have hm8:=makeSaid l.length hn
 simp only[Act.put]
 go_cut [10,11] from 29 to 34 (fun a b wx=>RunA l.length w3 a b wx)
 case first=>
  go_region
  all_goals
   go_wp2
   go_meet
   first
    | exact⟨_,_,rfl,rfl,Box.past (Box.newAt rfl _ _) _,Box.newAt (by simp) _ _,by omega,by omega,by omega,aA (aA (Below.drew (Below.refl _ _)) _) _⟩
    | exact⟨_,_,rfl,rfl,Box.newAt (by simp) _ _,Box.past (Box.newAt rfl _ _) _,by omega,by omega,by omega,aA (aA (Below.drew (Below.refl _ _)) _) _⟩
 case rest=>
  obtain⟨n10,n11,rfl,rfl,X10,X11,hd,l10,l11,b4⟩:=hcut
  have X1:=X1.keep b4
  have X9:=X9.keep b4
  have CS:=CS.keep b4
  have hI:RunI m l w (w.heap.size+1+1) n9 n10 n11 wc.heap.size 0 wc:=⟨⟨cc,X9,CS,OC.less (fun q hq=>by unfold RunBad at hq;omega)⟩,⟨_,X10,by simp,fun j hj=>absurd hj (Nat.not_lt_zero _)⟩,⟨_,X11,by simp,fun j hj=>absurd hj (Nat.not_lt_zero _)⟩,aB B3.out b4,Nat.le_refl _,Nat.zero_le _⟩
  have t9:=X9.lt
  have t10:=X10.lt
  have t11:=X11.lt
  have X1L:Hid (Box wc (w.heap.size+1) 33 zeroM):=X1
  have HI0:Hid (RunI m l w (w.heap.size+1+1) n9 n10 n11 wc.heap.size 0 wc):=hI
  have g9:w.heap.size+1+1≤n9:=by omega
  have g10:n9<n10:=by omega
  have g11:n9<n11:=by omega
  clear hI b4 CS OC X1 X9 X10 X11 hm hm8 B3 hk16 hka
  obtain⟨NB,hNB⟩:∃n,n=wc.heap.size:=⟨_,rfl⟩
  rw[←hNB] at HI0 t9 t10 t11
  go_wp2
  go_loopw [12,13,14,15,16,37] (fun _ _ _ _ _ s wx=>∃i:Nat,s=J i∧RunI m l w (w.heap.size+1+1) n9 n10 n11 NB i wx∧KeptB (fun q=>q=n9∨q=n10∨q=n11) wc wx) (fun _ _ _ _ _ s _=>l.length-(intOf s).toNat)
  case atStart=>exact⟨0,rfl,HI0.out,KeptB.refl _ _⟩
  case round=>
   obtain⟨i,rfl,hR,hK⟩:=hrel
   have HR:Hid (RunI m l w (w.heap.size+1+1) n9 n10 n11 NB i wr):=hR
   have HK:Hid (KeptB (fun q=>q=n9∨q=n10∨q=n11) wc wr):=hK
   have hil:=hR.i
   clear hR hK
   by_cases hlt:i<l.length
   ·obtain⟨cs0,X9,M9,O9⟩:=HR.out.now
    obtain⟨qs,X10,L10,-⟩:=HR.out.told
    obtain⟨es,X11,L11,-⟩:=HR.out.said
    have HB:Hid (Below w.heap.size w wr):=HR.out.bel
    have hNB2:NB≤wr.heap.size:=HR.out.lo
    obtain⟨hs0,ha0⟩:=M9.size
    obtain⟨b,o,hva,hbl,hA⟩:∃b o,va=some ⟨b,o,none⟩∧b<w.heap.size∧AtHp w b (o+i*7) (hpth l i):=by
     obtain⟨a',c',e',-,-,q⟩:=HL.out
     simp only[Value.slice.injEq] at e'
     rcases q with q|⟨b',o',q,q2,q3⟩
     ·rw[q] at hlt;simp at hlt
     ·exact⟨b',o',by rw[e'.1,q],q2,q3 i hlt⟩
    subst hva
    obtain⟨X,hX⟩:∃X,hpth l i=X:=⟨_,rfl⟩
    have HX:Hid (hpth l i=X):=hX
    rw[hX] at hA
    clear hX
    obtain⟨u,q0,q1,q2,q3,q4,q5,q6,hS⟩:=hA.keep HB.out hbl
    have HSd:Hid (Sl wr u X.ds):=hS.1
    obtain⟨da,dn,dc,rfl⟩:∃a k c,u=.slice a k c:=let ⟨a,c,e,_⟩:=hS.1;⟨a,_,c,e⟩
    have hlt1:(i:Int)<(l.length:Int):=by omega
    have sb:b<wr.heap.size:=Nat.lt_of_lt_of_le hbl HB.out.size
    obtain⟨now,hnow⟩:∃now,(rnM m (l.take i)).1=now:=⟨_,rfl⟩
    have HNOW:Hid ((rnM m (l.take i)).1=now):=hnow
    rw[hnow] at M9
    clear hnow hA hS
    have X9a:=X9.past (.cells #[J X.kind,J X.num,J X.d,J X.a,J X.n,.bool X.wr,.slice da dn dc] 37)
    go_wp2_with (first
     | fail
     | (refine wpList_load_row rfl 33 (.tmp 9) rfl n9 rfl _ _ _ _ X9a Tryz.underlying33 rfl (by rw[infoM,hs0]) ?_))
    have BX:Hid (Below wr.heap.size wr (wr.alloc (.cells #[J X.kind,J X.num,J X.d,J X.a,J X.n,.bool X.wr,.slice da dn dc] 37))):=aA (Below.refl _ _) _
    refine (aCi (m:=now) (x:=X) (M9.keep BX.out) ⟨_,_,_,rfl,HSd.out.keep BX.out⟩).mono ?_
    rintro e w4 ⟨cs1,cs2,rfl,hM,hT,o1,o2,b4⟩
    have B4:Hid (Below wr.heap.size wr w4):=aB BX.out b4
    obtain⟨hs1,ha1⟩:=hM.size
    obtain⟨⟨Y,T⟩,hYT⟩:∃R,hpR now X=R:=⟨_,rfl⟩
    have HYT:Hid (hpR now X=(Y,T)):=hYT
    rw[hYT] at hM hT
    obtain⟨a4,n4,c4,a5,n5,c5,rfl,hd4,ht5⟩:=hT
    dsimp only at hM hd4 ht5
    obtain⟨E,hE⟩:∃E,hpE now X=E:=⟨_,rfl⟩
    have HEE:Hid (hpE now X=E):=hE
    rw[hE]
    clear hE hYT b4 X9a q0 q1 q2 q3 q4 q5 q6
    have z4:wr.heap.size≤w4.heap.size:=B4.out.size
    obtain⟨n14,hn14⟩:∃n,w4.heap.size=n:=⟨_,rfl⟩
    obtain⟨n15,hn15⟩:∃n,n14+1=n:=⟨_,rfl⟩
    have X14:Box ((w4.alloc (.cells zM 33)).alloc (.cells zT 40)) n14 33 zeroM:=(Box.newAt hn14.symm _ _).past _
    have X15:Box ((w4.alloc (.cells zM 33)).alloc (.cells zT 40)) n15 40 zeroT:=Box.newAt (by simp;omega) _ _
    have h45:n14≠n15:=by omega
    have X9:=((((X9.keep B4.out).past (.cells zM 33)).past (.cells zT 40)).otherRow (show n9≠n14 by omega) cs1).otherRow (show n9≠n15 by omega) #[.bool T.done,.slice a4 n4 c4,J T.f,.slice a5 n5 c5]
    have X10:=((((X10.keep B4.out).past (.cells zM 33)).past (.cells zT 40)).otherRow (show n10≠n14 by omega) cs1).otherRow (show n10≠n15 by omega) #[.bool T.done,.slice a4 n4 c4,J T.f,.slice a5 n5 c5]
    have X11:=((((X11.keep B4.out).past (.cells zM 33)).past (.cells zT 40)).otherRow (show n11≠n14 by omega) cs1).otherRow (show n11≠n15 by omega) #[.bool T.done,.slice a4 n4 c4,J T.f,.slice a5 n5 c5]
    have B5:Hid (Below wr.heap.size wr ((((w4.alloc (.cells zM 33)).alloc (.cells zT 40)).setRow n14 cs1).setRow n15 #[.bool T.done,.slice a4 n4 c4,J T.f,.slice a5 n5 c5])):=aG (by omega) (aG (by omega) (aA (aA B4.out _) _) _) _
    have K5:KeptB (fun q=>q=n14∨q=n15) w4 ((((w4.alloc (.cells zM 33)).alloc (.cells zT 40)).setRow n14 cs1).setRow n15 #[.bool T.done,.slice a4 n4 c4,J T.f,.slice a5 n5 c5]):=(((KeptB.refl _ _).alloc _).alloc _ |>.setRow (n:=n14) (.inl (.inl rfl)) _).setRow (n:=n15) (.inl (.inr rfl)) _
    have K5B:Below w4.heap.size w4 ((((w4.alloc (.cells zM 33)).alloc (.cells zT 40)).setRow n14 cs1).setRow n15 #[.bool T.done,.slice a4 n4 c4,J T.f,.slice a5 n5 c5]):=aG (by omega) (aG (by omega) (aA (aA (Below.refl _ _) _) _) _) _
    have hM:=hM.keep K5B
    have hd4:=hd4.keep K5B
    have ht5:=ht5.keep K5B
    have Z14:=X14
    have Z15:=X15.otherRow h45.symm cs1
    have X14:=(X14.setRow cs1).otherRow h45 #[.bool T.done,.slice a4 n4 c4,J T.f,.slice a5 n5 c5]
    have X15:=Z15.setRow #[.bool T.done,.slice a4 n4 c4,J T.f,.slice a5 n5 c5]
    clear K5 K5B
    go_upto_region 12 with (first
     | fail
     | (refine wpList_store_row rfl 33 (.tmp 14) (.tmp 46) rfl n14 cs1 rfl rfl _ _ Z14 (by rw[infoM,hs1]) (by rw[hs1];rfl) ha1 ?_)
     | (refine wpList_store_row rfl 40 (.tmp 15) (.tmp 47) rfl n15 _ rfl rfl _ _ Z15 infoTo rfl (by simp[Value.oneCell']) ?_))
    have h159:n15≠n9:=by omega
    clear Z14 Z15 hn14 hn15
    generalize ((((w4.alloc (.cells zM 33)).alloc (.cells zT 40)).setRow n14 cs1).setRow n15 #[.bool T.done,.slice a4 n4 c4,J T.f,.slice a5 n5 c5])=w5 at *
    have HST:Hid (∀b:Bool,b=decide (E=0)→RunI m l w (w.heap.size+1+1) n9 n10 n11 NB (i+1) ((((((RunW b w5 n9 cs1).setCell ⟨n10,i*4,none⟩ (.bool T.done)).setCell ⟨n10,i*4+1,none⟩ (.slice a4 n4 c4)).setCell ⟨n10,i*4+2,none⟩ (J T.f)).setCell ⟨n10,i*4+3,none⟩ (.slice a5 n5 c5)).setCell ⟨n11,i,none⟩ (J E))):=fun b hb=>
     RunI.step (x:=⟨T.done,a4,n4,c4,T.f,a5,n5,c5⟩) (t:=T) HR.out hlt B5.out (fun now' y T' e1 e2=>by
      have e3:now'=now:=e1.trans HNOW.out
      rw[e3,HX.out,HYT.out] at e2
      simp only[Prod.mk.injEq] at e2
      obtain⟨rfl,rfl⟩:=e2
      rw[e3,HX.out]
      exact⟨HEE.out.symm,rfl,fun _=>hM⟩)
      (o1.less (fun q hq=>by simp;omega)) ⟨rfl,rfl,hd4,ht5,(Off.fresh (o2 1 _ rfl)).mono (by simp),(Off.fresh (o2 3 _ rfl)).mono (by simp)⟩ ⟨by omega,by omega,by omega⟩ ⟨by omega,by omega,by omega,by omega⟩ ⟨by omega,by omega,hd⟩ hb
    have HKT:Hid (∀w',KeptB (fun q=>q=n9∨q=n10∨q=n11) w5 w'→KeptB (fun q=>q=n9∨q=n10∨q=n11) wc w'):=fun w' hk=>(HK.out.below B5.out).trans hk (fun _ _ h=>h)
    clear hM hd4 ht5 o1 o2 M9 O9 ha0
    by_cases h0:E=0
    ·subst h0
     have q:((0:Int)==0)=true:=rfl
     have X10:=X10.otherRow (show n10≠n9 by omega) cs1
     have X11:=X11.otherRow (show n11≠n9 by omega) cs1
     have X15:=X15.otherRow h159 cs1
     go_upto_region 14 with (first
      | fail
      | (refine wpList_load_row rfl 33 (.tmp 14) rfl n14 rfl _ _ _ _ X14 Tryz.underlying33 rfl (by rw[infoM,hs1]) ?_)
      | (refine wpList_store_row rfl 33 (.tmp 9) (.tmp 51) rfl n9 cs1 rfl rfl _ _ X9 (by rw[infoM,hs1]) (by rw[hs1];exact hs0) ha1 ?_))
     have HS:Hid (RunI m l w (w.heap.size+1+1) n9 n10 n11 NB (i+1) _∧KeptB (fun q=>q=n9∨q=n10∨q=n11) wc _):=⟨HST.out true rfl,HKT.out _ ((((((KeptB.refl _ w5).setRow (n:=n9) (.inl (.inl rfl)) cs1).setCell (p:=⟨n10,i*4,none⟩) (.inl (.inr (.inl rfl))) (.bool T.done)).setCell (p:=⟨n10,i*4+1,none⟩) (.inl (.inr (.inl rfl))) (.slice a4 n4 c4)).setCell (p:=⟨n10,i*4+2,none⟩) (.inl (.inr (.inl rfl))) (J T.f)).setCell (p:=⟨n10,i*4+3,none⟩) (.inl (.inr (.inl rfl))) (.slice a5 n5 c5) |>.setCell (p:=⟨n11,i,none⟩) (.inl (.inr (.inr rfl))) (J 0))⟩
     clear HST HKT X9 X14 q
     obtain⟨y0,y1,y2,y3⟩:=X10.atQ (i:=i) (by omega)
     have y4:=X11.atE (i:=i) (by omega)
     have mk10:=X10.marksOf
     have mk11:=X11.marksOf
     have s10:=X10.lt
     have s11:=X11.lt
     have u0:¬n10=n11:=hd
     have u1:¬n11=n10:=fun e=>hd e.symm
     obtain⟨zz0,zz1,zz2,zz3,-,-,-,-,zz4⟩:=X15.four
     clear X10 X11 X15
     go_wp2_with fail
     exact⟨⟨i+1,by go_num,HS.out.1,HS.out.2⟩,by simp[intOf];omega⟩
    ·have q:(E==0)=false:=by simpa using h0
     have HS:Hid (RunI m l w (w.heap.size+1+1) n9 n10 n11 NB (i+1) _∧KeptB (fun q=>q=n9∨q=n10∨q=n11) wc _):=⟨HST.out false (by simpa using h0),HKT.out _ (((((KeptB.refl _ w5).setCell (p:=⟨n10,i*4,none⟩) (.inl (.inr (.inl rfl))) (.bool T.done)).setCell (p:=⟨n10,i*4+1,none⟩) (.inl (.inr (.inl rfl))) (.slice a4 n4 c4)).setCell (p:=⟨n10,i*4+2,none⟩) (.inl (.inr (.inl rfl))) (J T.f)).setCell (p:=⟨n10,i*4+3,none⟩) (.inl (.inr (.inl rfl))) (.slice a5 n5 c5) |>.setCell (p:=⟨n11,i,none⟩) (.inl (.inr (.inr rfl))) (J E))⟩
     clear HST HKT X9 X14 h0
     go_upto_region 14 with fail
     obtain⟨y0,y1,y2,y3⟩:=X10.atQ (i:=i) (by omega)
     have y4:=X11.atE (i:=i) (by omega)
     have mk10:=X10.marksOf
     have mk11:=X11.marksOf
     have s10:=X10.lt
     have s11:=X11.lt
     have u0:¬n10=n11:=hd
     have u1:¬n11=n10:=fun e=>hd e.symm
     obtain⟨zz0,zz1,zz2,zz3,-,-,-,-,zz4⟩:=X15.four
     clear X10 X11 X15
     go_wp2_with fail
     exact⟨⟨i+1,by go_num,HS.out.1,HS.out.2⟩,by simp[intOf];omega⟩
   ·obtain rfl:i=l.length:=by omega
    have X1:=X1L.out.kept HK.out (by omega)
    obtain⟨⟨cs1,X9,M9,O9⟩,⟨qs,X10,L10,F10⟩,⟨es,X11,L11,F11⟩,hbel,hlo,-⟩:=HR.out
    obtain⟨hs1,ha1⟩:=M9.size
    go_wp2_with (first
     | fail
     | (refine wpList_load_row rfl 33 (.tmp 9) rfl n9 rfl _ _ _ _ X9 Tryz.underlying33 rfl (by rw[infoM,hs1]) ?_)
     | (refine wpList_store_row rfl 33 (.tmp 4) (.tmp 61) rfl (w.heap.size+1) cs1 rfl rfl _ _ X1 (by rw[infoM,hs1]) (by rw[hs1];rfl) ha1 ?_))
    have l1:=Box.loadM (X1.setRow cs1) hs1
    have K9:KeptB (fun q=>q=w.heap.size+1) wr (wr.setRow (w.heap.size+1) cs1):=(KeptB.refl (fun q=>q=w.heap.size+1) wr).setRow (n:=w.heap.size+1) (.inl rfl) _
    rw[List.take_length] at M9 F10 F11
    have hX:=aBc HZ.out
    obtain⟨k1,k2⟩:=pF l m
    have hes:es=(rnM m l).2.2:=gY (by omega) (fun j hj=>F11 j (by omega))
    have hq1:(rnX m l).2.1.length=l.length:=by rw[hX];exact k1
    have hq2:(rnX m l).2.2.length=l.length:=by rw[hX];exact k2
    refine bodyPost_ret (v:=.tuple #[.agg cs1,.slice (some ⟨n10,0,none⟩) l.length l.length,.slice (some ⟨n11,0,none⟩) l.length l.length,J 0]) (by simp[results,Tryz.results23,asAddr,l1]) rfl ⟨cs1,some ⟨n10,0,none⟩,l.length,some ⟨n11,0,none⟩,l.length,by rw[hq1,hq2,HZ.out],?_,?_,?_,?_,?_,?_,?_⟩
    ·rw[hX];exact M9.kept K9 O9 (fun q hq=>by unfold RunBad;omega)
    ·have Y10:=X10.kept K9 (by omega)
     have Q:=Y10.qs (by unfold maxLen;omega)
     rw[L10] at Q
     rw[hq1,hX]
     refine⟨qs,Q,⟨by omega,fun j hj=>?_⟩⟩
     exact ((F10 j (by omega)).kept K9 (fun q hq=>by omega)).mono (by omega)
    ·have Y11:=X11.kept K9 (by omega)
     have Q:=Y11.sl (by unfold maxLen;omega)
     rw[L11] at Q
     rw[hq2,hX,←hes]
     exact Q
    ·exact O9.less (fun q hq=>by unfold RunBad;omega)
    ·exact bJ (by omega) _ _ _
    ·exact bJ (by omega) _ _ _
    ·exact aG (by omega) hbel _
theorem aBf {m:Mc}{l:List Hp}{cs:Array Value}{v:Value}{w:World}(hm:IsM w m cs)(hl:Hps w v l):Calls Tryz.prog 23 #[.agg cs,v] w fun e w'=>RunC m l w e w':=by
 by_cases h:chkM m=0
 ·by_cases hn:l.length≤120
  ·exact aCk hm hl h hn
  ·exact xZ hm hl h hn
 ·exact aBe hm hl h
theorem aCp:(((tab.set 100 4096).set 101 4632).set 102 20544).set 320 1=dvn:=rfl
def dvRow:Array Value:=#[J 3,J 0,J 1,J 1,J 1,.bool false,.slice none 0 0,J 1,J 0,J 0,J 0,J 0,.bool false,.slice none 0 0,J 1,J 0,J 0,J 0,J 0,.bool false,.slice none 0 0,J 1,J 0,J 0,J 0,J 0,.bool false,.slice none 0 0,J 3,J 0,J 1,J 1,J 1,.bool false,.slice none 0 0,J 2,J 0,J 0,J 0,J 0,.bool false,.slice none 0 0,J 3,J 0,J 1,J 1,J 1,.bool false,.slice none 0 0,J 2,J 0,J 0,J 0,J 0,.bool false,.slice none 0 0]
theorem dv_hps {w:World}{n:Nat}{t:TypeId}(h:Box w n t dvRow):Hps w (.slice (some ⟨n,0,none⟩) 8 8) dvL:=by
 refine⟨some ⟨n,0,none⟩,8,rfl,Nat.le_refl _,by decide,.inr ⟨n,0,rfl,h.lt,fun i hi=>?_⟩⟩
 have hi8:i<8:=hi
 have hS:Slc w (.slice none 0 0) []:=⟨Sl.nil _ none 0,none,0,rfl,Nat.zero_le _,Nat.zero_le _⟩
 have hcase:i=0∨i=1∨i=2∨i=3∨i=4∨i=5∨i=6∨i=7:=by omega
 rcases hcase with rfl|rfl|rfl|rfl|rfl|rfl|rfl|rfl
 all_goals exact⟨.slice none 0 0,h.cell _,h.cell _,h.cell _,h.cell _,h.cell _,h.cell _,h.cell _,hS⟩
theorem aBg:rnE dv0 dvL=0:=aBd vM (by decide)
def DrvA (g:Nat)(W:World)(s:Value)(wx:World):Prop:=
 ∃n4 k,s=.pointer (some ⟨n4,0,none⟩)∧Box wx n4 33 (rM (.slice (some ⟨g,0,none⟩) 512 512) 100 (.slice (some ⟨k,0,none⟩) 8 8) false 2 1 (.slice none 0 0) 40 0 1 false 0 41 0 0 false)∧Box wx k 3 zeroRegs∧W.heap.size≤n4∧W.heap.size≤k∧Below W.heap.size W wx
set_option maxRecDepth 10000 in
set_option maxHeartbeats 4000000 in
theorem aCt (w:World):Calls Tryz.prog 13 #[] w fun e w'=>e=.returned (.bool true)∧Below w.heap.size w w':=by
 go_enter Tryz.func13,Tryz.ntmps13
 go_wp2_with fail
 refine (uM _).mono ?_
 rintro e w1 ⟨g,rfl,hg1,hg,b1⟩
 have G1:Box w1 g 3 (intCells tab):=hg1
 have gl:=G1.lt
 go_upto_region 3 with fail
 have G1:Box (((w1.alloc (.cells #[.slice (some ⟨g,0,none⟩) 512 512] 24)).alloc (.cells (rB 2 1 (.slice none 0 0) 40 0 0 false 0 41 0 0 false) 31)).alloc (.cells #[J 3,J 0,J 1,J 1,J 1,.bool false,.slice none 0 0] 37)) g 3 (intCells tab):=((G1.past _).past _).past _
 have X1:=((Box.newAt (w:=w1) (n:=w1.heap.size) rfl 24 #[.slice (some ⟨g,0,none⟩) 512 512]).past (.cells (rB 2 1 (.slice none 0 0) 40 0 0 false 0 41 0 0 false) 31)).past (.cells #[J 3,J 0,J 1,J 1,J 1,.bool false,.slice none 0 0] 37)
 have X2:=(Box.newAt (w:=(w1.alloc (.cells #[.slice (some ⟨g,0,none⟩) 512 512] 24))) (n:=w1.heap.size+1) (by simp) 31 (rB 2 1 (.slice none 0 0) 40 0 0 false 0 41 0 0 false)).past (.cells #[J 3,J 0,J 1,J 1,J 1,.bool false,.slice none 0 0] 37)
 have X3:=Box.newAt (w:=((w1.alloc (.cells #[.slice (some ⟨g,0,none⟩) 512 512] 24)).alloc (.cells (rB 2 1 (.slice none 0 0) 40 0 0 false 0 41 0 0 false) 31))) (n:=w1.heap.size+1+1) (by simp) 37 #[J 3,J 0,J 1,J 1,J 1,.bool false,.slice none 0 0]
 have B1:Hid (Below w.heap.size w (((w1.alloc (.cells #[.slice (some ⟨g,0,none⟩) 512 512] 24)).alloc (.cells (rB 2 1 (.slice none 0 0) 40 0 0 false 0 41 0 0 false) 31)).alloc (.cells #[J 3,J 0,J 1,J 1,J 1,.bool false,.slice none 0 0] 37))):=aA (aA (aA b1 _) _) _
 have zA:w.heap.size≤w1.heap.size:=b1.size
 clear b1 hg1
 generalize (((w1.alloc (.cells #[.slice (some ⟨g,0,none⟩) 512 512] 24)).alloc (.cells (rB 2 1 (.slice none 0 0) 40 0 0 false 0 41 0 0 false) 31)).alloc (.cells #[J 3,J 0,J 1,J 1,J 1,.bool false,.slice none 0 0] 37))=W at *
 generalize w1.heap.size=A at *
 have c100:W.cell? ⟨g,100,none⟩=some (J (nth tab 100)):=(G1.cell 100).trans (cP (by rw[kZ];decide))
 have c101:W.cell? ⟨g,101,none⟩=some (J (nth tab 101)):=(G1.cell 101).trans (cP (by rw[kZ];decide))
 have c102:W.cell? ⟨g,102,none⟩=some (J (nth tab 102)):=(G1.cell 102).trans (cP (by rw[kZ];decide))
 have c320:W.cell? ⟨g,320,none⟩=some (J (nth tab 320)):=(G1.cell 320).trans (cP (by rw[kZ];decide))
 have fz:=G1.marksOf
 have gW:=G1.lt
 have nA:¬g=A:=by omega
 have nA1:¬g=A+1:=by omega
 have nB:¬A=g:=by omega
 have nB1:¬A+1=g:=by omega
 obtain⟨m0,-,s1⟩:=X1.one
 obtain⟨⟨u0,u1,u2,u3,u4,u5,u6,u7,u8,u9,u10,u11⟩,s2⟩:=X2.twelve
 have fz2:=X2.marksOf
 go_upto_region 8 with fail
 clear c100 c101 c102 c320 fz m0 s1 u0 u1 u2 u3 u4 u5 u6 u7 u8 u9 u10 u11 s2 fz2
 have G2:Box (((((W.setCell ⟨g,100,none⟩ (J 4096)).setCell ⟨g,101,none⟩ (J 4632)).setCell ⟨g,102,none⟩ (J 20544)).setCell ⟨g,320,none⟩ (J 1)).setCell ⟨A+1,5,none⟩ (J 1)) g 3 (intCells dvn):=by
  have q:=((((G1.set 100 (J 4096)).set 101 (J 4632)).set 102 (J 20544)).set 320 (J 1)).other (p:=⟨A+1,5,none⟩) (by dsimp only;omega) (J 1)
  rw[dH,dH,dH,dH,aCp] at q
  exact q
 have K2:KeptB (fun q=>q=g∨q=A+1) W (((((W.setCell ⟨g,100,none⟩ (J 4096)).setCell ⟨g,101,none⟩ (J 4632)).setCell ⟨g,102,none⟩ (J 20544)).setCell ⟨g,320,none⟩ (J 1)).setCell ⟨A+1,5,none⟩ (J 1)):=(((((KeptB.refl (fun q=>q=g∨q=A+1) W).setCell (p:=⟨g,100,none⟩) (.inl (.inl rfl)) _).setCell (p:=⟨g,101,none⟩) (.inl (.inl rfl)) _).setCell (p:=⟨g,102,none⟩) (.inl (.inl rfl)) _).setCell (p:=⟨g,320,none⟩) (.inl (.inl rfl)) _).setCell (p:=⟨A+1,5,none⟩) (.inl (.inr rfl)) _
 have Y1:=X1.kept K2 (by omega)
 have Y2:Box (((((W.setCell ⟨g,100,none⟩ (J 4096)).setCell ⟨g,101,none⟩ (J 4632)).setCell ⟨g,102,none⟩ (J 20544)).setCell ⟨g,320,none⟩ (J 1)).setCell ⟨A+1,5,none⟩ (J 1)) (A+1) 31 (rB 2 1 (.slice none 0 0) 40 0 1 false 0 41 0 0 false):=((((X2.other (p:=⟨g,100,none⟩) (by dsimp only;omega) (J 4096)).other (p:=⟨g,101,none⟩) (by dsimp only;omega) (J 4632)).other (p:=⟨g,102,none⟩) (by dsimp only;omega) (J 20544)).other (p:=⟨g,320,none⟩) (by dsimp only;omega) (J 1)).set 5 (J 1)
 have Y3:=X3.kept K2 (by omega)
 have B2:Hid (Below w.heap.size w (((((W.setCell ⟨g,100,none⟩ (J 4096)).setCell ⟨g,101,none⟩ (J 4632)).setCell ⟨g,102,none⟩ (J 20544)).setCell ⟨g,320,none⟩ (J 1)).setCell ⟨A+1,5,none⟩ (J 1))):=by
  show Below _ _ _
  (repeat (first|with_reducible exact B1.out|(with_reducible refine aI ?_ ?_ _;(focus (dsimp only;omega)))))
 have z8:W.heap.size≤(((((W.setCell ⟨g,100,none⟩ (J 4096)).setCell ⟨g,101,none⟩ (J 4632)).setCell ⟨g,102,none⟩ (J 20544)).setCell ⟨g,320,none⟩ (J 1)).setCell ⟨A+1,5,none⟩ (J 1)).heap.size:=K2.size
 have t2:A+1+1<W.heap.size:=X3.lt
 clear X1 X2 X3 G1 K2 B1
 generalize (((((W.setCell ⟨g,100,none⟩ (J 4096)).setCell ⟨g,101,none⟩ (J 4632)).setCell ⟨g,102,none⟩ (J 20544)).setCell ⟨g,320,none⟩ (J 1)).setCell ⟨A+1,5,none⟩ (J 1))=V at *
 obtain⟨m0,-,s1⟩:=Y1.one
 obtain⟨⟨u0,u1,u2,u3,u4,u5,u6,u7,u8,u9,u10,u11⟩,s2⟩:=Y2.twelve
 have hm8:=make8
 go_cut [4] from 30 to 34 (fun s wx=>DrvA g V s wx)
 case first=>
  refine wp_region_held_drew (S:=fun w'=>Below V.heap.size V w') (by kernel_rfl) (Below.drew (Below.refl _ _)) (fun hHeld=>?_)
  have CF:Cl (fun w'=>Below V.heap.size V w') _:=⟨fun wz hSz=>(Y1.keep hSz).one⟩
  refine tkH 0 rfl ?_
  have CF:Cl (fun w'=>Below V.heap.size V w') _:=⟨fun wz hSz=>(Y2.keep hSz).twelve⟩
  refine tkH 3 rfl ?_
  refine bZ (i:=1) (j:=5) (by kernel_rfl) (by rfl) (by rfl) (fun K hK=>?_) (fun K hK=>?_)
  ·go_simp
   refine hK.out _ _ (aA hHeld _) (fun hHeld2=>?_)
   clear hK K hHeld
   have hHeld:=hHeld2
   clear hHeld2
   refine tkH 2 rfl ?_
   refine tkH 4 rfl ?_
   refine aE (i:=5) (by kernel_rfl) (by rfl) (fun K hK=>?_)
   go_simp
   refine hK.out _ _ (aA hHeld _) (fun hHeld2=>?_)
   clear hK K hHeld
   have hHeld:=hHeld2
   clear hHeld2
   refine aE (i:=6) (by kernel_rfl) (by rfl) (fun K hK=>?_)
   refine aF rfl 33 (.tmp 4) (.tmp 34) rfl (V.heap.size+1) (rM (.slice (some ⟨g,0,none⟩) 512 512) 100 (.slice (some ⟨V.heap.size,0,none⟩) 8 8) false 2 1 (.slice none 0 0) 40 0 1 false 0 41 0 0 false) rfl rfl _ _ (Box.newAt (by simp) _ _) (by rw[infoM];rfl) rfl (by simp[Value.oneCell']) ?_
   refine hK.out _ _ (aG (by simp) hHeld _) (fun hHeld2=>?_)
   clear hK K
   simp only[Act.put]
   refine wpAnyH_done (by kernel_rfl) ?_ _
   go_wp2_with fail
   go_meet
   exact⟨V.heap.size+1,V.heap.size,rfl,Box.setRow (Box.newAt (by simp) _ _) _,Box.otherRow (Box.past (Box.newAt (w:=V.drew) rfl _ _) _) (show V.heap.size≠V.heap.size+1 by omega) _,by omega,by omega,hHeld2⟩
  ·go_simp
   refine hK.out _ _ (aA hHeld _) (fun hHeld2=>?_)
   clear hK K hHeld
   have hHeld:=hHeld2
   clear hHeld2
   refine aE (i:=1) (by kernel_rfl) (by rfl) (fun K hK=>?_)
   go_simp
   refine hK.out _ _ (aA hHeld _) (fun hHeld2=>?_)
   clear hK K hHeld
   have hHeld:=hHeld2
   clear hHeld2
   refine tkH 2 rfl ?_
   refine tkH 4 rfl ?_
   refine aE (i:=6) (by kernel_rfl) (by rfl) (fun K hK=>?_)
   refine aF rfl 33 (.tmp 4) (.tmp 34) rfl (V.heap.size) (rM (.slice (some ⟨g,0,none⟩) 512 512) 100 (.slice (some ⟨V.heap.size+1,0,none⟩) 8 8) false 2 1 (.slice none 0 0) 40 0 1 false 0 41 0 0 false) rfl rfl _ _ (Box.past (Box.newAt (w:=V.drew) rfl _ _) _) (by rw[infoM];rfl) rfl (by simp[Value.oneCell']) ?_
   refine hK.out _ _ (aG (by simp) hHeld _) (fun hHeld2=>?_)
   clear hK K
   simp only[Act.put]
   refine wpAnyH_done (by kernel_rfl) ?_ _
   go_wp2_with fail
   go_meet
   exact⟨V.heap.size,V.heap.size+1,rfl,Box.setRow (Box.past (Box.newAt (w:=V.drew) rfl _ _) _) _,Box.otherRow (Box.newAt (by simp) _ _) (show V.heap.size+1≠V.heap.size by omega) _,by omega,by omega,hHeld2⟩
 case rest=>
  obtain⟨n4,k,rfl,X4,XK,l4,lk,b4⟩:=hcut
  have G3:=G2.keep b4
  have Y3:=Y3.keep b4
  have B4:Hid (Below w.heap.size w wc):=aB B2.out b4
  clear m0 s1 u0 u1 u2 u3 u4 u5 u6 u7 u8 u9 u10 u11 s2 hm8 Y1 Y2 b4 B2 G2
  go_upto_region 10 with fail
  have X4:=X4.past (.cells #[J 1,J 0,J 0,J 0,J 0,.bool false,.slice none 0 0] 37)
  have XK:=XK.past (.cells #[J 1,J 0,J 0,J 0,J 0,.bool false,.slice none 0 0] 37)
  have G3:=G3.past (.cells #[J 1,J 0,J 0,J 0,J 0,.bool false,.slice none 0 0] 37)
  have Y3:=Y3.past (.cells #[J 1,J 0,J 0,J 0,J 0,.bool false,.slice none 0 0] 37)
  have X5:Box (wc.alloc (.cells #[J 1,J 0,J 0,J 0,J 0,.bool false,.slice none 0 0] 37)) wc.heap.size 37 #[J 1,J 0,J 0,J 0,J 0,.bool false,.slice none 0 0]:=Box.newAt rfl _ _
  have B5:Hid (Below w.heap.size w (wc.alloc (.cells #[J 1,J 0,J 0,J 0,J 0,.bool false,.slice none 0 0] 37))):=aA B4.out _
  have z5:w.heap.size≤wc.heap.size:=B4.out.size
  clear B4
  generalize (wc.alloc (.cells #[J 1,J 0,J 0,J 0,J 0,.bool false,.slice none 0 0] 37))=wD at *
  generalize wc.heap.size=n5 at *
  obtain⟨⟨i0,i1,i2,i3⟩,⟨j0,j1,j2,j3,j4,j5,j6,j7,j8,j9,j10,j11⟩,s0⟩:=X4.sixteen
  obtain⟨⟨k0,k1,k2,k3,k4,k5,k6⟩,sH⟩:=Y3.seven
  obtain⟨⟨l0,l1,l2,l3,l4',l5,l6⟩,sI⟩:=X5.seven
  go_wp2_with fail
  clear i0 i1 i2 i3 j0 j1 j2 j3 j4 j5 j6 j7 j8 j9 j10 j11 s0 k0 k1 k2 k3 k4 k5 k6 sH l0 l1 l2 l3 l4' l5 l6 sI
  have BD:Hid (Below wD.heap.size wD (wD.alloc (.cells dvRow 37))):=aA (Below.refl _ _) _
  have hM:IsM (wD.alloc (.cells dvRow 37)) dv0 (rM (.slice (some ⟨g,0,none⟩) 512 512) 100 (.slice (some ⟨k,0,none⟩) 8 8) false 2 1 (.slice none 0 0) 40 0 1 false 0 41 0 0 false):=
   ⟨some ⟨g,0,none⟩,512,512,some ⟨k,0,none⟩,8,8,none,0,0,rfl,Sl.keep (sl_tab G3 dv_len) BD.out,Sl.keep (bG XK nG rfl (by decide)) BD.out,Ls.nothing _⟩
  have hX:Box (wD.alloc (.cells dvRow 37)) wD.heap.size 37 dvRow:=Box.newAt rfl _ _
  refine (aBf (m:=dv0) (l:=dvL) hM (dv_hps hX)).mono ?_
  clear hM hX
  rintro e w7 ⟨cs1,a1,c1,a2,c2,rfl,hM,hT,hS,-,-,-,b7⟩
  have B7:Hid (Below w.heap.size w w7):=aB (aB B5.out BD.out) b7
  clear b7 B5 BD X4 XK G3 Y3 X5
  have hw:=aCn
  have hno:=aCo
  have hsd:=aCl
  have htd:=aCm
  have hgd:=qR dvL dv0 vM
  rw[aBg] at *
  rw[aBc aBg] at *
  obtain⟨⟨⟨zs,⟨p,r,d⟩,⟨mo,ba,l,op,oh,ot,st,fe,fp,fh,ft,lo⟩⟩,ts,es⟩,hR⟩:∃R,rnM dv0 dvL=R:=⟨_,rfl⟩
  rw[hR] at hM hT hS hw hno hsd htd hgd ⊢
  dsimp only at hM hT hS hw hno hsd htd hgd ⊢
  clear hR
  subst hsd
  subst hno
  have hz:zs.length=512:=(bF (bW hgd).1).1
  have hl8:ts.length=8:=by have:=congrArg List.length htd;simpa using this
  rw[hl8] at hT ⊢
  obtain⟨qs,hQ,hMn⟩:=hT
  have hq8:qs.length=8:=by rw[hMn.1,hl8]
  obtain⟨tb,tq,ht0,htl,ht⟩:∃tb tq,a1=some ⟨tb,tq,none⟩∧tb<w7.heap.size∧∀i,i<8→AtQ w7 tb (tq+i*4) (qth qs i):=by
   obtain⟨a',c',e',-,-,q⟩:=hQ
   simp only[Value.slice.injEq] at e'
   rcases q with q|⟨b',o',q,q2,q3⟩
   ·rw[q] at hq8;simp at hq8
   ·exact⟨b',o',by rw[e'.1,q],q2,fun i hi=>q3 i (by omega)⟩
  subst ht0
  have hth:∀i,i<8→(toth ts i).done=((ts.map (fun t=>(t.done,t.f)))[i]?.getD (false,0)).1∧(toth ts i).f=((ts.map (fun t=>(t.done,t.f)))[i]?.getD (false,0)).2:=fun i hi=>by
   unfold toth
   rw[List.getElem?_map,List.getElem?_eq_getElem (by omega)]
   exact⟨rfl,rfl⟩
  rw[htd] at hth
  have e0:=(ht 0 (by decide)).1
  have e4:=(ht 4 (by decide)).1
  have e6:=(ht 6 (by decide)).2.2.1
  rw[(hMn.2 0 (by omega)).done,(hth 0 (by decide)).1] at e0
  rw[(hMn.2 4 (by omega)).done,(hth 4 (by decide)).1] at e4
  rw[(hMn.2 6 (by omega)).f,(hth 6 (by decide)).2] at e6
  have e0:w7.cell? ⟨tb,tq,none⟩=some (.bool true):=e0
  have e4:w7.cell? ⟨tb,tq+16,none⟩=some (.bool true):=e4
  have e6:w7.cell? ⟨tb,tq+26,none⟩=some (J 3):=e6
  obtain⟨b1,m1,e1,b2,m2,e2,b3,m3,e3,rfl,s1,s2,s3⟩:=hM
  dsimp only at s1 s2 s3
  obtain⟨gb,go,gc,hsl,hgb,hgc⟩:=s1.open512 hz
  simp only[Value.slice.injEq] at hsl
  obtain⟨rfl,rfl,rfl⟩:=hsl
  have c328:=hgc 328 (by decide)
  rw[hw] at c328
  obtain⟨a3,k3,h3,-⟩:=s3
  simp only[Value.slice.injEq,List.length_nil] at h3
  obtain⟨-,rfl,-⟩:=h3
  have HS:Hid (Sl w7 (.slice a2 8 c2) [0,0,0,0,0,0,0,6]):=hS
  clear hS hQ hMn hth htd ht hgc hw hgd s2 s1
  have X6:=(Box.newAt (w:=w7) (n:=w7.heap.size) rfl 33 (rM (.slice (some ⟨gb,go,none⟩) 512 e1) p (.slice b2 m2 e2) d mo ba (.slice b3 0 e3) op oh ot st fe fp fh ft lo)).past (.cells #[J 0,J 0,J 0,J 0,J 0,J 0,J 0,J 6] 41)
  have XE:=Box.newAt (w:=(w7.alloc (.cells (rM (.slice (some ⟨gb,go,none⟩) 512 e1) p (.slice b2 m2 e2) d mo ba (.slice b3 0 e3) op oh ot st fe fp fh ft lo) 33))) (n:=w7.heap.size+1) (by simp) 41 #[J 0,J 0,J 0,J 0,J 0,J 0,J 0,J 6]
  have B9:Hid (Below w7.heap.size w7 ((w7.alloc (.cells (rM (.slice (some ⟨gb,go,none⟩) 512 e1) p (.slice b2 m2 e2) d mo ba (.slice b3 0 e3) op oh ot st fe fp fh ft lo) 33)).alloc (.cells #[J 0,J 0,J 0,J 0,J 0,J 0,J 0,J 6] 41))):=aA (aA (Below.refl _ _) _) _
  go_wp2_with fail
  refine (uN _ _ [0,0,0,0,0,0,0,6] [0,0,0,0,0,0,0,6] _ (HS.out.keep B9.out) (bG XE rfl rfl (by decide))).mono ?_
  rw[show decide (([0,0,0,0,0,0,0,6]:List Int)=[0,0,0,0,0,0,0,6])=true from by decide]
  rintro e w9 ⟨rfl,nz,rfl⟩
  have X6:=X6.drewN nz
  have BN:Hid (Below w7.heap.size w7 (((w7.alloc (.cells (rM (.slice (some ⟨gb,go,none⟩) 512 e1) p (.slice b2 m2 e2) d mo ba (.slice b3 0 e3) op oh ot st fe fp fh ft lo) 33)).alloc (.cells #[J 0,J 0,J 0,J 0,J 0,J 0,J 0,J 6] 41)).drewN nz)):=aH B9.out nz
  have e0:=((bcell BN.out).1 tb tq htl).trans e0
  have e4:=((bcell BN.out).1 tb (tq+16) htl).trans e4
  have e6:=((bcell BN.out).1 tb (tq+26) htl).trans e6
  have c328:=((bcell BN.out).1 gb (go+328) hgb).trans c328
  have BF:Hid (Below w.heap.size w (((w7.alloc (.cells (rM (.slice (some ⟨gb,go,none⟩) 512 e1) p (.slice b2 m2 e2) d mo ba (.slice b3 0 e3) op oh ot st fe fp fh ft lo) 33)).alloc (.cells #[J 0,J 0,J 0,J 0,J 0,J 0,J 0,J 6] 41)).drewN nz)):=aB B7.out BN.out
  have htl:tb<(((w7.alloc (.cells (rM (.slice (some ⟨gb,go,none⟩) 512 e1) p (.slice b2 m2 e2) d mo ba (.slice b3 0 e3) op oh ot st fe fp fh ft lo) 33)).alloc (.cells #[J 0,J 0,J 0,J 0,J 0,J 0,J 0,J 6] 41)).drewN nz).heap.size:=Nat.lt_of_lt_of_le htl BN.out.size
  have hgb:gb<(((w7.alloc (.cells (rM (.slice (some ⟨gb,go,none⟩) 512 e1) p (.slice b2 m2 e2) d mo ba (.slice b3 0 e3) op oh ot st fe fp fh ft lo) 33)).alloc (.cells #[J 0,J 0,J 0,J 0,J 0,J 0,J 0,J 6] 41)).drewN nz).heap.size:=Nat.lt_of_lt_of_le hgb BN.out.size
  clear XE HS B9 BN B7
  generalize ((w7.alloc (.cells (rM (.slice (some ⟨gb,go,none⟩) 512 e1) p (.slice b2 m2 e2) d mo ba (.slice b3 0 e3) op oh ot st fe fp fh ft lo) 33)).alloc (.cells #[J 0,J 0,J 0,J 0,J 0,J 0,J 0,J 6] 41)).drewN nz=wF at *
  generalize w7.heap.size=n6 at *
  obtain⟨⟨i0,i1,i2,i3⟩,⟨j0,j1,j2,j3,j4,j5,j6,j7,j8,j9,j10,j11⟩,s0⟩:=X6.sixteen
  clear X6
  go_wp2
  go_ret
  exact⟨rfl,BF.out⟩
end Go.Proofs.YthlhocneggcekaaGreat
