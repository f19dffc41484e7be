/-
  Laid together: Base, Equal, In, Mem, Entry, Entry2, Entry3, EntryMath, Blks.
-/
import Derived.Test.YthlhocneggcekaaGreatRows
import Derived.WalkKit
import Derived.WalkSpells
import Derived.WalkLawsBesides
import Derived.Below
import Derived.WalkSmall
import Derived.Deep.QuietTactic
import Derived.BigQuiet
import Derived.Deep.Draws
namespace Go.Proofs.YthlhocneggcekaaGreat
open Go.RowKit
abbrev J (z:Int):Value:=.int .i64 z
def nth (zs:List Int)(i:Nat):Int:=zs.getD i 0
abbrev rB (mo ba:Int)(v:Value)(op oh ot:Int)(st:Bool)(fe fp fh ft:Int)(lo:Bool):Array Value:=#[J mo,J ba,v,J op,J oh,J ot,.bool st,J fe,J fp,J fh,J ft,.bool lo]
abbrev rM (u:Value)(p:Int)(r:Value)(d:Bool)(mo ba:Int)(v:Value)(op oh ot:Int)(st:Bool)(fe fp fh ft:Int)(lo:Bool):Array Value:=#[u,J p,r,.bool d,J mo,J ba,v,J op,J oh,J ot,.bool st,J fe,J fp,J fh,J ft,.bool lo]
abbrev rS (u:Value)(p:Int)(r:List Int)(mo ba:Int)(v:Value)(op oh ot:Int)(st:Bool)(fe fp fh ft:Int)(lo:Bool):Array Value:=#[u,J p,J (nth r 0),J (nth r 1),J (nth r 2),J (nth r 3),J (nth r 4),J (nth r 5),J (nth r 6),J (nth r 7),J mo,J ba,v,J op,J oh,J ot,.bool st,J fe,J fp,J fh,J ft,.bool lo]
abbrev vz:Value:=.slice none 0 0
abbrev zB:Array Value:=#[J 0,J 0,.slice none 0 0,J 0,J 0,J 0,.bool false,J 0,J 0,J 0,J 0,.bool false]
abbrev zM:Array Value:=#[.slice none 0 0,J 0,.slice none 0 0,.bool false,J 0,J 0,.slice none 0 0,J 0,J 0,J 0,.bool false,J 0,J 0,J 0,J 0,.bool false]
abbrev zS:Array Value:=#[.slice none 0 0,J 0,J 0,J 0,J 0,J 0,J 0,J 0,J 0,J 0,J 0,J 0,.slice none 0 0,J 0,J 0,J 0,.bool false,J 0,J 0,J 0,J 0,.bool false]
abbrev zT:Array Value:=#[.bool false,.slice none 0 0,J 0,.slice none 0 0]
abbrev zH:Array Value:=#[J 0,.slice none 0 0,.bool false]
theorem getElem?_nth {zs:List Int}{i:Nat}(h:i<zs.length):zs[i]?=some (nth zs i):=by simp[nth,h]
def Sl (w:World)(v:Value)(zs:List Int):Prop:=
 ∃a cap,v=.slice a zs.length cap∧zs.length≤maxLen∧
  (zs=[]∨∃b o,a=some ⟨b,o,none⟩∧b<w.heap.size∧∀i,i<zs.length→w.cell? ⟨b,o+i,none⟩=some (J (nth zs i)))
theorem Sl.keep {w w':World}{v:Value}{zs:List Int}(h:Sl w v zs)(hb:Below w.heap.size w w'):Sl w' v zs:=by
 obtain⟨a,cap,rfl,hl,h⟩:=h
 refine⟨a,cap,rfl,hl,?_⟩
 rcases h with h|⟨b,o,rfl,hlt,hc⟩
 ·exact .inl h
 ·exact .inr ⟨b,o,rfl,Nat.lt_of_lt_of_le hlt hb.size,fun i hi=>by rw[hb.cell (p:=⟨b,o+i,none⟩) hlt];exact hc i hi⟩
theorem Sl.nil (w:World)(a:Option Addr)(cap:Nat):Sl w (.slice a 0 cap) []:=⟨a,cap,rfl,by simp[maxLen],.inl rfl⟩
theorem bG {w:World}{b n cap:Nat}{t:TypeId}{fr:Nat × Nat}{cs:Array Value}{zs:List Int}(hb:w.heap[b]?=some (.cells cs t fr))(hcs:cs.toList=zs.map (fun z=>J z))(hn:n=zs.length)(hm:zs.length≤maxLen):
  Sl w (.slice (some ⟨b,0,none⟩) n cap) zs:=by
 subst hn
 refine⟨_,cap,rfl,hm,.inr ⟨b,0,rfl,?_,fun i hi=>?_⟩⟩
 ·rcases Nat.lt_or_ge b w.heap.size with h|h
  ·exact h
  ·rw[Array.getElem?_eq_none h] at hb;exact absurd hb (by simp)
 ·rw[Nat.zero_add,cell_of_row w b i cs t fr hb,←Array.getElem?_toList,hcs,List.getElem?_map,List.getElem?_eq_getElem hi]
  simp[nth,hi]
theorem aY {w:World}{o:Obj}{n:Nat}(h:n=w.heap.size):(w.alloc o).heap[n]?=some o:=by subst h;exact heap_alloc_new w o
theorem bN {w:World}{o:Obj}{n:Nat}{x:Option Obj}(h:n<w.heap.size)(k:w.heap[n]?=x):(w.alloc o).heap[n]?=x:=by rw[heap_alloc_old w o h];exact k
theorem dD {w:World}{m n:Nat}{x:Option Obj}(k:w.heap[n]?=x):(w.drewN m).heap[n]?=x:=k
theorem aA {a w:World}(h:Below a.heap.size a w)(o:Obj):Below a.heap.size a (w.alloc o):=h.alloc h.size o
theorem aH {a w:World}(h:Below a.heap.size a w)(n:Nat):Below a.heap.size a (w.drewN n):=below_drewN h n
theorem aB {a b c:World}(h:Below a.heap.size a b)(k:Below b.heap.size b c):Below a.heap.size a c:=h.trans (k.mono h.size)
theorem bcell {W w1:World}(hb:Below W.heap.size W w1):(∀b o,b<W.heap.size→w1.cell? ⟨b,o,none⟩=W.cell? ⟨b,o,none⟩)∧(∀b o,b<W.heap.size→w1.frozen? ⟨b,o,none⟩=W.frozen? ⟨b,o,none⟩):=
 ⟨fun b o h=>hb.cell (p:=⟨b,o,none⟩) h,fun b o h=>hb.frozen (p:=⟨b,o,none⟩) h⟩
theorem aL {a b:Bool}(h:a=b):Ending.returned (.bool a)=.returned (.bool b):=by rw[h]
theorem aM {k:IntKind}{a b:Int}(h:a=b):Ending.returned (.int k a)=.returned (.int k b):=by rw[h]
theorem gY {xs ys:List Int}(hl:xs.length=ys.length)(h:∀i,i<xs.length→nth xs i=nth ys i):xs=ys:=by
 apply List.ext_getElem hl
 intro i h1 h2
 have:=h i h1
 simpa [nth,List.getD_eq_getElem?_getD,List.getElem?_eq_getElem h1,List.getElem?_eq_getElem h2] using this
theorem lA {xs ys:List Int}{i:Nat}(h:¬nth xs i=nth ys i):xs≠ys:=fun e=>h (by rw[e])
def Fresh (base:Nat)(v:Value):Prop:=∀k,v.ownBlock=some k→base≤k
theorem Fresh.mono {a b:Nat}{v:Value}(h:Fresh b v)(k:a≤b):Fresh a v:=fun n hn=>Nat.le_trans k (h n hn)
theorem Fresh.none (base n c:Nat):Fresh base (.slice none n c):=fun k hk=>by simp[Value.ownBlock] at hk
theorem Fresh.ne {base n:Nat}{v:Value}(h:Fresh base v)(k:n<base):v.ownBlock≠some n:=fun e=>absurd (h n e) (by omega)
theorem bJ {base g:Nat}(h:base≤g)(o n c:Nat):Fresh base (.slice (some ⟨g,o,none⟩) n c):=fun k hk=>by simp[Value.ownBlock] at hk;omega
theorem lB {xs ys:List Int}{k:Nat}(hl:xs.length=ys.length)(hk:¬k<xs.length)(h:∀j,j<k→nth xs j=nth ys j):decide (xs=ys)=true:=by
 simp only[decide_eq_true_eq];exact gY hl fun i hi=>h i (by omega)
set_option maxHeartbeats 1000000 in
theorem fH (v1 v2:Value)(xs ys:List Int)(w:World)(h1:Sl w v1 xs)(h2:Sl w v2 ys):
  Calls Tryz.prog 44 #[v1,v2] w fun e w'=>e=.returned (.bool (decide (xs=ys)))∧∃n,w'=w.drewN n:=by
 obtain⟨a1,c1,rfl,l1,h1⟩:=h1
 obtain⟨a2,c2,rfl,l2,h2⟩:=h2
 unfold maxLen at l1 l2
 by_cases hl:xs.length=ys.length
 ·have hne:((xs.length:Int) !=(ys.length:Int))=false:=by simp[hl]
  rcases h1 with rfl|⟨b1,o1,rfl,hb1,hc1⟩
  ·obtain rfl:ys=[]:=List.eq_nil_of_length_eq_zero hl.symm
   go_enter Tryz.func44,Tryz.ntmps44
   go_wp2
   go_loopw [5,13] (fun _ i w'=>i=J 0∧w'=w) (fun _ i _=>0)
   case atStart=>exact⟨rfl,rfl⟩
   case round=>
    obtain⟨rfl,rfl⟩:=hrel
    go_wp2
    go_ret
    exact⟨rfl,0,rfl⟩
  ·rcases h2 with rfl|⟨b2,o2,rfl,hb2,hc2⟩
   ·obtain rfl:xs=[]:=List.eq_nil_of_length_eq_zero hl
    go_enter Tryz.func44,Tryz.ntmps44
    go_wp2
    go_loopw [5,13] (fun _ i w'=>i=J 0∧w'=w) (fun _ i _=>0)
    case atStart=>exact⟨rfl,rfl⟩
    case round=>
     obtain⟨rfl,rfl⟩:=hrel
     go_wp2
     go_ret
     exact⟨rfl,0,rfl⟩
   have Hl:Hid (xs.length=ys.length):=hl
   have hle:(xs.length:Int)≤ys.length:=by omega
   have H1:=hc1
   have H2:=hc2
   clear hl hc1 hc2
   have HC1:Hid _:=H1
   have HC2:Hid _:=H2
   clear H1 H2
   go_enter Tryz.func44,Tryz.ntmps44
   go_wp2
   go_loopw [5,13] (fun _ i w'=>∃k:Nat,k≤xs.length∧i=J k∧(∀j,j<k→nth xs j=nth ys j)∧∃n,w'=w.drewN n) (fun _ i _=>xs.length-(intOf i).toNat)
   case atStart=>exact⟨0,Nat.zero_le _,rfl,fun j hj=>absurd hj (Nat.not_lt_zero _),0,rfl⟩
   case round=>
    obtain⟨k,hk,rfl,hpre,n,rfl⟩:=hrel
    have HP:Hid (∀j,j<k→nth xs j=nth ys j):=hpre
    clear hpre
    by_cases hlt:k<xs.length
    ·have g1:=HC1.out k hlt
     have g2:=HC2.out k (by have:=Hl.out;omega)
     have hlt1:(k:Int)<xs.length:=by omega
     have hlt2:(k:Int)<ys.length:=by omega
     by_cases hq:nth xs k=nth ys k
     ·have hb:(nth xs k !=nth ys k)=false:=by simp[hq]
      have HQ:Hid (nth xs k=nth ys k):=hq
      clear hq
      go_wp2
      go_quiet (fail)
      go_wp2
      refine⟨⟨k+1,by omega,by go_num,fun j hj=>?_,_,rfl⟩,by simp[intOf];omega⟩
      by_cases e:j=k
      ·rw[e];exact HQ.out
      ·exact HP.out j (by omega)
     ·have hb:(nth xs k !=nth ys k)=true:=by simp[hq]
      have HN:Hid (decide (xs=ys)=false):=by simpa [Hid] using lA hq
      clear hq
      go_wp2
      go_quiet (fail)
      go_wp2
      go_ret
      exact⟨aL HN.out.symm,n+nq,World.drewN_drewN _ _ _⟩
    ·have HD:Hid (decide (xs=ys)=true):=lB Hl.out hlt HP.out
     go_wp2
     go_ret
     exact⟨aL HD.out.symm,_,rfl⟩
 ·have hne:((xs.length:Int) !=(ys.length:Int))=true:=by simp;omega
  have hd:decide (xs=ys)=false:=by simp;intro e;exact hl (by rw[e])
  rw[hd]
  go_enter Tryz.func44,Tryz.ntmps44
  go_wp2
  go_ret
  exact⟨rfl,0,rfl⟩
def betweenB (lo hi z:Int):Bool:=decide (lo≤z∧z≤hi)
theorem dR {lo hi z:Int}(h:lo≤z∧z≤hi):betweenB lo hi z=true:=decide_eq_true h
theorem cH {lo hi z:Int}(h:¬(lo≤z∧z≤hi)):betweenB lo hi z=false:=decide_eq_false h
theorem aK {lo hi z:Int}(h:betweenB lo hi z=true):lo≤z∧z≤hi:=of_decide_eq_true h
theorem aD (z lo hi:Int)(w:World):Calls Tryz.prog 53 #[J z,J lo,J hi] w fun e w'=>e=.returned (.bool (betweenB lo hi z))∧w'=w:=by
 by_cases h1:lo≤z
 ·by_cases h2:z≤hi
  ·have:betweenB lo hi z=true:=by simp[betweenB,h1,h2]
   rw[this]
   go_enter Tryz.func53,Tryz.ntmps53
   go_wp2
   go_ret
   exact⟨rfl,rfl⟩
  ·have:betweenB lo hi z=false:=by simp[betweenB,h2]
   rw[this]
   go_enter Tryz.func53,Tryz.ntmps53
   go_wp2
   go_ret
   exact⟨rfl,rfl⟩
 ·have:betweenB lo hi z=false:=by simp[betweenB,h1]
  rw[this]
  go_enter Tryz.func53,Tryz.ntmps53
  go_wp2
  go_ret
  exact⟨rfl,rfl⟩
def wordB (z:Int):Bool:=decide (0≤z∧z≤65535)
def placeB (z:Int):Bool:=decide (0≤z∧z<512)
def chk (zs:List Int):Int:=if zs.length=512 then (if zs.all wordB then 0 else 2) else 3
theorem uO {zs:List Int}(h:¬zs.length=512):chk zs=3:=by simp[chk,h]
theorem oM {zs:List Int}(h:zs.length=512)(k:∀j,j<512→wordB (nth zs j)=true):chk zs=0:=by
 have:zs.all wordB=true:=by
  rw[List.all_eq_true]
  intro x hx
  obtain⟨i,hi,rfl⟩:=List.getElem_of_mem hx
  have:=k i (by omega)
  simpa [nth,hi] using this
 simp[chk,h,this]
theorem uP {zs:List Int}{j:Nat}(h:zs.length=512)(hj:j<512)(k:wordB (nth zs j)=false):chk zs=2:=by
 have:zs.all wordB=false:=by
  rw[List.all_eq_false]
  exact⟨zs[j],List.getElem_mem _,by simpa [nth,h,hj] using k⟩
 simp[chk,h,this]
theorem bF {zs:List Int}(h:chk zs=0):zs.length=512∧∀j,j<512→wordB (nth zs j)=true:=by
 unfold chk at h
 by_cases hl:zs.length=512
 ·refine⟨hl,fun j hj=>?_⟩
  by_cases ha:zs.all wordB=true
  ·rw[List.all_eq_true] at ha
   have:=ha zs[j] (List.getElem_mem _)
   simpa [nth,hl,hj] using this
  ·simp[hl,ha] at h
 ·simp[hl] at h
theorem eQ (z:Int)(w:World):Calls Tryz.prog 72 #[J z] w fun e w'=>e=.returned (.bool (wordB z))∧w'=w:=by
 by_cases h1:0≤z
 ·by_cases h2:z≤65535
  ·have:wordB z=true:=by simp[wordB,h1,h2]
   rw[this]
   go_enter Tryz.func72,Tryz.ntmps72
   go_wp2
   go_ret
   exact⟨rfl,rfl⟩
  ·have:wordB z=false:=by simp[wordB,h2]
   rw[this]
   go_enter Tryz.func72,Tryz.ntmps72
   go_wp2
   go_ret
   exact⟨rfl,rfl⟩
 ·have:wordB z=false:=by simp[wordB,h1]
  rw[this]
  go_enter Tryz.func72,Tryz.ntmps72
  go_wp2
  go_ret
  exact⟨rfl,rfl⟩
theorem eE (z:Int)(w:World):Calls Tryz.prog 172 #[J z] w fun e w'=>e=.returned (.bool (placeB z))∧w'=w:=by
 by_cases h1:0≤z
 ·by_cases h2:z<512
  ·have:placeB z=true:=by simp[placeB,h1,h2]
   rw[this]
   go_enter Tryz.func172,Tryz.ntmps172
   go_wp2
   go_ret
   exact⟨rfl,rfl⟩
  ·have:placeB z=false:=by simp[placeB,h2]
   rw[this]
   go_enter Tryz.func172,Tryz.ntmps172
   go_wp2
   go_ret
   exact⟨rfl,rfl⟩
 ·have:placeB z=false:=by simp[placeB,h1]
  rw[this]
  go_enter Tryz.func172,Tryz.ntmps172
  go_wp2
  go_ret
  exact⟨rfl,rfl⟩
set_option maxHeartbeats 1000000 in
theorem cE (v:Value)(zs:List Int)(w:World)(h:Sl w v zs):
  Calls Tryz.prog 41 #[.agg #[v]] w fun e w'=>e=.returned (J (chk zs))∧Below w.heap.size w w':=by
 obtain⟨a,cap,rfl,hl,h⟩:=h
 unfold maxLen at hl
 by_cases hn:zs.length=512
 ·rcases h with rfl|⟨b,o,rfl,hb,hc⟩
  ·simp at hn
  have HC:Hid (∀i,i<512→w.cell? ⟨b,o+i,none⟩=some (J (nth zs i))):=fun i hi=>hc i (by omega)
  have HN:Hid (zs.length=512):=hn
  rw[hn]
  clear hc hl hn
  go_enter Tryz.func41,Tryz.ntmps41
  go_wp2
  go_loop [12] (fun i=>∃k:Nat,k≤512∧i=J k∧∀j,j<k→wordB (nth zs j)=true) (fun i=>512-(intOf i).toNat)
  case atStart=>exact⟨0,Nat.zero_le _,rfl,fun j hj=>absurd hj (Nat.not_lt_zero _)⟩
  case round=>
   obtain⟨k,hk,rfl,hpre⟩:=hrel
   have HP:Hid (∀j,j<k→wordB (nth zs j)=true):=hpre
   clear hpre
   by_cases hlt:k<512
   ·have g:=HC.out k hlt
    have hlt1:(k:Int)<512:=by omega
    by_cases hq:wordB (nth zs k)=true
    ·go_wp2_with (go_at_call 72;refine (eQ _ _).mono ?_;rintro e w' ⟨rfl,rfl⟩)
     refine⟨⟨k+1,by omega,by go_num,fun j hj=>?_⟩,by simp[intOf];omega⟩
     by_cases e:j=k
     ·rw[e];exact hq
     ·exact HP.out j (by omega)
    ·have hq':wordB (nth zs k)=false:=by simpa using hq
     have HD:Hid (chk zs=2):=uP HN.out hlt hq'
     clear hq
     go_wp2_with (go_at_call 72;refine (eQ _ _).mono ?_;rintro e w' ⟨rfl,rfl⟩)
     go_ret
     exact⟨aM HD.out.symm,aA (Below.refl _ _) _⟩
   ·have HD:Hid (chk zs=0):=oM HN.out fun j hj=>HP.out j (by omega)
    have hge:¬(k:Int)<512:=by omega
    go_wp2
    go_ret
    exact⟨aM HD.out.symm,aA (Below.refl _ _) _⟩
 ·have hne:((zs.length:Int) !=512)=true:=by simp;omega
  rw[uO hn]
  go_enter Tryz.func41,Tryz.ntmps41
  go_wp2
  go_ret
  exact⟨rfl,aA (Below.refl _ _) _⟩
theorem bI (z:Int):betweenB 0 65535 z=wordB z:=rfl
set_option maxHeartbeats 1000000 in
theorem iQ (v:Value)(zs:List Int)(w:World)(h:Sl w v zs):
  Calls Tryz.prog 37 #[.agg #[v]] w fun e w'=>e=.returned (J (chk zs))∧Below w.heap.size w w':=by
 obtain⟨a,cap,rfl,hl,h⟩:=h
 unfold maxLen at hl
 by_cases hn:zs.length=512
 ·rcases h with rfl|⟨b,o,rfl,hb,hc⟩
  ·simp at hn
  have HC:Hid (∀i,i<512→w.cell? ⟨b,o+i,none⟩=some (J (nth zs i))):=fun i hi=>hc i (by omega)
  have HN:Hid (zs.length=512):=hn
  rw[hn]
  clear hc hl hn
  go_enter Tryz.func37,Tryz.ntmps37
  go_wp2
  go_loop [12] (fun i=>∃k:Nat,k≤512∧i=J k∧∀j,j<k→wordB (nth zs j)=true) (fun i=>512-(intOf i).toNat)
  case atStart=>exact⟨0,Nat.zero_le _,rfl,fun j hj=>absurd hj (Nat.not_lt_zero _)⟩
  case round=>
   obtain⟨k,hk,rfl,hpre⟩:=hrel
   have HP:Hid (∀j,j<k→wordB (nth zs j)=true):=hpre
   clear hpre
   by_cases hlt:k<512
   ·have g:=HC.out k hlt
    have hlt1:(k:Int)<512:=by omega
    by_cases hq:wordB (nth zs k)=true
    ·go_wp2_with (go_at_call 53;refine (aD _ _ _ _).mono ?_;rintro e w' ⟨rfl,rfl⟩;rw[bI])
     refine⟨⟨k+1,by omega,by go_num,fun j hj=>?_⟩,by simp[intOf];omega⟩
     by_cases e:j=k
     ·rw[e];exact hq
     ·exact HP.out j (by omega)
    ·have hq':wordB (nth zs k)=false:=by simpa using hq
     have HD:Hid (chk zs=2):=uP HN.out hlt hq'
     clear hq
     go_wp2_with (go_at_call 53;refine (aD _ _ _ _).mono ?_;rintro e w' ⟨rfl,rfl⟩;rw[bI])
     go_ret
     exact⟨aM HD.out.symm,aA (Below.refl _ _) _⟩
   ·have HD:Hid (chk zs=0):=oM HN.out fun j hj=>HP.out j (by omega)
    have hge:¬(k:Int)<512:=by omega
    go_wp2
    go_ret
    exact⟨aM HD.out.symm,aA (Below.refl _ _) _⟩
 ·have hne:((zs.length:Int) !=512)=true:=by simp;omega
  rw[uO hn]
  go_enter Tryz.func37,Tryz.ntmps37
  go_wp2
  go_ret
  exact⟨rfl,aA (Below.refl _ _) _⟩
def pageB (z:Int):Bool:=decide (0≤z∧z<64)
theorem dS (z:Int)(w:World):Calls Tryz.prog 145 #[J z] w fun e w'=>e=.returned (.bool (wordB z))∧w'=w:=by
 by_cases h1:0≤z
 ·by_cases h2:z≤65535
  ·have:wordB z=true:=by simp[wordB,h1,h2]
   rw[this]
   go_enter Tryz.func145,Tryz.ntmps145
   go_wp2
   go_ret
   exact⟨rfl,rfl⟩
  ·have:wordB z=false:=by simp[wordB,h2]
   rw[this]
   go_enter Tryz.func145,Tryz.ntmps145
   go_wp2
   go_ret
   exact⟨rfl,rfl⟩
 ·have:wordB z=false:=by simp[wordB,h1]
  rw[this]
  go_enter Tryz.func145,Tryz.ntmps145
  go_wp2
  go_ret
  exact⟨rfl,rfl⟩
theorem lC (z:Int)(w:World)(h0:0≤z)(h1:z≤65535):Calls Tryz.prog 147 #[J z] w fun e w'=>e=.returned (J (z/16%64))∧w'=w:=by
 go_enter Tryz.func147,Tryz.ntmps147
 go_wp2
 go_ret
 exact⟨rfl,rfl⟩
def bitB (z:Int)(k:Nat):Bool:=decide (z/2 ^ k%2=1)
def anyB (z:Int)(zs:List Int):Bool:=zs.any (fun k=>bitB z k.toNat)
theorem cF (n:Int)(h0:0≤n)(h1:n<2 ^ 63):IntKind.i64.wrap n=n:=by rw[IntKind.wrap_i64];omega
theorem pZ (x:Int)(h0:0≤x)(h1:x≤65535):bits .and .i64 x 1=x%2:=
 bits_mask .i64 63 (by decide) cF 1 (by decide) x h0 (by omega)
theorem sV (z:Int)(s:Nat)(h0:0≤z)(h1:z≤65535):0≤z/2 ^ s∧z/2 ^ s≤65535:=by
 have hp:(0:Int)<2 ^ s:=Int.pow_pos (by decide)
 exact⟨Int.ediv_nonneg h0 (Int.le_of_lt hp),Int.le_trans (Int.ediv_le_self _ h0) h1⟩
theorem bit_eq (z:Int)(s:Nat)(h0:0≤z)(h1:z≤65535):(bits .and .i64 (z/2 ^ s) 1==1)=bitB z s:=by
 rw[pZ _ (sV z s h0 h1).1 (sV z s h0 h1).2,bitB]
 rfl
theorem aBn {z:Int}{zs:List Int}{i:Nat}(hi:i<zs.length)(h:bitB z (nth zs i).toNat=true):anyB z zs=true:=by
 rw[anyB,List.any_eq_true]
 refine⟨zs[i],List.getElem_mem _,?_⟩
 simpa [nth,hi] using h
theorem vN {z:Int}{zs:List Int}(h:∀i,i<zs.length→bitB z (nth zs i).toNat=false):anyB z zs=false:=by
 rw[anyB,List.any_eq_false]
 intro x hx
 obtain⟨i,hi,rfl⟩:=List.getElem_of_mem hx
 have:=h i hi
 simp only[nth,List.getD_eq_getElem?_getD,List.getElem?_eq_getElem hi,Option.getD_some] at this
 simp[this]
set_option maxHeartbeats 1000000 in
theorem dZ (z:Int)(v:Value)(zs:List Int)(w:World)(h0:0≤z)(h1:z≤65535)(h:Sl w v zs)(hz:∀i,i<zs.length→0≤nth zs i∧nth zs i<16):
  Calls Tryz.prog 146 #[J z,v] w fun e w'=>e=.returned (.bool (anyB z zs))∧w'=w:=by
 obtain⟨a,cap,rfl,hl,h⟩:=h
 unfold maxLen at hl
 rcases h with rfl|⟨b,o,rfl,hb,hc⟩
 ·go_enter Tryz.func146,Tryz.ntmps146
  go_wp2
  go_loop [9] (fun i=>i=J 0) (fun i=>0)
  case atStart=>rfl
  case round=>
   subst hrel
   go_wp2
   go_ret
   exact⟨rfl,rfl⟩
 ·have HC:Hid (∀i,i<zs.length→w.cell? ⟨b,o+i,none⟩=some (J (nth zs i))):=hc
  have HZ:Hid (∀i,i<zs.length→0≤nth zs i∧nth zs i<16):=hz
  clear hc hz
  go_enter Tryz.func146,Tryz.ntmps146
  go_wp2
  go_loop [9] (fun i=>∃k:Nat,k≤zs.length∧i=J k∧∀j,j<k→bitB z (nth zs j).toNat=false) (fun i=>zs.length-(intOf i).toNat)
  case atStart=>exact⟨0,Nat.zero_le _,rfl,fun j hj=>absurd hj (Nat.not_lt_zero _)⟩
  case round=>
   obtain⟨k,hk,rfl,hpre⟩:=hrel
   have HP:Hid (∀j,j<k→bitB z (nth zs j).toNat=false):=hpre
   clear hpre
   by_cases hlt:k<zs.length
   ·have g:=HC.out k hlt
    obtain⟨g0,g1⟩:=HZ.out k hlt
    have hlt1:(k:Int)<zs.length:=by omega
    have hq:=bit_eq z (nth zs k).toNat h0 h1
    cases hb:bitB z (nth zs k).toNat
    ·have HB:Hid (bitB z (nth zs k).toNat=false):=hb
     rw[hb] at hq
     clear hb
     go_wp2
     refine⟨⟨k+1,by omega,by go_num,fun j hj=>?_⟩,by simp[intOf];omega⟩
     by_cases e:j=k
     ·rw[e];exact HB.out
     ·exact HP.out j (by omega)
    ·have HD:Hid (anyB z zs=true):=aBn hlt hb
     rw[hb] at hq
     clear hb
     go_wp2
     go_ret
     exact⟨aL HD.out.symm,rfl⟩
   ·have HD:Hid (anyB z zs=false):=vN fun j hj=>HP.out j (by omega)
    have hge:¬(k:Int)<zs.length:=by omega
    go_wp2
    go_ret
    exact⟨aL HD.out.symm,rfl⟩
def formE (v r x l:Bool)(p:Int):Bool:=if v then (r || !x)&&(l || !r) else !r&&!x&&!l&&decide (p=0)
def formC (v a:Bool)(p:Int):Bool:=if v then !a || decide (p=0) else !a&&decide (p=0)
set_option maxHeartbeats 1000000 in
theorem qA (v r x l:Bool)(p:Int)(w:World):
  Calls Tryz.prog 175 #[.agg #[.bool v,.bool r,.bool x,.bool l,J p]] w fun e w'=>e=.returned (.bool (formE v r x l p))∧∃o,w'=w.alloc o:=by
 cases v
 ·by_cases hp:p=0
  ·subst hp
   cases r <;> cases x <;> cases l
   all_goals
    go_enter Tryz.func175,Tryz.ntmps175
    go_wp2
    go_ret
    exact⟨rfl,_,rfl⟩
  ·have hq:(p==0)=false:=by simpa using hp
   have HF:Hid (formE false r x l p=false):=by simp[formE,hp,Hid]
   cases r <;> cases x <;> cases l
   all_goals
    go_enter Tryz.func175,Tryz.ntmps175
    go_wp2
    go_ret
    exact⟨aL HF.out.symm,_,rfl⟩
 ·cases r <;> cases x <;> cases l
  all_goals
   go_enter Tryz.func175,Tryz.ntmps175
   go_wp2
   go_ret
   exact⟨rfl,_,rfl⟩
set_option maxHeartbeats 1000000 in
theorem mQ (v a:Bool)(p:Int)(w:World):
  Calls Tryz.prog 148 #[.agg #[.bool v,.bool a,J p]] w fun e w'=>e=.returned (.bool (formC v a p))∧∃o,w'=w.alloc o:=by
 by_cases hp:p=0
 ·subst hp
  cases v <;> cases a
  all_goals
   go_enter Tryz.func148,Tryz.ntmps148
   go_wp2
   go_ret
   exact⟨rfl,_,rfl⟩
 ·have hq:(p==0)=false:=by simpa using hp
  have HF:Hid (formC v a p=(v&&!a)):=by cases v <;> cases a <;> simp[formC,hp,Hid]
  cases v <;> cases a
  all_goals
   go_enter Tryz.func148,Tryz.ntmps148
   go_wp2
   go_ret
   exact⟨aL HF.out.symm,_,rfl⟩
def okE (z:Int):Bool:=wordB z&&(!bitB z 0 || (!anyB z [10,11,12,13,14,15]&&formE true (bitB z 1) (bitB z 2) (bitB z 3) (z/16%64)))
def vE (z:Int):Bool:=okE z&&bitB z 0
def rE (z:Int):Bool:=vE z&&bitB z 1
def xE (z:Int):Bool:=vE z&&bitB z 2
def lE (z:Int):Bool:=vE z&&bitB z 3
def pE (z:Int):Int:=if vE z then z/16%64 else 0
def okC (z:Int):Bool:=wordB z&&(!bitB z 0 || (!anyB z [2,3,10,11,12,13,14,15]&&formC true (bitB z 1) (z/16%64)))
def vC (z:Int):Bool:=okC z&&bitB z 0
def aC (z:Int):Bool:=vC z&&bitB z 1
def pC (z:Int):Int:=if vC z then z/16%64 else 0
theorem eZ (z:Int)(k:Nat):anyB z [(k:Int)]=bitB z k:=by simp[anyB]
set_option maxHeartbeats 2000000 in
theorem vO (z:Int)(w:World):
  Calls Tryz.prog 173 #[J z] w fun e w'=>e=.returned (.tuple #[.agg #[.bool (vE z),.bool (rE z),.bool (xE z),.bool (lE z),J (pE z)],.bool (okE z)])∧Below w.heap.size w w':=by
 cases hw:wordB z
 ·have ho:okE z=false:=by simp[okE,hw]
  have hv:vE z=false:=by simp[vE,ho]
  rw[ho,hv,show rE z=false by simp[rE,hv],show xE z=false by simp[xE,hv],show lE z=false by simp[lE,hv],show pE z=0 by simp[pE,hv]]
  go_enter Tryz.func173,Tryz.ntmps173
  go_wp2_with fail
  refine (dS _ _).mono ?_
  rintro e w1 ⟨rfl,rfl⟩
  rw[hw]
  go_wp2
  refine bodyPost_ret (v:=.tuple #[.agg #[.bool false,.bool false,.bool false,.bool false,J 0],.bool false]) (by simp[results,Tryz.results173,go_sem]) rfl ⟨rfl,?_⟩
  exact aA (Below.refl _ _) _
 ·obtain⟨h0,h1⟩:0≤z∧z≤65535:=by simpa [wordB] using hw
  cases hb:bitB z 0
  ·have ho:okE z=true:=by simp[okE,hw,hb]
   have hv:vE z=false:=by simp[vE,hb]
   rw[ho,hv,show rE z=false by simp[rE,hv],show xE z=false by simp[xE,hv],show lE z=false by simp[lE,hv],show pE z=0 by simp[pE,hv]]
   go_enter Tryz.func173,Tryz.ntmps173
   go_wp2_with fail
   refine (dS _ _).mono ?_
   rintro e w1 ⟨rfl,rfl⟩
   rw[hw]
   go_wp2_with fail
   refine (dZ _ _ [0] _ h0 h1 (bG (by repeat (first|(refine aY ?_;simp;done)|(refine bN ?_ ?_;· (simp;try omega)))) rfl rfl (by simp[maxLen])) (by decide)).mono ?_
   rintro e w1 ⟨rfl,rfl⟩
   rw[show anyB z [0]=false from (eZ z 0).trans hb]
   go_wp2
   refine bodyPost_ret (v:=.tuple #[.agg #[.bool false,.bool false,.bool false,.bool false,J 0],.bool true]) (by simp[results,Tryz.results173,go_sem]) rfl ⟨rfl,?_⟩
   exact aA (aA (Below.refl _ _) _) _
  ·have goal:∀hi fo:Bool,anyB z [10,11,12,13,14,15]=hi→formE true (bitB z 1) (bitB z 2) (bitB z 3) (z/16%64)=fo→
     Calls Tryz.prog 173 #[J z] w fun e w'=>e=.returned (.tuple #[.agg #[.bool (!hi&&fo),.bool ((!hi&&fo)&&bitB z 1),.bool ((!hi&&fo)&&bitB z 2),.bool ((!hi&&fo)&&bitB z 3),J (if !hi&&fo then z/16%64 else 0)],.bool (!hi&&fo)])∧Below w.heap.size w w':=by
    intro hi fo hhi hfo
    go_enter Tryz.func173,Tryz.ntmps173
    go_wp2_with fail
    refine (dS _ _).mono ?_
    rintro e w1 ⟨rfl,rfl⟩
    rw[hw]
    go_wp2_with fail
    refine (dZ _ _ [0] _ h0 h1 (bG (by repeat (first|(refine aY ?_;simp;done)|(refine bN ?_ ?_;· (simp;try omega)))) rfl rfl (by simp[maxLen])) (by decide)).mono ?_
    rintro e w1 ⟨rfl,rfl⟩
    rw[show anyB z [0]=true from (eZ z 0).trans hb]
    go_wp2_with fail
    refine (dZ _ _ [1] _ h0 h1 (bG (by repeat (first|(refine aY ?_;simp;done)|(refine bN ?_ ?_;· (simp;try omega)))) rfl rfl (by simp[maxLen])) (by decide)).mono ?_
    rintro e w1 ⟨rfl,rfl⟩
    rw[show anyB z [1]=bitB z 1 from eZ z 1]
    go_wp2_with fail
    refine (dZ _ _ [2] _ h0 h1 (bG (by repeat (first|(refine aY ?_;simp;done)|(refine bN ?_ ?_;· (simp;try omega)))) rfl rfl (by simp[maxLen])) (by decide)).mono ?_
    rintro e w1 ⟨rfl,rfl⟩
    rw[show anyB z [2]=bitB z 2 from eZ z 2]
    go_wp2_with fail
    refine (dZ _ _ [3] _ h0 h1 (bG (by repeat (first|(refine aY ?_;simp;done)|(refine bN ?_ ?_;· (simp;try omega)))) rfl rfl (by simp[maxLen])) (by decide)).mono ?_
    rintro e w1 ⟨rfl,rfl⟩
    rw[show anyB z [3]=bitB z 3 from eZ z 3]
    go_wp2_with fail
    refine (lC _ _ h0 h1).mono ?_
    rintro e w1 ⟨rfl,rfl⟩
    go_wp2_with fail
    refine (dZ _ _ [10,11,12,13,14,15] _ h0 h1 (bG (by repeat (first|(refine aY ?_;simp;done)|(refine bN ?_ ?_;· (simp;try omega)))) rfl rfl (by simp[maxLen])) (by decide)).mono ?_
    rintro e w1 ⟨rfl,rfl⟩
    rw[hhi]
    cases hi
    ·go_wp2_with fail
     refine (qA _ _ _ _ _ _).mono ?_
     rintro e w1 ⟨rfl,o1,rfl⟩
     rw[hfo]
     cases fo
     ·go_wp2
      refine bodyPost_ret (v:=.tuple #[.agg #[.bool false,.bool false,.bool false,.bool false,J 0],.bool false]) (by simp[results,Tryz.results173,go_sem]) rfl ⟨rfl,?_⟩
      repeat (first|exact Below.refl _ _|refine aA ?_ _)
     ·go_wp2
      refine bodyPost_ret (v:=.tuple #[.agg #[.bool true,.bool (bitB z 1),.bool (bitB z 2),.bool (bitB z 3),J (z/16%64)],.bool true]) (by simp[results,Tryz.results173,go_sem]) rfl ⟨rfl,?_⟩
      repeat (first|exact Below.refl _ _|refine aA ?_ _)
    ·go_wp2
     refine bodyPost_ret (v:=.tuple #[.agg #[.bool false,.bool false,.bool false,.bool false,J 0],.bool false]) (by simp[results,Tryz.results173,go_sem]) rfl ⟨rfl,?_⟩
     repeat (first|exact Below.refl _ _|refine aA ?_ _)
   have ho:okE z=(!anyB z [10,11,12,13,14,15]&&formE true (bitB z 1) (bitB z 2) (bitB z 3) (z/16%64)):=by simp[okE,hw,hb]
   have hv:vE z=okE z:=by simp[vE,hb]
   have:=goal _ _ rfl rfl
   rw[←ho] at this
   rw[rE,xE,lE,pE,hv]
   exact this
set_option maxHeartbeats 2000000 in
theorem jS (z:Int)(w:World):
  Calls Tryz.prog 122 #[J z] w fun e w'=>e=.returned (.tuple #[.agg #[.bool (vC z),.bool (aC z),J (pC z)],.bool (okC z)])∧Below w.heap.size w w':=by
 cases hw:wordB z
 ·have ho:okC z=false:=by simp[okC,hw]
  have hv:vC z=false:=by simp[vC,ho]
  rw[ho,hv,show aC z=false by simp[aC,hv],show pC z=0 by simp[pC,hv]]
  go_enter Tryz.func122,Tryz.ntmps122
  go_wp2_with fail
  refine (dS _ _).mono ?_
  rintro e w1 ⟨rfl,rfl⟩
  rw[hw]
  go_wp2
  refine bodyPost_ret (v:=.tuple #[.agg #[.bool false,.bool false,J 0],.bool false]) (by simp[results,Tryz.results122,go_sem]) rfl ⟨rfl,?_⟩
  exact aA (Below.refl _ _) _
 ·obtain⟨h0,h1⟩:0≤z∧z≤65535:=by simpa [wordB] using hw
  cases hb:bitB z 0
  ·have ho:okC z=true:=by simp[okC,hw,hb]
   have hv:vC z=false:=by simp[vC,hb]
   rw[ho,hv,show aC z=false by simp[aC,hv],show pC z=0 by simp[pC,hv]]
   go_enter Tryz.func122,Tryz.ntmps122
   go_wp2_with fail
   refine (dS _ _).mono ?_
   rintro e w1 ⟨rfl,rfl⟩
   rw[hw]
   go_wp2_with fail
   refine (dZ _ _ [0] _ h0 h1 (bG (by repeat (first|(refine aY ?_;simp;done)|(refine bN ?_ ?_;· (simp;try omega)))) rfl rfl (by simp[maxLen])) (by decide)).mono ?_
   rintro e w1 ⟨rfl,rfl⟩
   rw[show anyB z [0]=false from (eZ z 0).trans hb]
   go_wp2
   refine bodyPost_ret (v:=.tuple #[.agg #[.bool false,.bool false,J 0],.bool true]) (by simp[results,Tryz.results122,go_sem]) rfl ⟨rfl,?_⟩
   exact aA (aA (Below.refl _ _) _) _
  ·have goal:∀hi fo:Bool,anyB z [2,3,10,11,12,13,14,15]=hi→formC true (bitB z 1) (z/16%64)=fo→
     Calls Tryz.prog 122 #[J z] w fun e w'=>e=.returned (.tuple #[.agg #[.bool (!hi&&fo),.bool ((!hi&&fo)&&bitB z 1),J (if !hi&&fo then z/16%64 else 0)],.bool (!hi&&fo)])∧Below w.heap.size w w':=by
    intro hi fo hhi hfo
    go_enter Tryz.func122,Tryz.ntmps122
    go_wp2_with fail
    refine (dS _ _).mono ?_
    rintro e w1 ⟨rfl,rfl⟩
    rw[hw]
    go_wp2_with fail
    refine (dZ _ _ [0] _ h0 h1 (bG (by repeat (first|(refine aY ?_;simp;done)|(refine bN ?_ ?_;· (simp;try omega)))) rfl rfl (by simp[maxLen])) (by decide)).mono ?_
    rintro e w1 ⟨rfl,rfl⟩
    rw[show anyB z [0]=true from (eZ z 0).trans hb]
    go_wp2_with fail
    refine (dZ _ _ [1] _ h0 h1 (bG (by repeat (first|(refine aY ?_;simp;done)|(refine bN ?_ ?_;· (simp;try omega)))) rfl rfl (by simp[maxLen])) (by decide)).mono ?_
    rintro e w1 ⟨rfl,rfl⟩
    rw[show anyB z [1]=bitB z 1 from eZ z 1]
    go_wp2_with fail
    refine (lC _ _ h0 h1).mono ?_
    rintro e w1 ⟨rfl,rfl⟩
    go_wp2_with fail
    refine (dZ _ _ [2,3,10,11,12,13,14,15] _ h0 h1 (bG (by repeat (first|(refine aY ?_;simp;done)|(refine bN ?_ ?_;· (simp;try omega)))) rfl rfl (by simp[maxLen])) (by decide)).mono ?_
    rintro e w1 ⟨rfl,rfl⟩
    rw[hhi]
    cases hi
    ·go_wp2_with fail
     refine (mQ _ _ _ _).mono ?_
     rintro e w1 ⟨rfl,o1,rfl⟩
     rw[hfo]
     cases fo
     ·go_wp2
      refine bodyPost_ret (v:=.tuple #[.agg #[.bool false,.bool false,J 0],.bool false]) (by simp[results,Tryz.results122,go_sem]) rfl ⟨rfl,?_⟩
      repeat (first|exact Below.refl _ _|refine aA ?_ _)
     ·go_wp2
      refine bodyPost_ret (v:=.tuple #[.agg #[.bool true,.bool (bitB z 1),J (z/16%64)],.bool true]) (by simp[results,Tryz.results122,go_sem]) rfl ⟨rfl,?_⟩
      repeat (first|exact Below.refl _ _|refine aA ?_ _)
    ·go_wp2
     refine bodyPost_ret (v:=.tuple #[.agg #[.bool false,.bool false,J 0],.bool false]) (by simp[results,Tryz.results122,go_sem]) rfl ⟨rfl,?_⟩
     repeat (first|exact Below.refl _ _|refine aA ?_ _)
   have ho:okC z=(!anyB z [2,3,10,11,12,13,14,15]&&formC true (bitB z 1) (z/16%64)):=by simp[okC,hw,hb]
   have hv:vC z=okC z:=by simp[vC,hb]
   have:=goal _ _ rfl rfl
   rw[←ho] at this
   rw[aC,pC,hv]
   exact this
theorem yG (z:Int)(h0:0≤z)(h1:z≤65535):anyB z [10,11,12,13,14,15]=decide (1024≤z):=by
 rw[Bool.eq_iff_iff]
 simp[anyB,bitB]
 omega
theorem qB (z:Int)(h0:0≤z)(h1:z≤65535):anyB z [2,3,10,11,12,13,14,15]=(bitB z 2 || bitB z 3 || decide (1024≤z)):=by
 rw[Bool.eq_iff_iff]
 simp[anyB,bitB]
 omega
def Blk (w:World)(n:Nat)(cs:Array Value):Prop:=∃t fr,w.heap[n]?=some (.cells cs t fr)
theorem Blk.lt {w:World}{n:Nat}{cs:Array Value}(h:Blk w n cs):n<w.heap.size:=by
 obtain⟨t,fr,h⟩:=h
 rcases Nat.lt_or_ge n w.heap.size with k|k
 ·exact k
 ·rw[Array.getElem?_eq_none k] at h;exact absurd h (by simp)
theorem Blk.keep {w w':World}{n:Nat}{cs:Array Value}(h:Blk w n cs)(hb:Below w.heap.size w w'):Blk w' n cs:=by
 have hl:=h.lt
 obtain⟨t,fr,h⟩:=h
 exact⟨t,fr,by rw[hb.block n hl];exact h⟩
theorem Blk.new (w:World)(cs:Array Value)(t:TypeId)(fr:Nat × Nat):Blk (w.alloc (.cells cs t fr)) w.heap.size cs:=⟨t,fr,aY rfl⟩
theorem Blk.newAt {w:World}{n:Nat}(h:n=w.heap.size)(cs:Array Value)(t:TypeId)(fr:Nat × Nat):Blk (w.alloc (.cells cs t fr)) n cs:=⟨t,fr,aY h⟩
theorem Blk.past {w:World}{n:Nat}{cs:Array Value}(h:Blk w n cs)(o:Obj):Blk (w.alloc o) n cs:=h.keep (aA (Below.refl _ _) _)
theorem Blk.cell {w:World}{n:Nat}{cs:Array Value}(h:Blk w n cs)(i:Nat):w.cell? ⟨n,i,none⟩=cs[i]?:=by
 obtain⟨t,fr,h⟩:=h
 exact cell_of_row w n i cs t fr h
theorem Blk.three {w:World}{n:Nat}{a b c:Value}(h:Blk w n #[a,b,c]):w.cell? ⟨n,0,none⟩=some a∧w.cell? ⟨n,1,none⟩=some b∧w.cell? ⟨n,2,none⟩=some c:=
 ⟨h.cell 0,h.cell 1,h.cell 2⟩
theorem Blk.five {w:World}{n:Nat}{a b c d e:Value}(h:Blk w n #[a,b,c,d,e]):
  w.cell? ⟨n,0,none⟩=some a∧w.cell? ⟨n,1,none⟩=some b∧w.cell? ⟨n,2,none⟩=some c∧w.cell? ⟨n,3,none⟩=some d∧w.cell? ⟨n,4,none⟩=some e:=
 ⟨h.cell 0,h.cell 1,h.cell 2,h.cell 3,h.cell 4⟩
theorem aV {a w:World}{n:Nat}(hp:a.heap.size≤n)(h:Below a.heap.size a w)(u0 u1 u2 u3 u4:Value):
  Below a.heap.size a (((((w.setCell ⟨n,0,none⟩ u0).setCell ⟨n,1,none⟩ u1).setCell ⟨n,2,none⟩ u2).setCell ⟨n,3,none⟩ u3).setCell ⟨n,4,none⟩ u4):=
 ((((h.setCell (p:=⟨n,0,none⟩) hp u0).setCell (p:=⟨n,1,none⟩) hp u1).setCell (p:=⟨n,2,none⟩) hp u2).setCell (p:=⟨n,3,none⟩) hp u3).setCell (p:=⟨n,4,none⟩) hp u4
theorem aI {a w:World}{p:Addr}(hp:a.heap.size≤p.block)(h:Below a.heap.size a w)(u:Value):Below a.heap.size a (w.setCell p u):=h.setCell hp u
theorem lD {a w:World}(h:Below a.heap.size a w):Below a.heap.size a w.drew:=h.drew
theorem qC {w:World}{n:Nat}{t:TypeId}{a0 a1 a2 a3 a4:Value}(h:w.heap[n]?=some (.cells #[a0,a1,a2,a3,a4] t (0,0)))(u0 u1 u2 u3 u4:Value):
  Blk (((((w.setCell ⟨n,0,none⟩ u0).setCell ⟨n,1,none⟩ u1).setCell ⟨n,2,none⟩ u2).setCell ⟨n,3,none⟩ u3).setCell ⟨n,4,none⟩ u4) n #[u0,u1,u2,u3,u4]:=by
 have h0:=heap_setCell_same w n 0 _ t u0 h
 have h1:=heap_setCell_same _ n 1 _ t u1 h0
 have h2:=heap_setCell_same _ n 2 _ t u2 h1
 have h3:=heap_setCell_same _ n 3 _ t u3 h2
 have h4:=heap_setCell_same _ n 4 _ t u4 h3
 exact⟨t,(0,0),h4⟩
theorem jT {W w1:World}{n:Nat}{x:Option Obj}(hb:Below W.heap.size W w1)(hl:n<W.heap.size)(h:W.heap[n]?=x):w1.heap[n]?=x:=by rw[hb.block n hl];exact h
end Go.Proofs.YthlhocneggcekaaGreat
