/-
  Laid together: DmaMath, HeldMath, DoHeld, MachMath, MIs, HartR.
-/
import Derived.Test.YthlhocneggcekaaGreatD6
import Derived.Deep.RegionHeld
namespace Go.Proofs.YthlhocneggcekaaGreat
open Go.RowKit
abbrev Tc:=Int × Int × Int × Bool × Int
def tth (l:List Tc)(i:Nat):Tc:=l.getD i (0,0,0,false,0)
theorem uX {l:List Tc}{i:Nat}(h:i<l.length):tth l i=l[i]:=by simp[tth,h]
def needA (wr:Bool)(n:Int):Int:=if wr=true then n else 0
def hasW (a n:Int):Bool:=decide (0≤a∧a≤512-n)
def ckA (d a n:Int)(wr:Bool)(ds:List Int):Int:=
 if 1≤n∧n≤20 then (if (0≤d∧d≤7)∧hasW a n=true then (if (ds.length:Int)=needA wr n then (if ds.all wordB=true then 0 else 2) else 3) else 4) else 1
def doE (zs:List Int)(b:Br)(d a n:Int)(wr:Bool)(ds:List Int):Int:=if bothB zs b=0 then ckA d a n wr ds else bothB zs b
theorem lV {d a n:Int}{wr:Bool}{ds:List Int}(h:ckA d a n wr ds=0):(1≤n∧n≤20)∧(0≤d∧d≤7)∧(0≤a∧a≤512-n)∧(ds.length:Int)=needA wr n∧ds.all wordB=true:=by
 unfold ckA at h
 by_cases h1:1≤n∧n≤20
 ·rw[if_pos h1] at h
  by_cases h2:(0≤d∧d≤7)∧hasW a n=true
  ·rw[if_pos h2] at h
   by_cases h3:(ds.length:Int)=needA wr n
   ·rw[if_pos h3] at h
    by_cases h4:ds.all wordB=true
    ·exact⟨h1,h2.1,by simpa [hasW] using h2.2,h3,h4⟩
    ·rw[if_neg h4] at h;exact absurd h (by decide)
   ·rw[if_neg h3] at h;exact absurd h (by decide)
  ·rw[if_neg h2] at h;exact absurd h (by decide)
 ·rw[if_neg h1] at h;exact absurd h (by decide)
theorem pA {zs:List Int}{b:Br}{d a n:Int}{wr:Bool}{ds:List Int}(h:doE zs b d a n wr ds=0):chk zs=0∧chkB b=0∧ckA d a n wr ds=0:=by
 unfold doE at h
 by_cases hb:bothB zs b=0
 ·rw[if_pos hb] at h;exact⟨(bL hb).1,(bL hb).2,h⟩
 ·rw[if_neg hb] at h;exact absurd h hb
theorem zL {zs:List Int}{b:Br}{d a n:Int}{wr:Bool}{ds:List Int}(h1:chk zs=0)(h2:chkB b=0)(h3:ckA d a n wr ds=0):doE zs b d a n wr ds=0:=by
 rw[doE,if_pos (dW h1 h2),h3]
structure St where
 zs:List Int
 b:Br
 dat:List Int
 tch:List Tc
def plc (k:Int)(x:Nat):Int:=k*8+((x%8:Nat):Int)
theorem plc_in {k:Int}(x:Nat)(h:0≤k∧k≤63):0≤plc k x∧plc k x<512:=by unfold plc;omega
def wdM (wr:Bool)(ds:List Int)(o:Nat)(k:Int)(x:Nat)(zs:List Int):List Int:=if wr=true then zs.set (plc k x).toNat (nth ds (x-o)) else zs
def wd (d:Int)(wr:Bool)(ds:List Int)(o:Nat)(k:Int)(x:Nat)(s:St):St:=
 ⟨wdM wr ds o k x s.zs,s.b,if wr=true then s.dat else s.dat++[nth s.zs (plc k x).toNat],s.tch++[(d,(x:Int),plc k x,wr,nth (wdM wr ds o k x s.zs) (plc k x).toNat)]⟩
def wds (d:Int)(wr:Bool)(ds:List Int)(o:Nat)(k:Int):Nat→Nat→St→St
 | 0,_,s=>s
 | m+1,x,s=>wds d wr ds o k m (x+1) (wd d wr ds o k x s)
def runW (d:Int)(wr:Bool)(ds:List Int)(o:Nat):Nat→Nat→Int→St→St × Int
 | 0,_,_,s=>(s,0)
 | m+1,x,k,s=>
  if x=o∨x%8=0 then
   (if (goT s.zs s.b d ((x/8:Nat):Int) wr).2.2=0 then runW d wr ds o m (x+1) (goT s.zs s.b d ((x/8:Nat):Int) wr).2.1 (wd d wr ds o (goT s.zs s.b d ((x/8:Nat):Int) wr).2.1 x ⟨s.zs,(goT s.zs s.b d ((x/8:Nat):Int) wr).1,s.dat,s.tch⟩)
   else (⟨tlM s.zs (goT s.zs s.b d ((x/8:Nat):Int) wr).1 (goT s.zs s.b d ((x/8:Nat):Int) wr).2.2 d ((x/8:Nat):Int) wr,tlB s.zs (goT s.zs s.b d ((x/8:Nat):Int) wr).1 (goT s.zs s.b d ((x/8:Nat):Int) wr).2.2 d ((x/8:Nat):Int),s.dat,s.tch⟩,(goT s.zs s.b d ((x/8:Nat):Int) wr).2.2))
  else runW d wr ds o m (x+1) k (wd d wr ds o k x s)
def doR (zs:List Int)(b:Br)(d a n:Int)(wr:Bool)(ds:List Int):St × Int:=
 if doE zs b d a n wr ds=0 then runW d wr ds a.toNat n.toNat a.toNat 0 ⟨zs,b,[],[]⟩ else (⟨[],B0,[],[]⟩,0)
theorem vY (d:Int)(wr:Bool)(ds:List Int)(o x:Nat)(k:Int)(s:St):runW d wr ds o 0 x k s=(s,0):=rfl
theorem jY {d:Int}{wr:Bool}{ds:List Int}{o m x:Nat}{k k':Int}{s:St}{c:Br}(hx:x=o∨x%8=0)(hg:goT s.zs s.b d ((x/8:Nat):Int) wr=(c,k',0)):
  runW d wr ds o (m+1) x k s=runW d wr ds o m (x+1) k' (wd d wr ds o k' x ⟨s.zs,c,s.dat,s.tch⟩):=by
 rw[runW,if_pos hx,hg,if_pos rfl]
theorem iJ {d:Int}{wr:Bool}{ds:List Int}{o m x:Nat}{k k' f:Int}{s:St}{c:Br}(hx:x=o∨x%8=0)(hg:goT s.zs s.b d ((x/8:Nat):Int) wr=(c,k',f))(hf:¬f=0):
  runW d wr ds o (m+1) x k s=(⟨tlM s.zs c f d ((x/8:Nat):Int) wr,tlB s.zs c f d ((x/8:Nat):Int),s.dat,s.tch⟩,f):=by
 rw[runW,if_pos hx,hg,if_neg hf]
theorem jZ {d:Int}{wr:Bool}{ds:List Int}{o m x:Nat}{k:Int}{s:St}(hx:¬(x=o∨x%8=0)):
  runW d wr ds o (m+1) x k s=runW d wr ds o m (x+1) k (wd d wr ds o k x s):=by
 rw[runW,if_neg hx]
theorem lW {d:Int}{wr:Bool}{ds:List Int}{o:Nat}{k:Int}:∀(j m x:Nat) (s:St),(∀i,i<j→¬(x+i=o∨(x+i)%8=0))→
  runW d wr ds o (j+m) x k s=runW d wr ds o m (x+j) k (wds d wr ds o k j x s)
 | 0,m,x,s,_=>by rw[Nat.zero_add,Nat.add_zero];rfl
 | j+1,m,x,s,h=>by
  rw[show j+1+m=(j+m)+1 by omega,jZ (by simpa using h 0 (by omega)),lW j m (x+1) _ (fun i hi=>by have:=h (i+1) (by omega);rw[show x+1+i=x+(i+1) by omega];exact this),show x+1+j=x+(j+1) by omega]
  rfl
theorem zP {d:Int}{wr:Bool}{ds:List Int}{o m x:Nat}{k k':Int}{s:St}{c:Br}(hm:0<m)(ho:o≤x)(hx:x=o∨x%8=0)(hg:goT s.zs s.b d ((x/8:Nat):Int) wr=(c,k',0)):
  runW d wr ds o m x k s=runW d wr ds o (m-min m (8-x%8)) (x+min m (8-x%8)) k' (wds d wr ds o k' (min m (8-x%8)) x ⟨s.zs,c,s.dat,s.tch⟩):=by
 obtain⟨j,hj⟩:∃j,min m (8-x%8)=j+1:=⟨min m (8-x%8)-1,by omega⟩
 obtain⟨r,hr⟩:∃r,m=j+r+1:=⟨m-(j+1),by omega⟩
 rw[hj]
 subst hr
 rw[jY hx hg,lW j r (x+1) _ (fun i hi=>by omega),show j+r+1-(j+1)=r by omega,show x+1+j=x+(j+1) by omega]
 rfl
theorem aBw {d:Int}{wr:Bool}{ds:List Int}{o m x:Nat}{s:St}(h:m=0∨x=o∨x%8=0)(k k2:Int):runW d wr ds o m x k s=runW d wr ds o m x k2 s:=by
 cases m with
 | zero=>rfl
 | succ m=>
  have hx:x=o∨x%8=0:=by rcases h with h|h;omega;exact h
  rw[runW,runW,if_pos hx,if_pos hx]
def GoodS (s:St):Prop:=chk s.zs=0∧chkB s.b=0
theorem zQ {zs ds:List Int}{wr:Bool}{o x:Nat}{k:Int}(h:chk zs=0)(hw:wr=true→wordB (nth ds (x-o))=true):chk (wdM wr ds o k x zs)=0:=by
 unfold wdM
 cases wr
 ·exact h
 ·rw[if_pos rfl];exact oO h (hw rfl)
theorem iX {d:Int}{wr:Bool}{ds:List Int}{o x:Nat}{k:Int}{s:St}(h:GoodS s)(hw:wr=true→wordB (nth ds (x-o))=true):GoodS (wd d wr ds o k x s):=⟨zQ h.1 hw,h.2⟩
theorem iY {ds:List Int}(h:ds.all wordB=true){i:Nat}(hi:i<ds.length):wordB (nth ds i)=true:=by
 rw[List.all_eq_true] at h
 rw[nth,List.getD_eq_getElem?_getD,List.getElem?_eq_getElem hi]
 exact h _ (List.getElem_mem hi)
theorem qO {d:Int}{wr:Bool}{ds:List Int}{o:Nat}{k:Int}:∀(j x:Nat) (s:St),GoodS s→(∀i,i<j→wr=true→wordB (nth ds (x+i-o))=true)→GoodS (wds d wr ds o k j x s)
 | 0,_,_,h,_=>h
 | j+1,x,s,h,hw=>qO j (x+1) _ (iX h (hw 0 (by omega))) (fun i hi=>by have:=hw (i+1) (by omega);rw[show x+1+i-o=x+(i+1)-o by omega];exact this)
theorem qP {d:Int}{wr:Bool}{ds:List Int}{o:Nat}{k:Int}:∀(j x:Nat) (s:St),wds d wr ds o k (j+1) x s=wd d wr ds o k (x+j) (wds d wr ds o k j x s)
 | 0,_,_=>rfl
 | j+1,x,s=>by
  rw[wds,qP j (x+1),show x+1+j=x+(j+1) by omega]
  rfl
theorem uY {d:Int}{wr:Bool}{ds:List Int}{o:Nat}{k:Int}:∀(j x:Nat) (s:St),(wds d wr ds o k j x s).tch.length=s.tch.length+j
 | 0,_,_=>rfl
 | j+1,x,s=>by rw[wds,uY j];simp[wd];omega
theorem qQ {d:Int}{wr:Bool}{ds:List Int}{o:Nat}{k:Int}:∀(j x:Nat) (s:St),(wds d wr ds o k j x s).dat.length=s.dat.length+(if wr=true then 0 else j)
 | 0,_,_=>by simp[wds]
 | j+1,x,s=>by rw[wds,qQ j];cases wr <;> simp[wd];omega
def rep (zs ds:List Int)(T:List Tc):Nat→List Int
 | 0=>zs
 | j+1=>if (tth T j).2.2.2.1=true then (rep zs ds T j).set (tth T j).2.2.1.toNat (nth ds j) else rep zs ds T j
theorem lX {T:List Tc}{t:Tc}{j:Nat}(h:j<T.length):tth (T++[t]) j=tth T j:=by simp[tth,List.getElem?_append_left h]
theorem lY (T:List Tc)(t:Tc):tth (T++[t]) T.length=t:=by simp[tth]
theorem lZ {zs ds:List Int}{T:List Tc}{t:Tc}:∀j,j≤T.length→rep zs ds (T++[t]) j=rep zs ds T j
 | 0,_=>rfl
 | j+1,h=>by rw[rep,rep,lX (by omega),lZ j (by omega)]
theorem zU (zs ds:List Int)(T:List Tc)(t:Tc):rep zs ds (T++[t]) (T.length+1)=if t.2.2.2.1=true then (rep zs ds T T.length).set t.2.2.1.toNat (nth ds T.length) else rep zs ds T T.length:=by
 simp only[rep,lY,lZ T.length (Nat.le_refl _)]
structure HeldI (d:Int)(wr:Bool)(ds:List Int)(o:Nat)(zs:List Int)(s:St):Prop where
 mem:s.zs=rep zs ds s.tch s.tch.length
 each:∀j,j<s.tch.length→∃p:Int,(0≤p∧p<512)∧tth s.tch j=(d,((o+j:Nat):Int),p,wr,nth (rep zs ds s.tch (j+1)) p.toNat)
 read:wr=false→s.dat.length=s.tch.length∧∀j,j<s.tch.length→nth s.dat j=(tth s.tch j).2.2.2.2
 writ:wr=true→s.dat=[]
theorem HeldI.start (d:Int)(wr:Bool)(ds:List Int)(o:Nat)(zs:List Int)(b:Br):HeldI d wr ds o zs ⟨zs,b,[],[]⟩:=
 ⟨rfl,fun _ hj=>absurd hj (Nat.not_lt_zero _),fun _=>⟨rfl,fun _ hj=>absurd hj (Nat.not_lt_zero _)⟩,fun _=>rfl⟩
theorem HeldI.bridge {d:Int}{wr:Bool}{ds:List Int}{o:Nat}{zs:List Int}{s:St}(h:HeldI d wr ds o zs s)(c:Br):HeldI d wr ds o zs ⟨s.zs,c,s.dat,s.tch⟩:=⟨h.mem,h.each,h.read,h.writ⟩
theorem HeldI.word {d:Int}{wr:Bool}{ds:List Int}{o:Nat}{zs:List Int}{s:St}(h:HeldI d wr ds o zs s){k:Int}(hk:0≤k∧k≤63){x:Nat}(hx:x=o+s.tch.length):HeldI d wr ds o zs (wd d wr ds o k x s):=by
 subst hx
 obtain⟨h1,h2,h3,h4⟩:=h
 have hlen:(wd d wr ds o k (o+s.tch.length) s).tch.length=s.tch.length+1:=by simp[wd]
 have hz:(wd d wr ds o k (o+s.tch.length) s).zs=rep zs ds (wd d wr ds o k (o+s.tch.length) s).tch (s.tch.length+1):=by
  show wdM wr ds o k (o+s.tch.length) s.zs=_
  simp only[wd]
  rw[zU,←h1,wdM,show o+s.tch.length-o=s.tch.length by omega]
 refine⟨by rw[hlen];exact hz,fun j hj=>?_,fun e=>?_,fun e=>?_⟩
 ·rw[hlen] at hj
  by_cases hjj:j<s.tch.length
  ·obtain⟨p,hp,e⟩:=h2 j hjj
   refine⟨p,hp,?_⟩
   simp only[wd]
   rw[lX hjj,lZ _ (by omega),e]
  ·obtain rfl:j=s.tch.length:=by omega
   refine⟨plc k (o+s.tch.length),plc_in _ hk,?_⟩
   rw[←hz]
   simp only[wd]
   rw[lY]
 ·subst e
  obtain⟨g1,g2⟩:=h3 rfl
  refine⟨by rw[hlen];simp[wd,g1],fun j hj=>?_⟩
  rw[hlen] at hj
  simp only[wd,Bool.false_eq_true,if_false]
  by_cases hjj:j<s.tch.length
  ·rw[lX hjj,←g2 j hjj]
   simp[nth,List.getElem?_append_left (show j<s.dat.length by omega)]
  ·obtain rfl:j=s.tch.length:=by omega
   rw[lY]
   simp[nth,←g1,wdM]
 ·subst e
  simp only[wd,if_true]
  exact h4 rfl
theorem pB {x:Nat}(h:x<512):0≤((x/8:Nat):Int)∧((x/8:Nat):Int)≤63:=by omega
theorem gS {d:Int}{wr:Bool}{ds:List Int}{o:Nat}{zs:List Int}{b0:Br}(hd:0≤d∧d≤7):∀(m x:Nat) (k:Int) (s s':St) (f:Int),
  HeldI d wr ds o zs s→GoodS s→x=o+s.tch.length→(0≤k∧k≤63)→x+m≤512→(wr=true→∀i,i<s.tch.length+m→wordB (nth ds i)=true)→(∃l,s.b=b0.with l)→runW d wr ds o m x k s=(s',f)→
  (f=0∧HeldI d wr ds o zs s'∧GoodS s'∧s'.tch.length=s.tch.length+m∧∃l,s'.b=b0.with l)∨
  (∃s1 p,(1≤f∧f≤5)∧(0≤p∧p≤63)∧HeldI d wr ds o zs s1∧GoodS s1∧s1.tch.length<s.tch.length+m∧(∃l,s1.b=b0.with l)∧tlE s1.zs s1.b f d p=0∧s'=⟨tlM s1.zs s1.b f d p wr,tlB s1.zs s1.b f d p,s1.dat,s1.tch⟩)
 | 0,x,k,s,s',f,hH,hG,hx,hk,hm,hw,hl,e=>by
  rw[vY,Prod.mk.injEq] at e
  obtain⟨rfl,rfl⟩:=e
  exact .inl ⟨rfl,hH,hG,rfl,hl⟩
 | m+1,x,k,s,s',f,hH,hG,hx,hk,hm,hw,hl,e=>by
  have hwx:wr=true→wordB (nth ds (x-o))=true:=fun h=>hw h (x-o) (by omega)
  have hlen:∀k c,(wd d wr ds o k x ⟨s.zs,c,s.dat,s.tch⟩).tch.length=s.tch.length+1:=fun k c=>by simp[wd]
  by_cases hp:x=o∨x%8=0
  ·obtain⟨⟨c,k',f'⟩,hg⟩:∃R,goT s.zs s.b d ((x/8:Nat):Int) wr=R:=⟨_,rfl⟩
   have hth:thE s.zs s.b d ((x/8:Nat):Int)=0:=tA hG.1 hG.2 hd (pB (by omega))
   obtain⟨g1,g2,g3,g4,l',g5⟩:=lQ hth hg
   by_cases hf:f'=0
   ·subst hf
    rw[jY hp hg] at e
    have hl2:∃l,c=b0.with l:=by
     obtain⟨l,hl⟩:=hl
     exact⟨l',by rw[g5,hl];rfl⟩
    have:=gS (b0:=b0) hd m (x+1) k' _ s' f ((hH.bridge c).word g3 hx) (iX ⟨hG.1,g1⟩ hwx) (by rw[hlen];omega) g3 (by omega) (fun h i hi=>hw h i (by rw[hlen] at hi;omega)) hl2 e
    rw[hlen,show s.tch.length+1+m=s.tch.length+(m+1) by omega] at this
    exact this
   ·have hc:c=s.b:=g2 hf
    subst hc
    rw[iJ hp hg hf,Prod.mk.injEq] at e
    obtain⟨rfl,rfl⟩:=e
    refine .inr ⟨s,_,by omega,pB (x:=x) (by omega),hH,hG,by omega,hl,?_,rfl⟩
    rw[tlE,if_pos (dW hG.1 hG.2),fE,if_pos ⟨by omega,hd,pB (by omega)⟩]
  ·rw[jZ hp] at e
   have:=gS (b0:=b0) hd m (x+1) k _ s' f (hH.word hk hx) (iX hG hwx) (by rw[show (wd d wr ds o k x s)=wd d wr ds o k x ⟨s.zs,s.b,s.dat,s.tch⟩ from rfl,hlen];omega) hk (by omega) (fun h i hi=>hw h i (by rw[show (wd d wr ds o k x s)=wd d wr ds o k x ⟨s.zs,s.b,s.dat,s.tch⟩ from rfl,hlen] at hi;omega)) hl e
   rw[show (wd d wr ds o k x s)=wd d wr ds o k x ⟨s.zs,s.b,s.dat,s.tch⟩ from rfl,hlen,show s.tch.length+1+m=s.tch.length+(m+1) by omega] at this
   exact this
theorem aBx {zs:List Int}{b c:Br}{d a n f:Int}{fw:Bool}{ds ms dat:List Int}{tch:List Tc}(hE:doE zs b d a n fw ds=0)(hR:doR zs b d a n fw ds=(⟨ms,c,dat,tch⟩,f)):
  chk ms=0∧chkB c=0∧tch.length≤20∧(0≤f∧f≤5)∧(decide (f=0)=decide ((tch.length:Int)=n))∧c.fp=b.fp∧c.fh=b.fh∧
  (∀j,j<tch.length→∃p:Int,(0≤p∧p<512)∧tth tch j=(d,a+(j:Int),p,fw,nth (rep zs ds tch (j+1)) p.toNat))∧
  (fw=true→tch.length≤ds.length)∧(fw=false→dat.length=tch.length∧∀j,j<tch.length→nth dat j=(tth tch j).2.2.2.2)∧
  ((f=0∧ms=rep zs ds tch tch.length∧c.ft=b.ft)∨(¬f=0∧ms=rep zs ds tch tch.length∧c.ft=b.ft)∨
   (¬f=0∧¬c.ft=b.ft∧(0≤b.fp*8+b.ft∧b.fp*8+b.ft<512)∧∃z,ms=(rep zs ds tch tch.length).set (b.fp*8+b.ft).toNat z)):=by
 obtain⟨hz,hb,hc⟩:=pA hE
 obtain⟨hn,hd,ha,hln,hal⟩:=lV hc
 rw[doR,if_pos hE] at hR
 have hdl:fw=true→ds.length=n.toNat:=fun e=>by rw[e,needA,if_pos rfl] at hln;omega
 have hw:fw=true→∀i,i<0+n.toNat→wordB (nth ds i)=true:=fun e i hi=>iY hal (by have:=hdl e;omega)
 have hs:=gS (d:=d) (wr:=fw) (ds:=ds) (o:=a.toNat) (zs:=zs) (b0:=b) hd n.toNat a.toNat 0 ⟨zs,b,[],[]⟩ _ _ (HeldI.start _ _ _ _ _ _) ⟨hz,hb⟩ rfl (by omega) (by omega) hw ⟨_,(gQ b).symm⟩ hR
 have hE2:∀s:St,HeldI d fw ds a.toNat zs s→∀j,j<s.tch.length→∃p:Int,(0≤p∧p<512)∧tth s.tch j=(d,a+(j:Int),p,fw,nth (rep zs ds s.tch (j+1)) p.toNat):=fun s h j hj=>by
  obtain⟨p,hp,e⟩:=h.each j hj
  refine⟨p,hp,?_⟩
  rw[e,show ((a.toNat+j:Nat):Int)=a+(j:Int) by omega]
 rcases hs with ⟨rfl,hH,hG,hl,l',hl'⟩|⟨s1,p,hf,hp,hH,hG,hl,⟨l',hl'⟩,htE,hs'⟩
 ·have hl:tch.length=n.toNat:=by simpa using hl
  have hl':c=b.with l':=hl'
  subst hl'
  refine⟨hG.1,hG.2,by omega,by omega,?_,rfl,rfl,hE2 _ hH,fun e=>by rw[hdl e];omega,hH.read,.inl ⟨rfl,hH.mem,rfl⟩⟩
  rw[decide_eq_true rfl,decide_eq_true (by omega)]
 ·simp only[St.mk.injEq] at hs'
  obtain⟨rfl,rfl,rfl,rfl⟩:=hs'
  have hl:s1.tch.length<n.toNat:=by simpa using hl
  have hg:=uW fw htE
  have hms:s1.zs=rep zs ds s1.tch s1.tch.length:=hH.mem
  obtain⟨_,_,_,_,_,g6⟩:=bK hG.2
  obtain⟨r1,r2,r3⟩:=dC g6
  have r1:=dL r1
  have r3:=bS r3
  have e1:s1.b.fp=b.fp:=by rw[hl'];rfl
  have e2:s1.b.fh=b.fh:=by rw[hl'];rfl
  have e3:s1.b.ft=b.ft:=by rw[hl'];rfl
  have hf0:¬f=0:=by omega
  rw[e1] at r1
  rw[e3] at r3
  by_cases hfu:fullB s1.b=true
  ·have t1:tlB s1.zs s1.b f d p={s1.b with lost:=true}:=by rw[tlB,if_pos htE,if_pos hfu]
   have t2:tlM s1.zs s1.b f d p fw=s1.zs:=by rw[tlM,if_pos htE,if_pos hfu]
   refine⟨hg.1,hg.2.1,by omega,by omega,?_,by rw[t1];exact e1,by rw[t1];exact e2,hE2 _ hH,fun e=>by rw[hdl e];omega,hH.read,.inr (.inl ⟨hf0,by rw[t2];exact hms,by rw[t1];exact e3⟩)⟩
   rw[decide_eq_false hf0,decide_eq_false (by omega)]
  ·have t1:tlB s1.zs s1.b f d p={s1.b with ft:=(s1.b.ft+1)%8}:=by rw[tlB,if_pos htE,if_neg hfu]
   have t2:tlM s1.zs s1.b f d p fw=s1.zs.set (b.fp*8+b.ft).toNat (fW f d p fw):=by rw[tlM,if_pos htE,if_neg hfu,e1,e3]
   refine⟨hg.1,hg.2.1,by omega,by omega,?_,by rw[t1];exact e1,by rw[t1];exact e2,hE2 _ hH,fun e=>by rw[hdl e];omega,hH.read,.inr (.inr ⟨hf0,?_,by omega,fW f d p fw,by rw[t2,hms]⟩)⟩
   ·rw[decide_eq_false hf0,decide_eq_false (by omega)]
   ·rw[t1]
    show ¬(s1.b.ft+1)%8=b.ft
    rw[e3];omega
structure Mc where
 zs:List Int
 h:Ht
 b:Br
structure Hp where
 kind:Int
 num:Int
 d:Int
 a:Int
 n:Int
 wr:Bool
 ds:List Int
structure To where
 done:Bool
 dat:List Int
 f:Int
 tch:List Tc
def M0:Mc:=⟨[],H0,B0⟩
def T0:To:=⟨false,[],0,[]⟩
def chkM (m:Mc):Int:=if chk m.zs=0 then (if chkH m.h=0 then chkB m.b else chkH m.h) else chk m.zs
def hpE (m:Mc)(x:Hp):Int:=
 if chkM m=0 then
  (if x.kind=1 then (if m.h.done=true then 6 else 0)
  else if x.kind=2 then obE m.zs m.b
  else if x.kind=3 then ckA x.d x.a x.n x.wr x.ds
  else if x.kind=4 then (if 0≤x.num∧x.num<m.b.cache.length then 0 else 4)
  else 3)
 else chkM m
def hpG (m:Mc)(x:Hp):Mc × To:=
 if x.kind=1 then (⟨(goS m.zs m.h m.b).1,(goS m.zs m.h m.b).2.1,(goS m.zs m.h m.b).2.2⟩,T0)
 else if x.kind=2 then (⟨m.zs,m.h,obB m.zs m.b⟩,T0)
 else if x.kind=3 then (⟨(doR m.zs m.b x.d x.a x.n x.wr x.ds).1.zs,m.h,(doR m.zs m.b x.d x.a x.n x.wr x.ds).1.b⟩,
  ⟨decide ((doR m.zs m.b x.d x.a x.n x.wr x.ds).2=0),(doR m.zs m.b x.d x.a x.n x.wr x.ds).1.dat,(doR m.zs m.b x.d x.a x.n x.wr x.ds).2,(doR m.zs m.b x.d x.a x.n x.wr x.ds).1.tch⟩)
 else (⟨m.zs,m.h,m.b.with (m.b.cache.eraseIdx x.num.toNat)⟩,T0)
def hpR (m:Mc)(x:Hp):Mc × To:=if hpE m x=0 then hpG m x else (M0,T0)
theorem bW {m:Mc}(h:chkM m=0):chk m.zs=0∧chkH m.h=0∧chkB m.b=0:=by
 unfold chkM at h
 by_cases h1:chk m.zs=0
 ·rw[if_pos h1] at h
  by_cases h2:chkH m.h=0
  ·rw[if_pos h2] at h;exact⟨h1,h2,h⟩
  ·rw[if_neg h2] at h;exact absurd h h2
 ·rw[if_neg h1] at h;exact absurd h h1
theorem iZ {m:Mc}(h1:chk m.zs=0)(h2:chkH m.h=0)(h3:chkB m.b=0):chkM m=0:=by rw[chkM,if_pos h1,if_pos h2,h3]
theorem tD {l:List Ln}(h:chkC l=0)(i:Nat):chkC (l.eraseIdx i)=0:=by
 rw[aW] at h ⊢
 obtain⟨h1,h2,h3⟩:=h
 refine⟨Nat.le_trans (List.length_eraseIdx_le l i) h1,fun x hx=>h2 x (List.mem_of_mem_eraseIdx hx),h3.sublist (List.eraseIdx_sublist l i)⟩
theorem do_br {zs:List Int}{b c:Br}{d a n f:Int}{fw:Bool}{ds ms dat:List Int}{tch:List Tc}(hE:doE zs b d a n fw ds=0)(hR:doR zs b d a n fw ds=(⟨ms,c,dat,tch⟩,f)):
  ∃l ft lo,c={b with cache:=l,ft:=ft,lost:=lo}:=by
 obtain⟨hz,hb,hc⟩:=pA hE
 obtain⟨hn,hd,ha,hln,hal⟩:=lV hc
 rw[doR,if_pos hE] at hR
 have hdl:fw=true→ds.length=n.toNat:=fun e=>by rw[e,needA,if_pos rfl] at hln;omega
 have hw:fw=true→∀i,i<0+n.toNat→wordB (nth ds i)=true:=fun e i hi=>iY hal (by have:=hdl e;omega)
 have hs:=gS (d:=d) (wr:=fw) (ds:=ds) (o:=a.toNat) (zs:=zs) (b0:=b) hd n.toNat a.toNat 0 ⟨zs,b,[],[]⟩ _ _ (HeldI.start _ _ _ _ _ _) ⟨hz,hb⟩ rfl (by omega) (by omega) hw ⟨_,(gQ b).symm⟩ hR
 rcases hs with ⟨rfl,hH,hG,hl,l',hl'⟩|⟨s1,p,hf,hp,hH,hG,hl,⟨l',hl'⟩,htE,hs'⟩
 ·exact⟨l',b.ft,b.lost,hl'⟩
 ·simp only[St.mk.injEq] at hs'
  obtain⟨rfl,rfl,rfl,rfl⟩:=hs'
  unfold tlB
  rw[if_pos htE,hl']
  split
  ·exact⟨l',b.ft,true,rfl⟩
  ·exact⟨l',_,b.lost,rfl⟩
theorem pD {m y:Mc}{x:Hp}{t:To}(h:hpE m x=0)(hr:hpR m x=(y,t)):
  chkM m=0∧chkM y=0∧(x.kind=1∨x.kind=2∨x.kind=3∨x.kind=4)∧(¬x.kind=3→t=T0)∧(¬x.kind=1→y.h=m.h)∧
  (x.kind=1→y.b.cache=m.b.cache∧m.h.done=false)∧
  (x.kind=2→y.zs=m.zs∧({y.b with op:=m.b.op,oh:=m.b.oh,ot:=m.b.ot,cache:=m.b.cache,stop:=m.b.stop,fen:=m.b.fen}:Br)=m.b∧y.b.cache.length≤m.b.cache.length)∧
  (x.kind=3→({y.b with cache:=m.b.cache,fp:=m.b.fp,fh:=m.b.fh,ft:=m.b.ft,lost:=m.b.lost}:Br)=m.b)∧
  (x.kind=4→y.zs=m.zs∧y.b.with m.b.cache=m.b∧(y.b.cache.length:Int)=m.b.cache.length-1):=by
 rw[hpR,if_pos h] at hr
 unfold hpE at h
 by_cases hm:chkM m=0
 rotate_left
 ·rw[if_neg hm] at h;exact absurd h hm
 rw[if_pos hm] at h
 obtain⟨hz,hh,hb⟩:=bW hm
 unfold hpG at hr
 by_cases k1:x.kind=1
 ·rw[if_pos k1] at h hr
  have hd:m.h.done=false:=by
   cases hd:m.h.done
   ·rfl
   ·rw[hd,if_pos rfl] at h;exact absurd h (by decide)
  have hst:stE m.zs m.h m.b=0:=by rw[tB hz hh hb,hd];rfl
  obtain⟨g1,g2,g3,_,g5,_⟩:=vX hst (show goS m.zs m.h m.b=((goS m.zs m.h m.b).1,(goS m.zs m.h m.b).2.1,(goS m.zs m.h m.b).2.2) from rfl)
  simp only[Prod.mk.injEq] at hr
  obtain⟨rfl,rfl⟩:=hr
  exact⟨hm,iZ g1 g2 g3,.inl k1,fun _=>rfl,fun e=>absurd k1 e,fun _=>⟨g5,hd⟩,fun e=>by omega,fun e=>by omega,fun e=>by omega⟩
 rw[if_neg k1] at h hr
 by_cases k2:x.kind=2
 ·rw[if_pos k2] at h hr
  simp only[Prod.mk.injEq] at hr
  obtain⟨rfl,rfl⟩:=hr
  by_cases ho:roE (ordW m.zs m.b)=0
  ·obtain⟨⟨k,d,p⟩,hO⟩:∃O,roO (ordW m.zs m.b)=O:=⟨_,rfl⟩
   obtain⟨g1,g2,g3,_⟩:=lU h ho hO
   refine⟨hm,iZ hz hh g2,.inr (.inl k2),fun _=>rfl,fun _=>rfl,fun e=>absurd e k1,fun _=>⟨rfl,?_,?_⟩,fun e=>by omega,fun e=>by omega⟩
   ·show ({obB m.zs m.b with op:=m.b.op,oh:=m.b.oh,ot:=m.b.ot,cache:=m.b.cache,stop:=m.b.stop,fen:=m.b.fen}:Br)=m.b
    rw[g1]
   ·show (obB m.zs m.b).cache.length≤m.b.cache.length
    rw[g1]
    show (drC m.b.cache k d p).length≤_
    rw[drC,if_pos g3]
    exact List.length_filter_le _ _
  ·obtain⟨g1,g2⟩:=tC h ho
   refine⟨hm,iZ hz hh g2,.inr (.inl k2),fun _=>rfl,fun _=>rfl,fun e=>absurd e k1,fun _=>⟨rfl,?_,?_⟩,fun e=>by omega,fun e=>by omega⟩
   ·show ({obB m.zs m.b with op:=m.b.op,oh:=m.b.oh,ot:=m.b.ot,cache:=m.b.cache,stop:=m.b.stop,fen:=m.b.fen}:Br)=m.b
    rw[g1]
   ·show (obB m.zs m.b).cache.length≤m.b.cache.length
    rw[g1]
    exact Nat.le_refl _
 rw[if_neg k2] at h hr
 by_cases k3:x.kind=3
 ·rw[if_pos k3] at h hr
  have hE:doE m.zs m.b x.d x.a x.n x.wr x.ds=0:=zL hz hb h
  obtain⟨⟨⟨ms,c,dat,tch⟩,f⟩,hR⟩:∃R,doR m.zs m.b x.d x.a x.n x.wr x.ds=R:=⟨_,rfl⟩
  obtain⟨g1,g2,_⟩:=aBx hE hR
  obtain⟨l,ft,lo,g3⟩:=do_br hE hR
  rw[hR] at hr
  simp only[Prod.mk.injEq] at hr
  obtain⟨rfl,rfl⟩:=hr
  refine⟨hm,iZ g1 hh g2,.inr (.inr (.inl k3)),fun e=>absurd k3 e,fun _=>rfl,fun e=>absurd e k1,fun e=>absurd e k2,fun _=>?_,fun e=>by omega⟩
  show ({c with cache:=m.b.cache,fp:=m.b.fp,fh:=m.b.fh,ft:=m.b.ft,lost:=m.b.lost}:Br)=m.b
  rw[g3]
 rw[if_neg k3] at h hr
 by_cases k4:x.kind=4
 ·rw[if_pos k4] at h
  by_cases hn:0≤x.num∧x.num<m.b.cache.length
  ·simp only[Prod.mk.injEq] at hr
   obtain⟨rfl,rfl⟩:=hr
   refine⟨hm,iZ hz hh (nX hb (tD (bK hb).2.2.2.1 _)),.inr (.inr (.inr k4)),fun _=>rfl,fun _=>rfl,fun e=>absurd e k1,fun e=>absurd e k2,fun e=>absurd e k3,fun _=>⟨rfl,rfl,?_⟩⟩
   show ((m.b.cache.eraseIdx x.num.toNat).length:Int)=_
   rw[List.length_eraseIdx,if_pos (by omega)]
   omega
  ·rw[if_neg hn] at h;exact absurd h (by decide)
 ·rw[if_neg k4] at h;exact absurd h (by decide)
def rnM:Mc→List Hp→Mc × List To × List Int
 | m,[]=>(m,[],[])
 | m,x::l=>((rnM (if hpE m x=0 then (hpR m x).1 else m) l).1,(hpR m x).2::(rnM (if hpE m x=0 then (hpR m x).1 else m) l).2.1,hpE m x::(rnM (if hpE m x=0 then (hpR m x).1 else m) l).2.2)
theorem uZ:∀(l k:List Hp) (m:Mc),rnM m (l++k)=((rnM (rnM m l).1 k).1,(rnM m l).2.1++(rnM (rnM m l).1 k).2.1,(rnM m l).2.2++(rnM (rnM m l).1 k).2.2)
 | [],_,_=>rfl
 | x::l,k,m=>by
  show ((rnM _ (l++k)).1,_::(rnM _ (l++k)).2.1,_::(rnM _ (l++k)).2.2)=_
  rw[uZ l k]
  rfl
theorem zV (l:List Hp)(x:Hp)(m:Mc):rnM m (l++[x])=((if hpE (rnM m l).1 x=0 then (hpR (rnM m l).1 x).1 else (rnM m l).1),(rnM m l).2.1++[(hpR (rnM m l).1 x).2],(rnM m l).2.2++[hpE (rnM m l).1 x]):=by
 rw[uZ];rfl
theorem pF:∀(l:List Hp) (m:Mc),(rnM m l).2.1.length=l.length∧(rnM m l).2.2.length=l.length
 | [],_=>⟨rfl,rfl⟩
 | x::l,m=>by
  obtain⟨h1,h2⟩:=pF l (if hpE m x=0 then (hpR m x).1 else m)
  exact⟨by show _+1=_+1;rw[h1],by show _+1=_+1;rw[h2]⟩
theorem qR:∀(l:List Hp) (m:Mc),chkM m=0→chkM (rnM m l).1=0
 | [],_,h=>h
 | x::l,m,h=>by
  show chkM (rnM _ l).1=0
  apply qR l
  by_cases e:hpE m x=0
  ·rw[if_pos e]
   exact (pD e (show hpR m x=((hpR m x).1,(hpR m x).2) from rfl)).2.1
  ·rw[if_neg e];exact h
theorem infoM:(Tryz.prog.info? 33).map (·.size)=some 16:=by kernel_rfl
theorem Box.loadM {w:World}{n:Nat}{t:TypeId}{cs:Array Value}(h:Box w n t cs)(hs:cs.size=16):(loadVar 33 ⟨n,0,none⟩).run Tryz.prog w=.ok (.agg cs) w:=
 run_loadVar_row w n t 33 cs (0,0) _ h Tryz.underlying33 rfl (by rw[infoM,hs])
theorem aS {ops:Array Oper}{S:World→Prop}{o:Oper}{a:Act}(hw:Region.wanted o (yielded ops a.tmps)=true)(ty:TypeId)(x:Operand)(ho:o.op=.load ty x){n:Nat}{cs:Array Value}(hx:a.eval x=.pointer (some ⟨n,0,none⟩))(hS:∀w,S w→(loadVar ty ⟨n,0,none⟩).run Tryz.prog w=.ok (.agg cs) w):YieldsIf Tryz.prog ops S o (.agg cs) a:=
 .inl ⟨hw,fun w hw'=>by
  unfold execOp
  simp only[ho,hx,Instr.loadAt,Instr.sureAddr,Sem.run_bind,Sem.run_pure,Result.andThen_ok,hS w hw']⟩
def IsM (w:World)(m:Mc)(cs:Array Value):Prop:=
 ∃a1 n1 c1 a2 n2 c2 a3 n3 c3,cs=(rM (.slice a1 n1 c1) m.h.pc (.slice a2 n2 c2) m.h.done m.b.mode m.b.base (.slice a3 n3 c3) m.b.op m.b.oh m.b.ot m.b.stop m.b.fen m.b.fp m.b.fh m.b.ft m.b.lost)∧
  Sl w (.slice a1 n1 c1) m.zs∧Sl w (.slice a2 n2 c2) m.h.r∧Ls w (.slice a3 n3 c3) m.b.cache
theorem IsM.size {w:World}{m:Mc}{cs:Array Value}(h:IsM w m cs):cs.size=16∧cs.all (·.oneCell')=true:=by
 obtain⟨a1,n1,c1,a2,n2,c2,a3,n3,c3,rfl,-⟩:=h;exact⟨rfl,by simp[Value.oneCell']⟩
theorem IsM.keep {w w':World}{m:Mc}{cs:Array Value}(h:IsM w m cs)(hb:Below w.heap.size w w'):IsM w' m cs:=by
 obtain⟨a1,n1,c1,a2,n2,c2,a3,n3,c3,rfl,h1,h2,h3⟩:=h;exact⟨a1,n1,c1,a2,n2,c2,a3,n3,c3,rfl,h1.keep hb,h2.keep hb,h3.keep hb⟩
theorem isM_any {u:Value}{zs:List Int}{p:Int}{v:Value}{r:List Int}{d:Bool}{mo ba op oh ot fe fp fh ft:Int}{st lo:Bool}{vc:Value}{l:List Ln}{w:World}(h:Sl w u zs∧Sl w v r∧Ls w vc l):IsM w ⟨zs,⟨p,r,d⟩,⟨mo,ba,l,op,oh,ot,st,fe,fp,fh,ft,lo⟩⟩ (rM u p v d mo ba vc op oh ot st fe fp fh ft lo):=by
 obtain⟨h1,h2,h3⟩:=h
 obtain⟨a1,n1,c1,rfl⟩:∃a k c,u=.slice a k c:=let ⟨a,c,e,_⟩:=h1;⟨a,_,c,e⟩
 obtain⟨a2,n2,c2,rfl⟩:∃a k c,v=.slice a k c:=let ⟨a,c,e,_⟩:=h2;⟨a,_,c,e⟩
 obtain⟨a3,n3,c3,rfl⟩:∃a k c,vc=.slice a k c:=let ⟨a,c,e,_⟩:=h3;⟨a,_,c,e⟩
 exact⟨a1,n1,c1,a2,n2,c2,a3,n3,c3,rfl,h1,h2,h3⟩
theorem Box.sixteen {w:World}{n:Nat}{t:TypeId}{a0 a1 a2 a3 a4 a5 a6 a7 a8 a9 a10 a11 a12 a13 a14 a15:Value}(h:Box w n t #[a0,a1,a2,a3,a4,a5,a6,a7,a8,a9,a10,a11,a12,a13,a14,a15]):
  (w.cell? ⟨n,0,none⟩=some a0∧w.cell? ⟨n,1,none⟩=some a1∧w.cell? ⟨n,2,none⟩=some a2∧w.cell? ⟨n,3,none⟩=some a3)∧(w.cell? ⟨n,4,none⟩=some a4∧w.cell? ⟨n,5,none⟩=some a5∧w.cell? ⟨n,6,none⟩=some a6∧w.cell? ⟨n,7,none⟩=some a7∧w.cell? ⟨n,8,none⟩=some a8∧w.cell? ⟨n,9,none⟩=some a9∧w.cell? ⟨n,10,none⟩=some a10∧w.cell? ⟨n,11,none⟩=some a11∧w.cell? ⟨n,12,none⟩=some a12∧w.cell? ⟨n,13,none⟩=some a13∧w.cell? ⟨n,14,none⟩=some a14∧w.cell? ⟨n,15,none⟩=some a15)∧n<w.heap.size:=
 ⟨⟨h.cell 0,h.cell 1,h.cell 2,h.cell 3⟩,⟨h.cell 4,h.cell 5,h.cell 6,h.cell 7,h.cell 8,h.cell 9,h.cell 10,h.cell 11,h.cell 12,h.cell 13,h.cell 14,h.cell 15⟩,h.lt⟩
theorem qS {p:Int}{r:List Int}{d:Bool}(h:¬r.length=8):chkH ⟨p,r,d⟩=3:=if_neg h
theorem qT {p:Int}{r:List Int}{d:Bool}(h:r.length=8)(k:placeB p=false):chkH ⟨p,r,d⟩=2:=by
 rw[chkH,if_pos h,if_neg (by rw[k];decide)]
theorem qU {p:Int}{r:List Int}{d:Bool}(h:r.length=8)(k:placeB p=true){j:Nat}(hj:j<8)(hw:wordB (nth r j)=false):chkH ⟨p,r,d⟩=2:=by
 rw[chkH,if_pos h,if_pos k,if_neg]
 intro e
 rw[List.all_eq_true] at e
 have:=e (nth r j) (by rw[nth,List.getD_eq_getElem?_getD,List.getElem?_eq_getElem (by omega)];exact List.getElem_mem _)
 rw[hw] at this
 exact absurd this (by decide)
theorem qV {p:Int}{r:List Int}{d:Bool}(h:r.length=8)(k:placeB p=true)(hw:∀j,j<8→wordB (nth r j)=true):chkH ⟨p,r,d⟩=0:=by
 rw[chkH,if_pos h,if_pos k,if_pos (nY fun i hi=>hw i (by omega))]
theorem hY (z:Int):betweenB 0 511 z=placeB z:=by unfold betweenB placeB;congr 1;apply propext;omega
set_option maxHeartbeats 1000000 in
theorem mS (p:Int)(v:Value)(r:List Int)(d:Bool)(w:World)(h:Sl w v r):
  Calls Tryz.prog 38 #[.agg #[J p,v,.bool d]] w fun e w'=>e=.returned (J (chkH ⟨p,r,d⟩))∧Below w.heap.size w w':=by
 obtain⟨a,cap,rfl,hl,h⟩:=h
 unfold maxLen at hl
 by_cases hn:r.length=8
 rotate_left
 ·have hne:((r.length:Int) !=8)=true:=by simp;omega
  rw[qS hn]
  clear hn h
  go_enter Tryz.func38,Tryz.ntmps38
  go_wp2
  go_ret
  exact⟨rfl,aA (Below.refl _ _) _⟩
 rcases h with rfl|⟨b,o,rfl,hb,hc⟩
 ·simp at hn
 have HC:Hid (∀i,i<8→w.cell? ⟨b,o+i,none⟩=some (J (nth r i))):=fun i hi=>hc i (by omega)
 have HN:Hid (r.length=8):=hn
 rw[hn]
 clear hc hl hn
 cases hp:placeB p
 ·rw[qT HN.out hp]
  rw[←hY] at hp
  go_enter Tryz.func38,Tryz.ntmps38
  go_wp2_with (go_at_call 53;refine (aD _ _ _ _).mono ?_;rintro e w' ⟨rfl,rfl⟩;rw[hp])
  go_ret
  exact⟨rfl,aA (Below.refl _ _) _⟩
 have HP0:Hid (placeB p=true):=hp
 rw[←hY] at hp
 go_enter Tryz.func38,Tryz.ntmps38
 go_wp2_with (go_at_call 53;refine (aD _ _ _ _).mono ?_;rintro e w' ⟨rfl,rfl⟩;rw[hp])
 go_loop [16] (fun i=>∃k:Nat,k≤8∧i=J k∧∀j,j<k→wordB (nth r j)=true) (fun i=>8-(intOf i).toNat)
 case atStart=>exact⟨0,Nat.zero_le _,rfl,fun j hj=>absurd hj (Nat.not_lt_zero _)⟩
 case round=>
  obtain⟨k,hk,rfl,hpre⟩:=hrel
  have HP:Hid (∀j,j<k→wordB (nth r j)=true):=hpre
  clear hpre
  by_cases hlt:k<8
  ·have g:=HC.out k hlt
   have hlt1:(k:Int)<8:=by omega
   by_cases hq:wordB (nth r k)=true
   ·go_wp2_with (go_at_call 53;refine (aD _ _ _ _).mono ?_;rintro e w' ⟨rfl,rfl⟩;rw[bI])
    refine⟨⟨k+1,by omega,by go_num,fun j hj=>?_⟩,by simp[intOf];omega⟩
    by_cases e:j=k
    ·rw[e];exact hq
    ·exact HP.out j (by omega)
   ·have hq':wordB (nth r k)=false:=by simpa using hq
    have HD:Hid (chkH ⟨p,r,d⟩=2):=qU HN.out HP0.out hlt hq'
    clear hq
    go_wp2_with (go_at_call 53;refine (aD _ _ _ _).mono ?_;rintro e w' ⟨rfl,rfl⟩;rw[bI])
    go_ret
    exact⟨aM HD.out.symm,aA (Below.refl _ _) _⟩
  ·have HD:Hid (chkH ⟨p,r,d⟩=0):=qV HN.out HP0.out fun j hj=>HP.out j (by omega)
   have hge:¬(k:Int)<8:=by omega
   go_wp2
   go_ret
   exact⟨aM HD.out.symm,aA (Below.refl _ _) _⟩
set_option maxHeartbeats 1000000 in
theorem pG (p:Int)(v:Value)(r:List Int)(d:Bool)(p1:Int)(v1:Value)(r1:List Int)(d1:Bool)(w:World)(h:Sl w v r)(h1:Sl w v1 r1):
  Calls Tryz.prog 45 #[.agg #[J p,v,.bool d],.agg #[J p1,v1,.bool d1]] w fun e w'=>e=.returned (.bool (sameH ⟨p,r,d⟩ ⟨p1,r1,d1⟩))∧Below w.heap.size w w':=by
 have ho:sameH ⟨p,r,d⟩ ⟨p1,r1,d1⟩=(decide (p=p1)&&decide (d=d1)&&decide (r=r1)):=rfl
 rw[ho]
 clear ho
 have H1:Hid (Sl w v r):=h
 have H2:Hid (Sl w v1 r1):=h1
 obtain⟨a,c,rfl,-⟩:=h
 obtain⟨a1,c1,rfl,-⟩:=h1
 by_cases e1:p=p1
 rotate_left
 ·have q1:(p==p1)=false:=by simpa using e1
  have d1:Hid (decide (p=p1)=false):=decide_eq_false e1
  clear e1
  go_enter Tryz.func45,Tryz.ntmps45
  go_wp2
  go_ret
  exact⟨aL (by rw[d1.out];rfl),aA (aA (Below.refl _ _) _) _⟩
 subst e1
 by_cases e2:d=d1
 rotate_left
 ·have q2:(d==d1)=false:=by simpa using e2
  have d2:Hid (decide (d=d1)=false):=decide_eq_false e2
  clear e2
  go_enter Tryz.func45,Tryz.ntmps45
  go_wp2
  go_ret
  exact⟨aL (by rw[d2.out];simp),aA (aA (Below.refl _ _) _) _⟩
 subst e2
 have B2:∀A B:Obj,Below w.heap.size w ((w.alloc A).alloc B):=fun A B=>aA (aA (Below.refl _ _) A) B
 go_enter Tryz.func45,Tryz.ntmps45
 go_wp2_with fail
 refine (fH _ _ r r1 _ (H1.out.keep (B2 _ _)) (H2.out.keep (B2 _ _))).mono ?_
 rintro e w1 ⟨rfl,n,rfl⟩
 go_wp2
 go_ret
 exact⟨aL (by simp),aH (aA (aA (Below.refl _ _) _) _) _⟩
end Go.Proofs.YthlhocneggcekaaGreat
