/-
  Laid together: BridgeMath, CodeMath, HartMath, TellMath.
-/
import Derived.Test.YthlhocneggcekaaGreatD5
namespace Go.Proofs.YthlhocneggcekaaGreat
open Go.RowKit
structure Br where
 mode:Int
 base:Int
 cache:List Ln
 op:Int
 oh:Int
 ot:Int
 stop:Bool
 fen:Int
 fp:Int
 fh:Int
 ft:Int
 lost:Bool
def B0:Br:=⟨0,0,[],0,0,0,false,0,0,0,0,false⟩
def Br.with (b:Br)(l:List Ln):Br:={b with cache:=l}
def rngBr (b:Br):Bool:=decide (0≤b.mode∧b.mode≤2)&&decide (0≤b.base∧b.base≤63)&&decide (0≤b.fen∧b.fen≤999)
def chkB (b:Br):Int:=if rngBr b=true then (if chkC b.cache=0 then (if chkR b.op b.oh b.ot=0 then chkR b.fp b.fh b.ft else chkR b.op b.oh b.ot) else chkC b.cache) else 2
def bothB (zs:List Int)(b:Br):Int:=if chk zs=0 then chkB b else chk zs
def whoB (d p:Int):Bool:=decide ((0≤d∧d≤7)∧(0≤p∧p≤63))
def thE (zs:List Int)(b:Br)(d p:Int):Int:=if bothB zs b=0 then (if whoB d p=true then 0 else 4) else bothB zs b
def ctxW (zs:List Int)(b:Br)(d:Int):Int:=nth zs (8*b.base+d).toNat
def byT (zs:List Int)(b:Br)(d p:Int)(wr:Bool):Br × Int × Int:=
 if vC (ctxW zs b d)=true then
  (if aC (ctxW zs b d)=true then (b,p,0)
  else if (wkd zs (pC (ctxW zs b d)) p wr).2.1=0 then (b.with (flC b.cache (d,p,(wkd zs (pC (ctxW zs b d)) p wr).1.2.2.2.2,true,(wkd zs (pC (ctxW zs b d)) p wr).1.2.2.1)),(wkd zs (pC (ctxW zs b d)) p wr).1.2.2.2.2,0)
  else (b,0,(wkd zs (pC (ctxW zs b d)) p wr).2.1))
 else (b,0,2)
def lineC (l:List Ln)(d p:Int):Ln:=lth l (fndC l d p).toNat
def goT (zs:List Int)(b:Br)(d p:Int)(wr:Bool):Br × Int × Int:=
 if b.mode=0 then (b,0,1)
 else if b.mode=1 then (b,p,0)
 else if 0≤fndC b.cache d p then (if (wr&&!(lineC b.cache d p).2.2.2.2)=true then (b,0,5) else (b,(lineC b.cache d p).2.2.1,0))
 else byT zs b d p wr
def thR (zs:List Int)(b:Br)(d p:Int)(wr:Bool):Br × Int × Int:=if thE zs b d p=0 then goT zs b d p wr else (B0,0,0)
theorem bK {b:Br}(h:chkB b=0):(0≤b.mode∧b.mode≤2)∧(0≤b.base∧b.base≤63)∧(0≤b.fen∧b.fen≤999)∧chkC b.cache=0∧chkR b.op b.oh b.ot=0∧chkR b.fp b.fh b.ft=0:=by
 unfold chkB at h
 by_cases h1:rngBr b=true
 ·rw[if_pos h1] at h
  by_cases h2:chkC b.cache=0
  ·rw[if_pos h2] at h
   by_cases h3:chkR b.op b.oh b.ot=0
   ·rw[if_pos h3] at h
    simp only[rngBr,Bool.and_eq_true,decide_eq_true_eq] at h1
    exact⟨h1.1.1,h1.1.2,h1.2,h2,h3,h⟩
   ·rw[if_neg h3] at h;exact absurd h h3
  ·rw[if_neg h2] at h;exact absurd h h2
 ·rw[if_neg h1] at h;exact absurd h (by decide)
theorem dO {b:Br}(h1:0≤b.mode∧b.mode≤2)(h2:0≤b.base∧b.base≤63)(h3:0≤b.fen∧b.fen≤999)(h4:chkC b.cache=0)(h5:chkR b.op b.oh b.ot=0)(h6:chkR b.fp b.fh b.ft=0):chkB b=0:=by
 have:rngBr b=true:=by simp[rngBr,h1,h2,h3]
 rw[chkB,if_pos this,if_pos h4,if_pos h5,h6]
theorem nX {b:Br}(h:chkB b=0){l:List Ln}(hl:chkC l=0):chkB (b.with l)=0:=by
 obtain⟨h1,h2,h3,_,h5,h6⟩:=bK h
 exact dO h1 h2 h3 hl h5 h6
theorem bL {zs:List Int}{b:Br}(h:bothB zs b=0):chk zs=0∧chkB b=0:=by
 unfold bothB at h
 by_cases hk:chk zs=0
 ·rw[if_pos hk] at h;exact⟨hk,h⟩
 ·rw[if_neg hk] at h;exact absurd h hk
theorem dW {zs:List Int}{b:Br}(h:chk zs=0)(k:chkB b=0):bothB zs b=0:=by rw[bothB,if_pos h,k]
theorem oR {zs:List Int}{b:Br}{d p:Int}(h:thE zs b d p=0):chk zs=0∧chkB b=0∧(0≤d∧d≤7)∧(0≤p∧p≤63):=by
 unfold thE at h
 by_cases hb:bothB zs b=0
 ·rw[if_pos hb] at h
  by_cases hw:whoB d p=true
  ·obtain⟨a,c⟩:=bL hb
   simp only[whoB,decide_eq_true_eq] at hw
   exact⟨a,c,hw.1,hw.2⟩
  ·rw[if_neg hw] at h;exact absurd h (by decide)
 ·rw[if_neg hb] at h;exact absurd h hb
theorem tA {zs:List Int}{b:Br}{d p:Int}(h:chk zs=0)(k:chkB b=0)(hd:0≤d∧d≤7)(hp:0≤p∧p≤63):thE zs b d p=0:=by
 rw[thE,if_pos (dW h k),if_pos (by simp[whoB,hd,hp])]
theorem yY {zs:List Int}{root page:Int}{b r x l:Bool}{p:Int}(h:fnd zs root page=((b,r,x,l,p),0)):0≤p∧p≤63:=by
 unfold fnd at h
 by_cases h1:fltR (one zs root page)=0
 ·rw[if_pos h1] at h
  by_cases h2:lE (one zs root page)=true
  ·rw[if_pos h2] at h
   by_cases h3:pE (one zs root page)%8=0
   ·rw[if_pos h3] at h
    simp only[Prod.mk.injEq] at h
    have:=nQ (one zs root page)
    omega
   ·rw[if_neg h3] at h
    simp only[Prod.mk.injEq] at h
    omega
  ·rw[if_neg h2] at h
   by_cases h3:fltR (two zs root page)=0
   ·rw[if_pos h3] at h
    by_cases h4:lE (two zs root page)=true
    ·rw[if_pos h4,entE] at h
     simp only[Prod.mk.injEq] at h
     have:=nQ (two zs root page)
     omega
    ·rw[if_neg h4] at h
     simp only[Prod.mk.injEq] at h
     omega
   ·rw[if_neg h3] at h
    simp only[Prod.mk.injEq] at h
    exact absurd h.2 h3
 ·rw[if_neg h1] at h
  simp only[Prod.mk.injEq] at h
  exact absurd h.2 h1
theorem lP (z:Int):fltR z=0∨fltR z=3∨fltR z=4:=by
 unfold fltR;split
 ·split <;> simp
 ·simp
theorem vV (zs:List Int)(root page:Int):(fnd zs root page).2=0∨(fnd zs root page).2=3∨(fnd zs root page).2=4:=by
 unfold fnd
 by_cases h1:fltR (one zs root page)=0
 ·rw[if_pos h1]
  by_cases h2:lE (one zs root page)=true
  ·rw[if_pos h2]
   by_cases h3:pE (one zs root page)%8=0
   ·rw[if_pos h3];simp
   ·rw[if_neg h3];simp
  ·rw[if_neg h2]
   by_cases h3:fltR (two zs root page)=0
   ·rw[if_pos h3]
    by_cases h4:lE (two zs root page)=true
    ·rw[if_pos h4];simp
    ·rw[if_neg h4];simp
   ·rw[if_neg h3];exact lP _
 ·rw[if_neg h1];exact lP _
theorem oS {zs:List Int}{root page:Int}{wr:Bool}(hk:chk zs=0)(hr:pageB root=true)(hp:pageB page=true):
  (∃f,(3≤f∧f≤5)∧wkd zs root page wr=((false,false,false,false,0),f,0))∨
  (∃x p,(0≤p∧p≤63)∧(wr=true→x=true)∧wkd zs root page wr=((true,true,x,true,p),0,0)):=by
 obtain⟨⟨⟨b,r,x,l,p⟩,f⟩,hF⟩:∃F,fnd zs root page=F:=⟨_,rfl⟩
 have hff:=vV zs root page
 rw[hF] at hff
 rw[wkd,if_pos hk,if_pos ⟨hr,hp⟩,wkF,hF]
 by_cases h:f=0
 ·subst h
  obtain⟨rfl,rfl⟩:=yN hF
  simp only[if_true]
  by_cases hq:(r&&(x || !wr))=true
  ·rw[if_pos hq]
   simp only[Bool.and_eq_true,Bool.or_eq_true,Bool.not_eq_true'] at hq
   obtain⟨rfl,hx⟩:=hq
   refine .inr ⟨x,p,yY hF,fun e=>?_,rfl⟩
   rcases hx with hx|hx
   ·exact hx
   ·rw[e] at hx;exact absurd hx (by decide)
  ·rw[if_neg hq]
   exact .inl ⟨5,by omega,rfl⟩
 ·simp only[h,if_false]
  have hff:f=0∨f=3∨f=4:=hff
  exact .inl ⟨f,by omega,rfl⟩
theorem oT (z:Int):pageB (pC z)=true:=by
 unfold pC pageB;split <;> simp <;> omega
theorem oU {p:Int}(h:0≤p∧p≤63):pageB p=true:=by simp[pageB];omega
theorem yZ {zs:List Int}{b:Br}{d p:Int}{wr:Bool}(hk:chk zs=0)(hp:0≤p∧p≤63):
  (∃f,(2≤f∧f≤5)∧∀l,byT zs (b.with l) d p wr=(b.with l,0,f))∨
  (∀l,byT zs (b.with l) d p wr=(b.with l,p,0))∨
  (∃a x,(0≤a∧a≤63)∧(wr=true→x=true)∧∀l,byT zs (b.with l) d p wr=(b.with (flC l (d,p,a,true,x)),a,0)):=by
 have hc:∀l,ctxW zs (b.with l) d=ctxW zs b d:=fun l=>rfl
 unfold byT
 by_cases h1:vC (ctxW zs b d)=true
 ·by_cases h2:aC (ctxW zs b d)=true
  ·exact .inr (.inl fun l=>by rw[hc,if_pos h1,if_pos h2])
  ·rcases oS (wr:=wr) hk (oT (ctxW zs b d)) (oU hp) with ⟨f,hf,e⟩|⟨x,a,ha,hx,e⟩
   ·refine .inl ⟨f,by omega,fun l=>?_⟩
    rw[hc,if_pos h1,if_neg h2,e]
    exact if_neg (show ¬f=0 by omega)
   ·refine .inr (.inr ⟨a,x,ha,hx,fun l=>?_⟩)
    rw[hc,if_pos h1,if_neg h2,e]
    exact if_pos rfl
 ·exact .inl ⟨2,by omega,fun l=>by rw[hc,if_neg h1]⟩
theorem gQ (b:Br):b.with b.cache=b:=rfl
theorem qN {l:List Ln}{d p:Int}(h:0≤fndC l d p):(fndC l d p).toNat<l.length∧hasB d p (lineC l d p)=true∧lineC l d p∈l:=by
 unfold lineC
 unfold fndC at h ⊢
 cases e:l.findIdx? (hasB d p) with
 | none=>rw[e] at h;exact absurd h (by decide)
 | some i=>
  rw[List.findIdx?_eq_some_iff_getElem] at e
  obtain⟨hi,h1,_⟩:=e
  have hn:((i:Int)).toNat=i:=by simp
  simp only[hn]
  exact⟨hi,by rw[cQ hi];exact h1,by rw[cQ hi];exact List.getElem_mem hi⟩
theorem aBu {l:List Ln}(h:chkC l=0){x:Ln}(hx:x∈l):(0≤x.2.2.1∧x.2.2.1≤63)∧x.2.2.2.1=true:=by
 obtain⟨g1,g2,_⟩:=aW.1 h
 obtain⟨a,b⟩:=g2 x hx
 simp only[rngB,Bool.and_eq_true,decide_eq_true_eq] at a
 exact⟨by omega,b⟩
theorem zC {l:List Ln}{d p a:Int}{x:Bool}(hl:chkC l=0)(hd:0≤d∧d≤7)(hp:0≤p∧p≤63)(ha:0≤a∧a≤63)(hn:¬0≤fndC l d p):flE l (d,p,a,true,x)=0:=by
 have h1:chkC [((d,p,a,true,x):Ln)]=0:=aW.2 ⟨by simp,fun y hy=>by
  obtain rfl:=List.mem_singleton.1 hy
  exact⟨by simp[rngB];omega,rfl⟩,List.pairwise_singleton _ _⟩
 rw[flE,if_pos hl,if_pos h1,if_neg hn]
theorem zD {zs:List Int}{b:Br}{d p:Int}{wr:Bool}(h:thE zs b d p=0):
  (∃f,(1≤f∧f≤5)∧goT zs b d p wr=(b,0,f))∨
  (∃k,(0≤k∧k≤63)∧goT zs b d p wr=(b,k,0)∧(b.mode=2→0≤fndC b.cache d p→(lineC b.cache d p).2.2.1=k∧(wr&&!(lineC b.cache d p).2.2.2.2)=false))∨
  (∃a x,b.mode=2∧¬0≤fndC b.cache d p∧(0≤a∧a≤63)∧(wr=true→x=true)∧flE b.cache (d,p,a,true,x)=0∧goT zs b d p wr=(b.with (flC b.cache (d,p,a,true,x)),a,0)):=by
 obtain⟨hk,hb,hd,hp⟩:=oR h
 obtain⟨m1,_,_,hc,_,_⟩:=bK hb
 unfold goT
 by_cases h0:b.mode=0
 ·rw[if_pos h0];exact .inl ⟨1,by omega,rfl⟩
 rw[if_neg h0]
 by_cases h1:b.mode=1
 ·rw[if_pos h1];exact .inr (.inl ⟨p,hp,rfl,fun e=>by omega⟩)
 rw[if_neg h1]
 by_cases hf:0≤fndC b.cache d p
 ·rw[if_pos hf]
  by_cases hq:(wr&&!(lineC b.cache d p).2.2.2.2)=true
  ·rw[if_pos hq];exact .inl ⟨5,by omega,rfl⟩
  ·rw[if_neg hq]
   exact .inr (.inl ⟨_,(aBu hc (qN hf).2.2).1,rfl,fun _ _=>⟨rfl,by simpa using hq⟩⟩)
 ·rw[if_neg hf]
  rcases yZ (b:=b) (d:=d) (wr:=wr) hk hp with ⟨f,hff,e⟩|e|⟨a,x,ha,hx,e⟩
  ·exact .inl ⟨f,by omega,e b.cache⟩
  ·exact .inr (.inl ⟨p,hp,e b.cache,fun _ g=>absurd g hf⟩)
  ·exact .inr (.inr ⟨a,x,by omega,hf,ha,hx,zC hc hd hp ha hf,e b.cache⟩)
theorem lQ {zs:List Int}{b c:Br}{d p k f:Int}{wr:Bool}(h:thE zs b d p=0)(hg:goT zs b d p wr=(c,k,f)):
  chkB c=0∧(¬f=0→c=b)∧(0≤k∧k≤63)∧(0≤f∧f≤5)∧∃l,c=b.with l:=by
 obtain⟨hk,hb,hd,hp⟩:=oR h
 rcases zD (wr:=wr) h with ⟨f',hf,e⟩|⟨k',hk',e,_⟩|⟨a,x,hm,hn,ha,hx,hl,e⟩
 all_goals
  rw[e] at hg
  simp only[Prod.mk.injEq] at hg
  obtain⟨rfl,rfl,rfl⟩:=hg
 ·exact⟨hb,fun _=>rfl,by omega,by omega,_,(gQ b).symm⟩
 ·exact⟨hb,fun _=>rfl,hk',by omega,_,(gQ b).symm⟩
 ·exact⟨nX hb (vQ hl).1,fun g=>absurd rfl g,ha,by omega,_,rfl⟩
def useA (k:Int):Bool:=decide (1≤k)
def useB (k:Int):Bool:=decide (k=2) || decide (4≤k∧k≤6)
def useI (k:Int):Bool:=decide (1≤k)&&!decide (k=2)
def rngI (k a b i:Int):Bool:=decide (0≤k∧k≤8)&&decide (0≤a∧a≤7)&&decide (0≤b∧b≤7)&&decide (0≤i∧i≤63)
def fitI (k a b i:Int):Bool:=(useA k || decide (a=0))&&(useB k || decide (b=0))&&(useI k || decide (i=0))
def iE (k a b i:Int):Int:=if rngI k a b i=true then (if fitI k a b i=true then 0 else 3) else 2
def iW (k a b i:Int):Int:=if iE k a b i=0 then 4096*k+512*a+64*b+i else 0
def riE (w:Int):Int:=if 0≤w∧w≤65535 then (if iE (w/4096) (w/512%8) (w/64%8) (w%64)=0 then 0 else 3) else 2
def riX (w:Int):Int × Int × Int × Int:=if riE w=0 then (w/4096,w/512%8,w/64%8,w%64) else (0,0,0,0)
theorem uU {k a b i:Int}(h:iE k a b i=0):(0≤k∧k≤8)∧(0≤a∧a≤7)∧(0≤b∧b≤7)∧(0≤i∧i≤63)∧fitI k a b i=true:=by
 unfold iE at h
 by_cases h1:rngI k a b i=true
 ·rw[if_pos h1] at h
  by_cases h2:fitI k a b i=true
  ·simp only[rngI,Bool.and_eq_true,decide_eq_true_eq] at h1
   exact⟨h1.1.1.1,h1.1.1.2,h1.1.2,h1.2,h2⟩
  ·rw[if_neg h2] at h;exact absurd h (by decide)
 ·rw[if_neg h1] at h;exact absurd h (by decide)
theorem bH {k a b i:Int}(h:iE k a b i=0):iW k a b i=4096*k+512*a+64*b+i:=if_pos h
theorem riE_ok {w:Int}(h:riE w=0):(0≤w∧w≤65535)∧iE (w/4096) (w/512%8) (w/64%8) (w%64)=0:=by
 unfold riE at h
 by_cases h1:0≤w∧w≤65535
 ·rw[if_pos h1] at h
  by_cases h2:iE (w/4096) (w/512%8) (w/64%8) (w%64)=0
  ·exact⟨h1,h2⟩
  ·rw[if_neg h2] at h;exact absurd h (by decide)
 ·rw[if_neg h1] at h;exact absurd h (by decide)
theorem riE_mk {w:Int}(h1:0≤w∧w≤65535)(h2:iE (w/4096) (w/512%8) (w/64%8) (w%64)=0):riE w=0:=by unfold riE;rw[if_pos h1,if_pos h2]
theorem oV {w k a b i:Int}(h:riE w=0)(e:riX w=(k,a,b,i)):iE k a b i=0∧iW k a b i=w:=by
 obtain⟨h1,h2⟩:=riE_ok h
 rw[riX,if_pos h] at e
 simp only[Prod.mk.injEq] at e
 obtain⟨rfl,rfl,rfl,rfl⟩:=e
 exact⟨h2,by rw[bH h2];omega⟩
structure Ht where
 pc:Int
 r:List Int
 done:Bool
def H0:Ht:=⟨0,[],false⟩
def chkH (h:Ht):Int:=if h.r.length=8 then (if placeB h.pc=true then (if h.r.all wordB=true then 0 else 2) else 2) else 3
def sameH (a b:Ht):Bool:=decide (a.pc=b.pc)&&decide (a.done=b.done)&&decide (a.r=b.r)
def stE (zs:List Int)(h:Ht)(b:Br):Int:=if chk zs=0 then (if chkH h=0 then (if chkB b=0 then (if h.done=true then 6 else 0) else chkB b) else chkH h) else chk zs
def stB (b:Br):Int:=(if b.stop=true then 1 else 0)+(if b.lost=true then 2 else 0)
def regB (b:Br)(i:Int):Int:=
 if i=0 then b.mode else if i=1 then b.base else if i=2 then b.op else if i=3 then b.ot else if i=4 then b.oh else if i=5 then b.fp else if i=6 then b.fh else if i=7 then b.ft else if i=8 then b.fen else stB b
def mostB (i:Int):Int:=if i=0 then 2 else if i=1∨i=2∨i=5 then 63 else if i=3∨i=6 then 7 else if i=9 then 0 else -1
def setB (b:Br)(i v:Int):Br:=
 if i=0 then {b with mode:=v} else if i=1 then {b with base:=v} else if i=2 then {b with op:=v} else if i=3 then {b with ot:=v} else if i=5 then {b with fp:=v} else if i=6 then {b with fh:=v} else {b with stop:=false,lost:=false}
def stand (zs:List Int)(h:Ht)(b:Br):List Int × Ht × Br:=(zs,{h with done:=true},b)
def nextP (p:Int):Int:=(p+1)%512
def exeI (zs:List Int)(h:Ht)(b:Br)(k x y i:Int):List Int × Ht × Br:=
 if k=1 then (zs,⟨nextP h.pc,h.r.set x.toNat i,h.done⟩,b)
 else if k=2 then (zs,⟨nextP h.pc,h.r.set x.toNat ((nth h.r x.toNat+nth h.r y.toNat)%65536),h.done⟩,b)
 else if k=3 then (zs,⟨nextP h.pc,h.r.set x.toNat (nth h.r x.toNat*2 ^ i.toNat%65536),h.done⟩,b)
 else if k=4 then (if nth h.r y.toNat+i≤511 then (zs,⟨nextP h.pc,h.r.set x.toNat (nth zs (nth h.r y.toNat+i).toNat),h.done⟩,b) else stand zs h b)
 else if k=5 then (if nth h.r y.toNat+i≤511 then (zs.set (nth h.r y.toNat+i).toNat (nth h.r x.toNat),⟨nextP h.pc,h.r,h.done⟩,b) else stand zs h b)
 else if k=6 then (zs,⟨if nth h.r x.toNat=nth h.r y.toNat then i else nextP h.pc,h.r,h.done⟩,b)
 else if k=7 then (if nth h.r x.toNat≤mostB i then (zs,⟨nextP h.pc,h.r,h.done⟩,setB b i (nth h.r x.toNat)) else stand zs h b)
 else if k=8 then (if i≤9 then (zs,⟨nextP h.pc,h.r.set x.toNat (regB b i),h.done⟩,b) else stand zs h b)
 else stand zs h b
def insW (zs:List Int)(h:Ht):Int:=nth zs h.pc.toNat
def goS (zs:List Int)(h:Ht)(b:Br):List Int × Ht × Br:=
 if riE (insW zs h)=0 then exeI zs h b (riX (insW zs h)).1 (riX (insW zs h)).2.1 (riX (insW zs h)).2.2.1 (riX (insW zs h)).2.2.2 else stand zs h b
def stR (zs:List Int)(h:Ht)(b:Br):List Int × Ht × Br:=if stE zs h b=0 then goS zs h b else ([],H0,B0)
theorem cR {h:Ht}(e:chkH h=0):h.r.length=8∧(0≤h.pc∧h.pc<512)∧∀i,i<8→0≤nth h.r i∧nth h.r i≤65535:=by
 unfold chkH at e
 by_cases h1:h.r.length=8
 ·rw[if_pos h1] at e
  by_cases h2:placeB h.pc=true
  ·rw[if_pos h2] at e
   by_cases h3:h.r.all wordB=true
   ·refine⟨h1,by simpa [placeB] using h2,fun i hi=>?_⟩
    rw[List.all_eq_true] at h3
    have:=h3 (nth h.r i) (by rw[nth,List.getD_eq_getElem?_getD,List.getElem?_eq_getElem (by omega)];exact List.getElem_mem _)
    simpa [wordB] using this
   ·rw[if_neg h3] at e;exact absurd e (by decide)
  ·rw[if_neg h2] at e;exact absurd e (by decide)
 ·rw[if_neg h1] at e;exact absurd e (by decide)
theorem nY {zs:List Int}(h:∀i,i<zs.length→wordB (nth zs i)=true):zs.all wordB=true:=by
 rw[List.all_eq_true]
 intro x hx
 obtain⟨i,hi,rfl⟩:=List.mem_iff_getElem.1 hx
 have:=h i hi
 rwa [nth,List.getD_eq_getElem?_getD,List.getElem?_eq_getElem hi] at this
theorem uV {h:Ht}(h1:h.r.length=8)(h2:0≤h.pc∧h.pc<512)(h3:∀i,i<8→0≤nth h.r i∧nth h.r i≤65535):chkH h=0:=by
 rw[chkH,if_pos h1,if_pos (by simpa [placeB] using h2),if_pos]
 exact nY fun i hi=>by have:=h3 i (by omega);simpa [wordB] using this
theorem oX {zs:List Int}{h:Ht}{b:Br}(e:stE zs h b=0):chk zs=0∧chkH h=0∧chkB b=0∧h.done=false:=by
 unfold stE at e
 by_cases h1:chk zs=0
 ·rw[if_pos h1] at e
  by_cases h2:chkH h=0
  ·rw[if_pos h2] at e
   by_cases h3:chkB b=0
   ·rw[if_pos h3] at e
    by_cases h4:h.done=true
    ·rw[if_pos h4] at e;exact absurd e (by decide)
    ·exact⟨h1,h2,h3,by simpa using h4⟩
   ·rw[if_neg h3] at e;exact absurd e h3
  ·rw[if_neg h2] at e;exact absurd e h2
 ·rw[if_neg h1] at e;exact absurd e h1
theorem tB {zs:List Int}{h:Ht}{b:Br}(h1:chk zs=0)(h2:chkH h=0)(h3:chkB b=0):stE zs h b=if h.done=true then 6 else 0:=by
 rw[stE,if_pos h1,if_pos h2,if_pos h3]
def shl (v:Int):Nat→Int
 | 0=>v
 | n+1=>shl v n*2%65536
theorem oY {v:Int}(h:0≤v∧v≤65535):∀n,shl v n=v*2 ^ n%65536
 | 0=>by simp[shl];omega
 | n+1=>by
  rw[shl,oY h n,Int.pow_succ]
  have:v*(2 ^ n*2)=v*2 ^ n*2:=by rw[Int.mul_assoc]
  rw[this]
  omega
theorem zE {v:Int}(h:0≤v∧v≤65535):∀n,0≤shl v n∧shl v n≤65535
 | 0=>h
 | n+1=>by rw[shl];omega
theorem lR {l:List Int}{i:Nat}(h:i<l.length)(z:Int):nth (l.set i z) i=z:=by simp[nth,h]
theorem iI {l:List Int}{i j:Nat}(h:i≠j)(z:Int):nth (l.set i z) j=nth l j:=by
 simp[nth,List.getElem?_set_ne h]
theorem zF {h:Ht}(hk:chkH h=0){x v:Int}(hv:0≤v∧v≤65535){p:Int}(hp:0≤p∧p<512)(d:Bool):chkH ⟨p,h.r.set x.toNat v,d⟩=0:=by
 obtain⟨h1,h2,h3⟩:=cR hk
 refine uV (by simpa using h1) hp fun i hi=>?_
 by_cases e:x.toNat=i
 ·subst e
  rw[lR (by rw[h1];omega)];exact hv
 ·rw[iI e];exact h3 i hi
theorem gR {h:Ht}(hk:chkH h=0){p:Int}(hp:0≤p∧p<512)(d:Bool):chkH ⟨p,h.r,d⟩=0:=by
 obtain⟨h1,_,h3⟩:=cR hk
 exact uV h1 hp h3
theorem aBv {b:Br}(h:chkB b=0)(i:Int):0≤regB b i∧regB b i≤65535:=by
 obtain⟨g1,g2,g3,_,g5,g6⟩:=bK h
 obtain⟨r1,r2,r3⟩:=dC g5
 obtain⟨s1,s2,s3⟩:=dC g6
 have r1:=dL r1
 have r2:=bS r2
 have r3:=bS r3
 have s1:=dL s1
 have s2:=bS s2
 have s3:=bS s3
 have hs:0≤stB b∧stB b≤3:=by unfold stB;split <;> split <;> omega
 unfold regB
 obtain⟨s,hs'⟩:∃s,stB b=s:=⟨_,rfl⟩
 rw[hs'] at hs ⊢
 by_cases c0:i=0
 ·rw[if_pos c0];omega
 rw[if_neg c0]
 by_cases c1:i=1
 ·rw[if_pos c1];omega
 rw[if_neg c1]
 by_cases c2:i=2
 ·rw[if_pos c2];omega
 rw[if_neg c2]
 by_cases c3:i=3
 ·rw[if_pos c3];omega
 rw[if_neg c3]
 by_cases c4:i=4
 ·rw[if_pos c4];omega
 rw[if_neg c4]
 by_cases c5:i=5
 ·rw[if_pos c5];omega
 rw[if_neg c5]
 by_cases c6:i=6
 ·rw[if_pos c6];omega
 rw[if_neg c6]
 by_cases c7:i=7
 ·rw[if_pos c7];omega
 rw[if_neg c7]
 by_cases c8:i=8
 ·rw[if_pos c8];omega
 rw[if_neg c8]
 omega
theorem vW (b:Br)(i v:Int):(setB b i v).cache=b.cache∧(setB b i v).fen=b.fen∧(setB b i v).oh=b.oh∧(setB b i v).ft=b.ft:=by
 unfold setB;(repeat' split) <;> exact⟨rfl,rfl,rfl,rfl⟩
theorem nZ {b:Br}(h:chkB b=0){i v:Int}(hv:0≤v)(hm:v≤mostB i):chkB (setB b i v)=0:=by
 obtain⟨g1,g2,g3,g4,g5,g6⟩:=bK h
 obtain⟨r1,r2,r3⟩:=dC g5
 obtain⟨s1,s2,s3⟩:=dC g6
 unfold mostB at hm
 unfold setB
 by_cases c0:i=0
 ·rw[if_pos c0] at hm ⊢;exact dO ⟨hv,hm⟩ g2 g3 g4 g5 g6
 rw[if_neg c0] at hm ⊢
 by_cases c1:i=1
 ·rw[if_pos (.inl c1)] at hm;rw[if_pos c1];exact dO g1 ⟨hv,hm⟩ g3 g4 g5 g6
 rw[if_neg c1]
 by_cases c2:i=2
 ·rw[if_pos (.inr (.inl c2))] at hm;rw[if_pos c2];exact dO g1 g2 g3 g4 (gP (by simp[pageR];omega) r2 r3) g6
 rw[if_neg c2]
 by_cases c3:i=3
 ·rw[if_neg (by omega),if_pos (.inl c3)] at hm;rw[if_pos c3];exact dO g1 g2 g3 g4 (gP r1 r2 (by simp[stepR];omega)) g6
 rw[if_neg c3]
 by_cases c5:i=5
 ·rw[if_pos (.inr (.inr c5))] at hm;rw[if_pos c5];exact dO g1 g2 g3 g4 g5 (gP (by simp[pageR];omega) s2 s3)
 rw[if_neg c5]
 by_cases c6:i=6
 ·rw[if_neg (by omega),if_pos (.inr c6)] at hm;rw[if_pos c6];exact dO g1 g2 g3 g4 g5 (gP s1 (by simp[stepR];omega) s3)
 rw[if_neg c6]
 exact dO g1 g2 g3 g4 g5 g6
theorem zG {zs:List Int}{h:Ht}{b:Br}(e:stE zs h b=0):
  (goS zs h b=stand zs h b)∨
  (∃x v:Int,(0≤x∧x≤7)∧(0≤v∧v≤65535)∧goS zs h b=(zs,⟨nextP h.pc,h.r.set x.toNat v,false⟩,b))∨
  (∃q v:Int,(0≤q∧q<512)∧(0≤v∧v≤65535)∧goS zs h b=(zs.set q.toNat v,⟨nextP h.pc,h.r,false⟩,b))∨
  (∃p:Int,(p=nextP h.pc∨(0≤p∧p≤63))∧goS zs h b=(zs,⟨p,h.r,false⟩,b))∨
  (∃i v:Int,(0≤v∧v≤mostB i)∧goS zs h b=(zs,⟨nextP h.pc,h.r,false⟩,setB b i v)):=by
 obtain⟨hz,hh,hb,hd⟩:=oX e
 obtain⟨r1,r2,r3⟩:=cR hh
 obtain⟨z1,z2⟩:=bF hz
 unfold goS
 by_cases hr:riE (insW zs h)=0
 ·rw[if_pos hr]
  obtain⟨⟨k,x,y,i⟩,hX⟩:∃X,riX (insW zs h)=X:=⟨_,rfl⟩
  obtain⟨hi,hw⟩:=oV hr hX
  obtain⟨i1,i2,i3,i4,_⟩:=uU hi
  rw[hX]
  simp only
  have rx:=r3 x.toNat (by omega)
  have ry:=r3 y.toNat (by omega)
  unfold exeI
  rw[hd]
  by_cases c1:k=1
  ·rw[if_pos c1];exact .inr (.inl ⟨x,i,i2,by omega,rfl⟩)
  rw[if_neg c1]
  by_cases c2:k=2
  ·rw[if_pos c2];exact .inr (.inl ⟨x,_,i2,by omega,rfl⟩)
  rw[if_neg c2]
  by_cases c3:k=3
  ·rw[if_pos c3];exact .inr (.inl ⟨x,_,i2,by omega,rfl⟩)
  rw[if_neg c3]
  by_cases c4:k=4
  ·rw[if_pos c4]
   by_cases q:nth h.r y.toNat+i≤511
   ·rw[if_pos q]
    have:=z2 (nth h.r y.toNat+i).toNat (by omega)
    exact .inr (.inl ⟨x,_,i2,by simpa [wordB] using this,rfl⟩)
   ·rw[if_neg q];exact .inl rfl
  rw[if_neg c4]
  by_cases c5:k=5
  ·rw[if_pos c5]
   by_cases q:nth h.r y.toNat+i≤511
   ·rw[if_pos q]
    exact .inr (.inr (.inl ⟨nth h.r y.toNat+i,_,by omega,rx,rfl⟩))
   ·rw[if_neg q];exact .inl rfl
  rw[if_neg c5]
  by_cases c6:k=6
  ·rw[if_pos c6]
   refine .inr (.inr (.inr (.inl ⟨_,?_,rfl⟩)))
   split
   ·exact .inr i4
   ·exact .inl rfl
  rw[if_neg c6]
  by_cases c7:k=7
  ·rw[if_pos c7]
   by_cases q:nth h.r x.toNat≤mostB i
   ·rw[if_pos q]
    exact .inr (.inr (.inr (.inr ⟨i,_,⟨rx.1,q⟩,rfl⟩)))
   ·rw[if_neg q];exact .inl rfl
  rw[if_neg c7]
  by_cases c8:k=8
  ·rw[if_pos c8]
   by_cases q:i≤9
   ·rw[if_pos q]
    exact .inr (.inl ⟨x,_,i2,aBv hb i,rfl⟩)
   ·rw[if_neg q];exact .inl rfl
  rw[if_neg c8]
  exact .inl rfl
 ·rw[if_neg hr];exact .inl rfl
theorem zJ {p:Int}(_:0≤p∧p<512):0≤nextP p∧nextP p<512:=by unfold nextP;omega
def difN (xs ys:List Int):Nat→Nat
 | 0=>0
 | k+1=>difN xs ys k+(if nth xs k=nth ys k then 0 else 1)
theorem eL (xs:List Int):∀k,difN xs xs k=0
 | 0=>rfl
 | k+1=>by rw[difN,eL xs k,if_pos rfl]
theorem lS (xs:List Int)(i:Nat)(z:Int):∀k,difN (xs.set i z) xs k≤(if i<k then 1 else 0)
 | 0=>Nat.le_refl 0
 | k+1=>by
  have:=lS xs i z k
  rw[difN]
  by_cases e:i=k
  ·subst e
   rw[if_neg (by omega)] at this
   rw[if_pos (show i<i+1 by omega)]
   split <;> omega
  ·rw[if_pos (iI e z)]
   split at this <;> split <;> omega
theorem vX {zs ns:List Int}{h g:Ht}{b c:Br}(e:stE zs h b=0)(hg:goS zs h b=(ns,g,c)):
  chk ns=0∧chkH g=0∧chkB c=0∧difN ns zs 512+difN g.r h.r 8≤1∧c.cache=b.cache∧c.fen=b.fen∧c.oh=b.oh∧c.ft=b.ft∧
  (g.done=true→ns=zs∧g.r=h.r∧g.pc=h.pc∧c=b)∧(c=b∨(ns=zs∧g.r=h.r))∧
  (g.pc=nextP h.pc∨(g.done=true∧g.pc=h.pc)∨(g.done=false∧g.pc≤63)):=by
 obtain⟨hz,hh,hb,hd⟩:=oX e
 obtain⟨r1,r2,r3⟩:=cR hh
 obtain⟨z1,z2⟩:=bF hz
 have hn:=zJ r2
 rcases zG e with w|⟨x,v,hx,hv,w⟩|⟨q,v,hq,hv,w⟩|⟨p,hp,w⟩|⟨i,v,hv,w⟩
 all_goals
  rw[hg] at w
  simp only[stand,Prod.mk.injEq] at w
  obtain⟨rfl,rfl,rfl⟩:=w
 ·exact⟨hz,gR hh r2 _,hb,by simp[eL],rfl,rfl,rfl,rfl,fun _=>⟨rfl,rfl,rfl,rfl⟩,.inl rfl,.inr (.inl ⟨rfl,rfl⟩)⟩
 ·refine⟨hz,zF hh hv hn _,hb,?_,rfl,rfl,rfl,rfl,fun q=>absurd q (by simp),.inl rfl,.inl rfl⟩
  have:=lS h.r x.toNat v 8
  simp only[eL]
  split at this <;> omega
 ·refine⟨oO hz (by simpa [wordB] using hv),gR hh hn _,hb,?_,rfl,rfl,rfl,rfl,fun q=>absurd q (by simp),.inl rfl,.inl rfl⟩
  have:=lS zs q.toNat v 512
  simp only[eL]
  split at this <;> omega
 ·refine⟨hz,gR hh (by omega) _,hb,by simp[eL],rfl,rfl,rfl,rfl,fun q=>absurd q (by simp),.inl rfl,?_⟩
  rcases hp with hp|hp
  ·exact .inl hp
  ·exact .inr (.inr ⟨rfl,hp.2⟩)
 ·obtain⟨s1,s2,s3,s4⟩:=vW b i v
  exact⟨hz,gR hh hn _,nZ hb hv.1 hv.2,by simp[eL],s1,s2,s3,s4,fun q=>absurd q (by simp),.inr ⟨rfl,rfl⟩,.inl rfl⟩
def tlE (zs:List Int)(b:Br)(c d p:Int):Int:=if bothB zs b=0 then fE c d p else bothB zs b
def fullB (b:Br):Bool:=b.lost || decide (lenR b.fh b.ft=7)
def tlM (zs:List Int)(b:Br)(c d p:Int)(x:Bool):List Int:=
 if tlE zs b c d p=0 then (if fullB b=true then zs else zs.set (b.fp*8+b.ft).toNat (fW c d p x)) else []
def tlB (zs:List Int)(b:Br)(c d p:Int):Br:=
 if tlE zs b c d p=0 then (if fullB b=true then {b with lost:=true} else {b with ft:=(b.ft+1)%8}) else B0
def obE (zs:List Int)(b:Br):Int:=if bothB zs b=0 then (if b.stop=true then 6 else if b.oh=b.ot then 6 else 0) else bothB zs b
def ordW (zs:List Int)(b:Br):Int:=nth zs (b.op*8+b.oh).toNat
def obB (zs:List Int)(b:Br):Br:=
 if obE zs b=0 then
  (if roE (ordW zs b)=0 then {b with oh:=(b.oh+1)%8,cache:=drC b.cache (roO (ordW zs b)).1 (roO (ordW zs b)).2.1 (roO (ordW zs b)).2.2,fen:=if (roO (ordW zs b)).1=0 then (b.fen+1)%1000 else b.fen}
  else {b with stop:=true})
 else B0
theorem tlE_ok {zs:List Int}{b:Br}{c d p:Int}(h:tlE zs b c d p=0):chk zs=0∧chkB b=0∧fE c d p=0:=by
 unfold tlE at h
 by_cases hb:bothB zs b=0
 ·rw[if_pos hb] at h
  exact⟨(bL hb).1,(bL hb).2,h⟩
 ·rw[if_neg hb] at h;exact absurd h hb
theorem oZ {c d p:Int}(x:Bool)(h:fE c d p=0):wordB (fW c d p x)=true:=by
 have:=(yW (f_back (x:=x) h).1).1
 simp[wordB];omega
theorem uW {zs:List Int}{b:Br}{c d p:Int}(x:Bool)(h:tlE zs b c d p=0):chk (tlM zs b c d p x)=0∧chkB (tlB zs b c d p)=0∧(tlB zs b c d p).lost=fullB b:=by
 obtain⟨h1,h2,h3⟩:=tlE_ok h
 obtain⟨g1,g2,g3,g4,g5,g6⟩:=bK h2
 rw[tlM,if_pos h,tlB,if_pos h]
 by_cases hf:fullB b=true
 ·rw[if_pos hf,if_pos hf]
  exact⟨h1,dO g1 g2 g3 g4 g5 g6,hf.symm⟩
 ·rw[if_neg hf,if_neg hf]
  obtain⟨r1,r2,r3⟩:=dC g6
  have hl:b.lost=false:=by
   simp only[fullB,Bool.or_eq_true,not_or] at hf
   simpa using hf.1
  refine⟨oO h1 (oZ x h3),dO g1 g2 g3 g4 g5 (gP r1 r2 ?_),?_⟩
  ·simp[stepR];omega
  ·have:fullB b=false:=by simpa using hf
   rw[this];exact hl
theorem zK {zs:List Int}{b:Br}(h:obE zs b=0):chk zs=0∧chkB b=0∧b.stop=false∧¬b.oh=b.ot:=by
 unfold obE at h
 by_cases hb:bothB zs b=0
 ·rw[if_pos hb] at h
  by_cases hs:b.stop=true
  ·rw[if_pos hs] at h;exact absurd h (by decide)
  ·rw[if_neg hs] at h
   by_cases he:b.oh=b.ot
   ·rw[if_pos he] at h;exact absurd h (by decide)
   ·exact⟨(bL hb).1,(bL hb).2,by simpa using hs,he⟩
 ·rw[if_neg hb] at h;exact absurd h hb
theorem tC {zs:List Int}{b:Br}(h:obE zs b=0)(hr:¬roE (ordW zs b)=0):obB zs b={b with stop:=true}∧chkB (obB zs b)=0:=by
 obtain⟨_,h2,_,_⟩:=zK h
 obtain⟨g1,g2,g3,g4,g5,g6⟩:=bK h2
 have e:obB zs b={b with stop:=true}:=by rw[obB,if_pos h,if_neg hr]
 rw[e]
 exact⟨rfl,dO g1 g2 g3 g4 g5 g6⟩
theorem lU {zs:List Int}{b:Br}{k d p:Int}(h:obE zs b=0)(hr:roE (ordW zs b)=0)(ho:roO (ordW zs b)=(k,d,p)):
  obB zs b={b with oh:=(b.oh+1)%8,cache:=drC b.cache k d p,fen:=if k=0 then (b.fen+1)%1000 else b.fen}∧chkB (obB zs b)=0∧drE b.cache k=0∧(0≤k∧k≤3)∧lenR ((b.oh+1)%8) b.ot=lenR b.oh b.ot-1:=by
 obtain⟨_,h2,_,h4⟩:=zK h
 obtain⟨g1,g2,g3,g4,g5,g6⟩:=bK h2
 obtain⟨r1,r2,r3⟩:=dC g5
 have hk:0≤k∧k≤3:=by
  have:=(oE_ok (o_read hr ho).1).1
  omega
 have hd:drE b.cache k=0:=by rw[drE,if_pos g4,if_pos hk]
 have e:obB zs b={b with oh:=(b.oh+1)%8,cache:=drC b.cache k d p,fen:=if k=0 then (b.fen+1)%1000 else b.fen}:=by
  rw[obB,if_pos h,if_pos hr,ho]
 refine⟨e,?_,hd,hk,?_⟩
 ·rw[e]
  refine dO g1 g2 ?_ (vR hd) (gP r1 ?_ r3) g6
  ·show 0≤(if k=0 then (b.fen+1)%1000 else b.fen)∧(if k=0 then (b.fen+1)%1000 else b.fen)≤999
   split <;> omega
  ·simp[stepR];omega
 ·have a:=bS r2
  have c:=bS r3
  unfold lenR;omega
end Go.Proofs.YthlhocneggcekaaGreat
