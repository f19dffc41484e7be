/-
  Laid together: MRow, SteppedB, SteppedW.
-/
import Derived.Test.YthlhocneggcekaaGreatD25
import Derived.Test.YthlhocneggcekaaGreatD26
namespace Go.Proofs.YthlhocneggcekaaGreat
open Go.RowKit
theorem infoTo:(Tryz.prog.info? 40).map (·.size)=some 4:=by kernel_rfl
theorem infoH:(Tryz.prog.info? 37).map (·.size)=some 7:=by kernel_rfl
theorem Box.loadT {w:World}{n:Nat}{t:TypeId}{cs:Array Value}(h:Box w n t cs)(hs:cs.size=4):(loadVar 40 ⟨n,0,none⟩).run Tryz.prog w=.ok (.agg cs) w:=
 run_loadVar_row w n t 40 cs (0,0) _ h Tryz.underlying40 rfl (by rw[infoTo,hs])
theorem Box.loadH {w:World}{n:Nat}{t:TypeId}{cs:Array Value}(h:Box w n t cs)(hs:cs.size=7):(loadVar 37 ⟨n,0,none⟩).run Tryz.prog w=.ok (.agg cs) w:=
 run_loadVar_row w n t 37 cs (0,0) _ h Tryz.underlying37 rfl (by rw[infoH,hs])
theorem KeptB.setRow {may:Nat→Prop}{a w:World}(h:KeptB may a w){n:Nat}(hp:may n∨a.heap.size≤n)(new:Array Value):KeptB may a (w.setRow n new):=
 ⟨h.os,h.tape,h.output,by simpa [World.setRow] using h.size,fun k hk hm=>(setRow_other w n k new (fun e=>by
  subst e
  rcases hp with hp|hp
  ·exact hm hp
  ·omega)).trans (h.block k hk hm)⟩
theorem aF {w:World}{ops:Array Oper}{o:Oper}{a:Act}{K:Act→World→Prop}{Q:Exit→Act→World→Prop}{E:Prop}(hgd:o.guard=none)(ty:TypeId)(x y:Operand)(ho:o.op=.store ty x y)
  (g:Nat) (cells:Array Value) (hx:a.eval x=.pointer (some ⟨g,0,none⟩)) (hy:a.eval y=.agg cells) (t:TypeId) (old:Array Value) (hg:Box w g t old) (hi:(Tryz.prog.info? ty).map (·.size)=some cells.size)
  (hold:old.size=cells.size) (h1:cells.all (·.oneCell')=true) (h:K (a.put o.dst undef) (w.setRow g cells)):
  if Region.wanted o (yielded ops a.tmps)=true then Oper.wp Tryz.prog o a w K Q else E:=by
 have hw:Region.wanted o (yielded ops a.tmps)=true:=by simp[Region.wanted,hgd]
 rw[if_pos hw]
 exact wp_store_row ty x y ho g cells hx hy t old hg hi hold h1 h
section
open Go
variable {P:Program} {ops:Array Oper} {Q:Exit→Act→World→Prop} {md:Region.Mode} {S:World→Prop}
theorem iD {i j k:Nat}{o o2 o3:Oper}{n:Nat}{listed:Array Bool}{a:Act}{w:World}(hr:Region.ready md ops listed=[i,j,k])(ho:opL ops.toList i=some o)(ho2:opL ops.toList j=some o2)(ho3:opL ops.toList k=some o3)
  (h:∀K':Act→World→Prop,Shut (∀a w,S w→(S w→wpAnyH P md ops Q S n (listed.setIfInBounds i true) a w)→K' a w)→if Region.wanted o (yielded ops a.tmps)=true then Oper.wp P o a w K' Q else K' (a.put o.dst undef) w)
  (h2:∀K':Act→World→Prop,Shut (∀a w,S w→(S w→wpAnyH P md ops Q S n (listed.setIfInBounds j true) a w)→K' a w)→if Region.wanted o2 (yielded ops a.tmps)=true then Oper.wp P o2 a w K' Q else K' (a.put o2.dst undef) w)
  (h3:∀K':Act→World→Prop,Shut (∀a w,S w→(S w→wpAnyH P md ops Q S n (listed.setIfInBounds k true) a w)→K' a w)→if Region.wanted o3 (yielded ops a.tmps)=true then Oper.wp P o3 a w K' Q else K' (a.put o3.dst undef) w):
  wpAnyH P md ops Q S (n+1) listed a w:=wpAnyH_ready hr (by simp) (AllReadyH.cons (bY ho) h (AllReadyH.cons (bY ho2) h2 (AllReadyH.cons (bY ho3) h3 AllReadyH.nil)))
end
def IsT (w:World)(t:To)(cs:Array Value):Prop:=∃a4 n4 c4 a5 n5 c5,cs=#[.bool t.done,.slice a4 n4 c4,J t.f,.slice a5 n5 c5]∧Sl w (.slice a4 n4 c4) t.dat∧Ts w (.slice a5 n5 c5) t.tch
def IsH (w:World)(x:Hp)(cs:Array Value):Prop:=∃a6 n6 c6,cs=#[J x.kind,J x.num,J x.d,J x.a,J x.n,.bool x.wr,.slice a6 n6 c6]∧Sl w (.slice a6 n6 c6) x.ds
def OffRow (bad:Nat→Prop)(cs:Array Value):Prop:=∀(i:Nat) (v:Value),cs[i]?=some v→Off bad v
theorem OffRow.less {a b:Nat→Prop}{cs:Array Value}(h:OffRow b cs)(k:∀q,a q→b q):OffRow a cs:=fun i v hv=>(h i v hv).less k
theorem IsT.size {w:World}{t:To}{cs:Array Value}(h:IsT w t cs):cs.size=4∧cs.all (·.oneCell')=true:=by
 obtain⟨a4,n4,c4,a5,n5,c5,rfl,-⟩:=h;exact⟨rfl,by simp[Value.oneCell']⟩
theorem IsH.size {w:World}{x:Hp}{cs:Array Value}(h:IsH w x cs):cs.size=7∧cs.all (·.oneCell')=true:=by
 obtain⟨a6,n6,c6,rfl,-⟩:=h;exact⟨rfl,by simp[Value.oneCell']⟩
theorem IsT.keep {w w':World}{t:To}{cs:Array Value}(h:IsT w t cs)(hb:Below w.heap.size w w'):IsT w' t cs:=by
 obtain⟨a4,n4,c4,a5,n5,c5,rfl,h1,h2⟩:=h;exact⟨a4,n4,c4,a5,n5,c5,rfl,h1.keep hb,h2.keep hb⟩
theorem IsH.keep {w w':World}{x:Hp}{cs:Array Value}(h:IsH w x cs)(hb:Below w.heap.size w w'):IsH w' x cs:=by
 obtain⟨a6,n6,c6,rfl,h1⟩:=h;exact⟨a6,n6,c6,rfl,h1.keep hb⟩
theorem IsM.kept {bad may:Nat→Prop}{w w':World}{m:Mc}{cs:Array Value}(h:IsM w m cs)(k:KeptB may w w')(o:OffRow bad cs)(hm:∀q,may q→bad q):IsM w' m cs:=by
 obtain⟨a1,n1,c1,a2,n2,c2,a3,n3,c3,rfl,h1,h2,h3⟩:=h
 exact⟨a1,n1,c1,a2,n2,c2,a3,n3,c3,rfl,h1.kept k (fun q hq hb=>o 0 _ rfl q hq (hm q hb)),h2.kept k (fun q hq hb=>o 2 _ rfl q hq (hm q hb)),h3.kept k (fun q hq hb=>o 6 _ rfl q hq (hm q hb))⟩
theorem IsT.kept {bad may:Nat→Prop}{w w':World}{t:To}{cs:Array Value}(h:IsT w t cs)(k:KeptB may w w')(o:OffRow bad cs)(hm:∀q,may q→bad q):IsT w' t cs:=by
 obtain⟨a4,n4,c4,a5,n5,c5,rfl,h1,h2⟩:=h
 exact⟨a4,n4,c4,a5,n5,c5,rfl,h1.kept k (fun q hq hb=>o 1 _ rfl q hq (hm q hb)),h2.kept k (fun q hq hb=>o 3 _ rfl q hq (hm q hb))⟩
def zeroM:Array Value:=zM
def zeroT:Array Value:=zT
theorem jK (w:World):IsM w M0 zeroM:=⟨none,0,0,none,0,0,none,0,0,rfl,Sl.nil _ none 0,Sl.nil _ none 0,Ls.nothing _⟩
theorem sC (w:World):IsT w T0 zeroT:=⟨none,0,0,none,0,0,rfl,Sl.nil _ none 0,Ts.nothing _⟩
theorem vJ (bad:Nat→Prop)(k:IntKind)(z:Int):Off bad (.int k z):=fun q hq=>by simp[Value.ownBlock] at hq
theorem sD (bad:Nat→Prop)(b:Bool):Off bad (.bool b):=fun q hq=>by simp[Value.ownBlock] at hq
theorem oF {bad:Nat→Prop}{cs:Array Value}(h:∀v∈cs.toList,Off bad v):OffRow bad cs:=fun i v hv=>h v (by
 rw[←Array.getElem?_toList] at hv
 exact List.mem_of_getElem? hv)
theorem offM {bad:Nat→Prop}{v u l:Value}{p i0 i1 i3 i4 i5 i7 i8 i9 i10:Int}{d b6 b11:Bool}(h1:Off bad v)(h2:Off bad u)(h3:Off bad l):
  OffRow bad (rM v p u d i0 i1 l i3 i4 i5 b6 i7 i8 i9 i10 b11):=oF (by
 intro x hx
 simp only[List.mem_cons,List.not_mem_nil,or_false] at hx
 rcases hx with rfl|rfl|rfl|rfl|rfl|rfl|rfl|rfl|rfl|rfl|rfl|rfl|rfl|rfl|rfl|rfl
 all_goals first|assumption|exact vJ _ _ _|exact sD _ _)
theorem offT {bad:Nat→Prop}{v u:Value}{f:Int}{d:Bool}(h1:Off bad v)(h2:Off bad u):OffRow bad #[.bool d,v,J f,u]:=oF (by
 intro x hx
 simp only[List.mem_cons,List.not_mem_nil,or_false] at hx
 rcases hx with rfl|rfl|rfl|rfl
 all_goals first|assumption|exact vJ _ _ _|exact sD _ _)
theorem gV (bad:Nat→Prop):OffRow bad zeroM:=offM (Off.none _ _ _) (Off.none _ _ _) (Off.none _ _ _)
theorem oG (bad:Nat→Prop):OffRow bad zeroT:=offT (Off.none _ _ _) (Off.none _ _ _)
def HapRow (bad:Nat→Prop)(m:Mc)(x:Hp)(w':World)(cs1 cs2:Array Value):Prop:=
 (cs1.size=16∧cs1.all (·.oneCell')=true)∧(cs2.size=4∧cs2.all (·.oneCell')=true)∧(hpE m x=0→IsM w' (hpR m x).1 cs1∧IsT w' (hpR m x).2 cs2∧OffRow bad cs1∧OffRow bad cs2)
theorem HapRow.kept {bad may:Nat→Prop}{m:Mc}{x:Hp}{w w':World}{cs1 cs2:Array Value}(h:HapRow bad m x w cs1 cs2)(k:KeptB may w w')(hm:∀q,may q→bad q):HapRow bad m x w' cs1 cs2:=
 ⟨h.1,h.2.1,fun h0=>by obtain⟨h1,h2,o1,o2⟩:=h.2.2 h0;exact⟨h1.kept k o1 hm,h2.kept k o2 hm,o1,o2⟩⟩
theorem HapRow.less {a b:Nat→Prop}{m:Mc}{x:Hp}{w:World}{cs1 cs2:Array Value}(h:HapRow b m x w cs1 cs2)(k:∀q,a q→b q):HapRow a m x w cs1 cs2:=
 ⟨h.1,h.2.1,fun h0=>by obtain⟨h1,h2,o1,o2⟩:=h.2.2 h0;exact⟨h1,h2,o1.less k,o2.less k⟩⟩
theorem eC {w:World}{n base:Nat}(h:n=w.heap.size)(hb:base≤w.heap.size):OwnI (w.alloc (.cells #[] 3)) base (.slice (some ⟨n,0,none⟩) 0 0) []:=by
 subst h;exact kT w base hb
theorem keep2H {W w':World}{a:Nat}{u0 u1:Value}(h0:W.cell? ⟨a,0,none⟩=some u0)(h1:W.cell? ⟨a,1,none⟩=some u1)(ha:a<W.heap.size)(hb:Below W.heap.size W w'):
  w'.cell? ⟨a,0,none⟩=some u0∧w'.cell? ⟨a,1,none⟩=some u1∧Below W.heap.size W w':=⟨((bcell hb).1 a 0 ha).trans h0,((bcell hb).1 a 1 ha).trans h1,hb⟩
theorem limb2H {A B C:Prop}(h:A∧B∧C):C:=h.2.2
theorem ord2 {W w7:World}{lit:Obj}{cs:Array Value}{t:TypeId}{n c:Nat}(hgr:(((W.alloc lit).alloc (.cells cs t)).drew).grownBy w7 (Value.slice (some ⟨W.heap.size,0,none⟩) n c).ownBlock):Box w7 (W.heap.size+1) t cs:=
 (hgr.block (W.heap.size+1) (by simp) (by simp[Value.ownBlock])).trans (Box.newAt (by simp) t cs)
theorem ord3 {W w7:World}{lit:Obj}{cs:Array Value}{t:TypeId}{n c:Nat}(hgr:(((W.alloc (.cells cs t)).alloc lit).drew).grownBy w7 (Value.slice (some ⟨W.heap.size+1,0,none⟩) n c).ownBlock):Box w7 W.heap.size t cs:=
 (hgr.block W.heap.size (by simp;omega) (by simp[Value.ownBlock])).trans ((Box.newAt (w:=W) rfl t cs).past lit)
theorem dQ {w:World}{base g n c k:Nat}{cs:Array Value}{r:List Int}(h:OwnI w base (.slice (some ⟨g,0,none⟩) n c) r)(hb:Box w k 26 cs):g≠k:=by
 obtain⟨cur,_,_,hg,_⟩:=h.open
 intro e
 subst e
 unfold Box at hb
 rw[hb] at hg
 simp at hg
theorem OwnI.far3 {w:World}{base g n c m:Nat}{r:List Int}(h:OwnI w base (.slice (some ⟨g,0,none⟩) n c) r)(hp:g≠m)(u0 u1 u2:Value):
  OwnI (((w.setCell ⟨m,0,none⟩ u0).setCell ⟨m,1,none⟩ u1).setCell ⟨m,2,none⟩ u2) base (.slice (some ⟨g,0,none⟩) n c) r:=
 h.keep fun k hk=>by
  have hk':g=k:=by simpa [Value.ownBlock] using hk
  subst hk'
  rw[heap_setCell_other _ ⟨m,2,none⟩ g u2 hp,heap_setCell_other _ ⟨m,1,none⟩ g u1 hp,heap_setCell_other _ ⟨m,0,none⟩ g u0 hp]
theorem fR {p:Int}(h0:0≤p)(h1:p<512):(IntKind.i64.wrap (p+1)).tmod 512=nextP p:=by
 rw[cF _ (by omega) (by omega),Int.tmod_eq_emod_of_nonneg (by omega)];rfl
theorem OwnI.setLow {w:World}{base m i:Nat}{v:Value}{l:List Int}(hp:m<base)(h:OwnI w base v l)(u:Value):OwnI (w.setCell ⟨m,i,none⟩ u) base v l:=
 h.keep fun k hk=>heap_setCell_other w ⟨m,i,none⟩ k u (by have:=h.base k hk;show k≠m;omega)
theorem OwnI.far1 {w:World}{base g n c m i:Nat}{r:List Int}(h:OwnI w base (.slice (some ⟨g,0,none⟩) n c) r)(hp:g≠m)(u:Value):OwnI (w.setCell ⟨m,i,none⟩ u) base (.slice (some ⟨g,0,none⟩) n c) r:=
 h.keep fun k hk=>by
  have hk':g=k:=by simpa [Value.ownBlock] using hk
  subst hk'
  exact heap_setCell_other _ ⟨m,i,none⟩ g u hp
theorem info1:(Tryz.prog.info? 24).map (·.size)=some 1:=by kernel_rfl
theorem info3:(Tryz.prog.info? 26).map (·.size)=some 3:=by kernel_rfl
theorem info12:(Tryz.prog.info? 31).map (·.size)=some 12:=by kernel_rfl
structure Six (W:World)(N:Nat)(m u:Value)(p:Int)(R:Array Value):Prop where
 x0:Box W N 24 #[m]
 x1:Box W (N+1) 26 #[J p,u,.bool false]
 x2:Box W (N+1+1) 31 R
 x3:Box W (N+1+1+1) 24 #[.slice none 0 0]
 x4:Box W (N+1+1+1+1) 26 zH
 x5:Box W (N+1+1+1+1+1) 31 zB
theorem Six.map {W W':World}{N:Nat}{m u:Value}{p:Int}{R:Array Value}(h:Six W N m u p R)(f:∀{k:Nat} {t:TypeId} {cs:Array Value},k<N+6→Box W k t cs→Box W' k t cs):Six W' N m u p R:=
 ⟨f (by omega) h.x0,f (by omega) h.x1,f (by omega) h.x2,f (by omega) h.x3,f (by omega) h.x4,f (by omega) h.x5⟩
theorem Six.keep {W W':World}{N:Nat}{m u:Value}{p:Int}{R:Array Value}(h:Six W N m u p R)(b:Below W.heap.size W W'):Six W' N m u p R:=h.map fun _ x=>x.keep b
theorem Six.past {W:World}{N:Nat}{m u:Value}{p:Int}{R:Array Value}(h:Six W N m u p R)(o:Obj):Six (W.alloc o) N m u p R:=h.map fun _ x=>x.past o
theorem Six.drewN {W:World}{N:Nat}{m u:Value}{p:Int}{R:Array Value}(h:Six W N m u p R)(n:Nat):Six (W.drewN n) N m u p R:=h.map fun _ x=>x.drewN n
theorem Six.drew {W:World}{N:Nat}{m u:Value}{p:Int}{R:Array Value}(h:Six W N m u p R):Six W.drew N m u p R:=h.map fun _ x=>x.drew
theorem Six.other {W:World}{N:Nat}{m u:Value}{p:Int}{R:Array Value}(h:Six W N m u p R){n i:Nat}(hn:N+6≤n)(v:Value):Six (W.setCell ⟨n,i,none⟩ v) N m u p R:=h.map fun hk x=>x.other (p:=⟨n,i,none⟩) (by show _≠n;omega) v
theorem Six.lt {W:World}{N:Nat}{m u:Value}{p:Int}{R:Array Value}(h:Six W N m u p R):N+6≤W.heap.size:=by have:=h.x5.lt;omega
def sixW (w:World)(m u:Value)(p:Int)(R:Array Value):World:=(((((w.alloc (.cells #[m] 24)).alloc (.cells #[J p,u,.bool false] 26)).alloc (.cells R 31)).alloc (.cells #[.slice none 0 0] 24)).alloc (.cells zH 26)).alloc (.cells zB 31)
theorem fS {w:World}{m u:Value}{p:Int}{R:Array Value}:(((((w.alloc (.cells #[m] 24)).alloc (.cells #[J p,u,.bool false] 26)).alloc (.cells R 31)).alloc (.cells #[.slice none 0 0] 24)).alloc (.cells zH 26)).alloc (.cells zB 31)=sixW w m u p R:=rfl
theorem gX (w:World)(m u:Value)(p:Int)(R:Array Value):Six (sixW w m u p R) w.heap.size m u p R∧Below w.heap.size w (sixW w m u p R):=by
 refine⟨⟨(((((Box.newAt rfl _ _).past _).past _).past _).past _).past _,((((Box.newAt (by simp) _ _).past _).past _).past _).past _,(((Box.newAt (by simp) _ _).past _).past _).past _,((Box.newAt (by simp) _ _).past _).past _,(Box.newAt (by simp) _ _).past _,Box.newAt (by simp) _ _⟩,?_⟩
 exact aA (aA (aA (aA (aA (aA (Below.refl _ _) _) _) _) _) _) _
theorem aAy {tm:Array Value}{V:World}{Q:Ending→World→Prop}{n3 n4 n5:Nat}{c3 c4 c5:Array Value}(h6:tm.getD 6 undef=.pointer (some ⟨n3,0,none⟩))(h7:tm.getD 7 undef=.pointer (some ⟨n4,0,none⟩))(h8:tm.getD 8 undef=.pointer (some ⟨n5,0,none⟩))
  (R3:Box V n3 24 c3) (R4:Box V n4 26 c4) (R5:Box V n5 31 c5) (s3:c3.size=1) (s4:c4.size=3) (s5:c5.size=12) (hQ:Q (.returned (.tuple #[.agg c3,.agg c4,.agg c5])) V):bodyPost Tryz.prog Tryz.f49 Q .ret ⟨tm,[]⟩ V:=by
 refine bodyPost_ret ?_ rfl hQ
 have l3:=run_loadVar_row V n3 24 24 c3 (0,0) _ R3 Tryz.underlying24 rfl (by rw[info1,s3])
 have l4:=run_loadVar_row V n4 26 26 c4 (0,0) _ R4 Tryz.underlying26 rfl (by rw[info3,s4])
 have l5:=run_loadVar_row V n5 31 31 c5 (0,0) _ R5 Tryz.underlying31 rfl (by rw[info12,s5])
 have h6':tm[6]?.getD undef=.pointer (some ⟨n3,0,none⟩):=by simpa using h6
 have h7':tm[7]?.getD undef=.pointer (some ⟨n4,0,none⟩):=by simpa using h7
 have h8':tm[8]?.getD undef=.pointer (some ⟨n5,0,none⟩):=by simpa using h8
 simp[results,Tryz.results49,h6',h7',h8',asAddr,l3,l4,l5]
theorem put3 {V w:World}{N:Nat}{t3 t4 t5:TypeId}{z3 z4 z5:Array Value}(c3 c4 c5:Array Value)(h3:Box V (N+1+1+1) t3 z3)(h4:Box V (N+1+1+1+1) t4 z4)(h5:Box V (N+1+1+1+1+1) t5 z5)(hb:Below w.heap.size w V)(hM:w.heap.size≤N):
  Box (((V.setRow (N+1+1+1) c3).setRow (N+1+1+1+1) c4).setRow (N+1+1+1+1+1) c5) (N+1+1+1) t3 c3∧Box (((V.setRow (N+1+1+1) c3).setRow (N+1+1+1+1) c4).setRow (N+1+1+1+1+1) c5) (N+1+1+1+1) t4 c4∧
  Box (((V.setRow (N+1+1+1) c3).setRow (N+1+1+1+1) c4).setRow (N+1+1+1+1+1) c5) (N+1+1+1+1+1) t5 c5∧Below w.heap.size w (((V.setRow (N+1+1+1) c3).setRow (N+1+1+1+1) c4).setRow (N+1+1+1+1+1) c5):=
 ⟨((h3.setRow c3).otherRow (by omega) c4).otherRow (by omega) c5,((h4.otherRow (by omega) c3).setRow c4).otherRow (by omega) c5,((h5.otherRow (by omega) c3).otherRow (by omega) c4).setRow c5,aG (by omega) (aG (by omega) (aG (by omega) hb _) _) _⟩
theorem OwnI.lowRow {w:World}{base m:Nat}{v:Value}{l:List Int}(h:OwnI w base v l)(hp:m<base)(cs:Array Value):OwnI (w.setRow m cs) base v l:=
 h.keep fun k hk=>setRow_other w m k cs (by have:=h.base k hk;omega)
abbrev StepOutN (v u:Value)(N:Nat)(zs:List Int)(h:Ht)(mo ba op oh ot fe fp fh ft:Int)(st lo:Bool)(vc:Value)(l:List Ln)(w:World)(e:Ending)(w':World):Prop:=
 ∃v1 zs1 p1 u1 r1 d1 mo1 ba1 op1 ot1 fp1 fh1 st1 lo1,e=.returned (.tuple #[.agg #[v1],.agg #[J p1,u1,.bool d1],.agg (rB mo1 ba1 vc op1 oh ot1 st1 fe fp1 fh1 ft lo1)])∧
  Sl w' v1 zs1∧Sl w' u1 r1∧goS zs h ⟨mo,ba,l,op,oh,ot,st,fe,fp,fh,ft,lo⟩=(zs1,⟨p1,r1,d1⟩,⟨mo1,ba1,l,op1,oh,ot1,st1,fe,fp1,fh1,ft,lo1⟩)∧(v1=v∨Fresh w.heap.size v1)∧(u1=u∨Fresh w.heap.size u1)∧Below N w w'
def StC (v:Value)(zs:List Int)(p:Int)(u:Value)(r:List Int)(mo ba op oh ot fe fp fh ft:Int)(st lo:Bool)(vc:Value)(l:List Ln)(w:World):Prop:=
 Calls Tryz.prog 49 #[.agg #[v],.agg #[J p,u,.bool false],.agg (rB mo ba vc op oh ot st fe fp fh ft lo)] w fun e w'=>StepOutN v u w.heap.size zs ⟨p,r,false⟩ mo ba op oh ot fe fp fh ft st lo vc l w e w'
structure StP (v:Value)(zs:List Int)(p:Int)(u:Value)(r:List Int)(mo ba op oh ot fe fp fh ft:Int)(st lo:Bool)(vc:Value)(l:List Ln)(w:World)(e k x y i:Int):Prop where
 hs:Sl w v zs
 hr:Sl w u r
 h:Ls w vc l
 hE:stE zs ⟨p,r,false⟩ ⟨mo,ba,l,op,oh,ot,st,fe,fp,fh,ft,lo⟩=0
 hI:riE (insW zs ⟨p,r,false⟩)=e
 hX:riX (insW zs ⟨p,r,false⟩)=(k,x,y,i)
structure StF (zs:List Int)(p:Int)(r:List Int)(B:Br)(vc:Value)(w:World)(b o cap rb ro rc:Nat)(e k x y i:Int):Prop where
 hm:Sl w (.slice (some ⟨b,o,none⟩) 512 cap) zs
 hr:Sl w (.slice (some ⟨rb,ro,none⟩) 8 rc) r
 cs:∀j,j<512→w.cell? ⟨b,o+j,none⟩=some (J (nth zs j))
 rs:∀j,j<8→w.cell? ⟨rb,ro+j,none⟩=some (J (nth r j))
 r8:r.length=8
 rw:∀j,j<8→0≤nth r j∧nth r j≤65535
 hz:chk zs=0
 hE:riE (nth zs p.toNat)=e
 hX:riX (nth zs p.toNat)=(k,x,y,i)
 hc:∃a n c,vc=.slice a n c
 bad:¬e=0→goS zs ⟨p,r,false⟩ B=(zs,⟨p,r,true⟩,B)
 ht:e=0→goS zs ⟨p,r,false⟩ B=exeI zs ⟨p,r,false⟩ B k x y i
 hi:e=0→(0≤k∧k≤8)∧(0≤x∧x≤7)∧(0≤y∧y≤7)∧(0≤i∧i≤63)
theorem fT {v:Value}{zs:List Int}{p:Int}{u:Value}{r:List Int}{mo ba op oh ot fe fp fh ft:Int}{st lo:Bool}{vc:Value}{l:List Ln}{w:World}{e k x y i:Int}(hP:StP v zs p u r mo ba op oh ot fe fp fh ft st lo vc l w e k x y i):
  ∃b o cap rb ro rc,v=.slice (some ⟨b,o,none⟩) 512 cap∧u=.slice (some ⟨rb,ro,none⟩) 8 rc∧b<w.heap.size∧rb<w.heap.size∧0≤p∧p<512∧StF zs p r ⟨mo,ba,l,op,oh,ot,st,fe,fp,fh,ft,lo⟩ vc w b o cap rb ro rc e k x y i:=by
 obtain⟨hs,hr,h,hE,hI,hX⟩:=hP
 obtain⟨hz,hh,hb,-⟩:=oX hE
 obtain⟨hr8,⟨hp0,hp1⟩,hrw⟩:=cR hh
 dsimp only at hr8 hp0 hp1 hrw
 obtain⟨ca,ck,rfl,-⟩:=h
 have hs':=hs
 obtain⟨b,o,cap,rfl,hbb,hcs⟩:=hs'.open512 (bF hz).1
 have hr':=hr
 obtain⟨ra,rc,rfl,hrl,hrr⟩:=hr'
 rcases hrr with e|⟨rb,ro,rfl,hrb,hrc⟩
 ·exact absurd hr8 (by rw[e];simp)
 rw[hr8] at hr hrc ⊢
 refine⟨b,o,cap,rb,ro,rc,rfl,rfl,hbb,hrb,hp0,hp1,hs,hr,hcs,hrc,hr8,hrw,hz,hI,hX,⟨_,_,_,rfl⟩,fun he=>?_,fun he=>?_,fun he=>?_⟩
 ·rw[goS,hI,if_neg he];rfl
 ·rw[goS,hI,if_pos he,hX]
 ·subst he
  obtain⟨i1,i2,i3,i4,-⟩:=uU (oV hI hX).1
  exact⟨i1,i2,i3,i4⟩
theorem eX {mo ba op oh ot fe fp fh ft:Int}{st lo:Bool}{vc:Value}(hc:∃a n c,vc=.slice a n c):((rB mo ba vc op oh ot st fe fp fh ft lo):Array Value).size=12∧Array.all (α:=Value) (rB mo ba vc op oh ot st fe fp fh ft lo) (·.oneCell')=true:=by
 obtain⟨a,n,c,rfl⟩:=hc
 exact⟨rfl,by simp[Value.oneCell']⟩
theorem dY {V:World}{N:Nat}{m u:Value}{p:Int}{R:Array Value}{mo ba op oh ot fe fp fh ft:Int}{st lo:Bool}{vc:Value}(A:Six V N m u p R)(hR:R=(rB mo ba vc op oh ot st fe fp fh ft lo))(hc:∃a n c,vc=.slice a n c)(hm:∃a n c,m=.slice a n c)(hu:∃a n c,u=.slice a n c):
  Calls Tryz.prog 77 #[.pointer (some ⟨N+1,0,none⟩),.pointer (some ⟨N,0,none⟩),.pointer (some ⟨N+1+1,0,none⟩)] V fun e w'=>∃c3 c4,e=.returned (.tuple #[.agg c3,.agg c4,.agg R])∧Hid (c3=#[m])∧Hid (c4=#[J p,u,.bool true])∧Hid (c3.size=1∧c3.all (·.oneCell')=true)∧Hid (c4.size=3∧c4.all (·.oneCell')=true)∧ButOne V w' (N+1):=by
 subst hR
 refine (uA (N+1) N (N+1+1) m u p false mo ba op oh ot fe fp fh ft st lo vc V A.x1 A.x0 A.x2 (by omega) (by omega) hu hm hc).mono ?_
 obtain⟨_,_,_,rfl⟩:=hm
 obtain⟨_,_,_,rfl⟩:=hu
 rintro e w' ⟨rfl,K⟩
 exact⟨_,_,rfl,rfl,rfl,⟨rfl,by simp[Value.oneCell']⟩,⟨rfl,by simp[Value.oneCell']⟩,K⟩
theorem Fresh.row {w:World}{b m:Nat}{v:Value}{l:List Int}(f:Fresh b v)(h:Sl w v l)(hm:m<b)(cs:Array Value):Sl (w.setRow m cs) v l:=h.otherRow (f.ne hm) cs
theorem Box.load1 {w:World}{n:Nat}{t:TypeId}{cs:Array Value}(h:Box w n t cs)(hs:cs.size=1):(loadVar 24 ⟨n,0,none⟩).run Tryz.prog w=.ok (.agg cs) w:=run_loadVar_row w n t 24 cs (0,0) _ h Tryz.underlying24 rfl (by rw[info1,hs])
theorem Box.load3 {w:World}{n:Nat}{t:TypeId}{cs:Array Value}(h:Box w n t cs)(hs:cs.size=3):(loadVar 26 ⟨n,0,none⟩).run Tryz.prog w=.ok (.agg cs) w:=run_loadVar_row w n t 26 cs (0,0) _ h Tryz.underlying26 rfl (by rw[info3,hs])
theorem Box.load12 {w:World}{n:Nat}{t:TypeId}{cs:Array Value}(h:Box w n t cs)(hs:cs.size=12):(loadVar 31 ⟨n,0,none⟩).run Tryz.prog w=.ok (.agg cs) w:=run_loadVar_row w n t 31 cs (0,0) _ h Tryz.underlying31 rfl (by rw[info12,hs])
theorem cY {tm:Array Value}{V w:World}{z3 z4 z5 R1:Array Value}{m1 u1 v0 u0:Value}{p1:Int}{d1:Bool}{zs zs1 r1:List Int}{hh:Ht}{mo ba op oh ot fe fp fh ft:Int}{st lo:Bool}{vc:Value}{l:List Ln}{mo1 ba1 op1 ot1 fp1 fh1:Int}{st1 lo1:Bool}
  (h6:tm.getD 6 undef=.pointer (some ⟨w.heap.size+1+1+1,0,none⟩)) (h7:tm.getD 7 undef=.pointer (some ⟨w.heap.size+1+1+1+1,0,none⟩)) (h8:tm.getD 8 undef=.pointer (some ⟨w.heap.size+1+1+1+1+1,0,none⟩))
  (R3:Box V (w.heap.size+1+1+1) 24 z3) (R4:Box V (w.heap.size+1+1+1+1) 26 z4) (R5:Box V (w.heap.size+1+1+1+1+1) 31 z5) (hb:Below w.heap.size w V)
  (hR:R1=(rB mo1 ba1 vc op1 oh ot1 st1 fe fp1 fh1 ft lo1))
  (hT:goS zs hh ⟨mo,ba,l,op,oh,ot,st,fe,fp,fh,ft,lo⟩=(zs1,⟨p1,r1,d1⟩,⟨mo1,ba1,l,op1,oh,ot1,st1,fe,fp1,fh1,ft,lo1⟩))
  (hs:∀V',Below w.heap.size w V'→(∀{base v l},w.heap.size+6≤base→OwnI V base v l→OwnI V' base v l)→(∀{base v l},w.heap.size+6≤base→Fresh base v→Sl V v l→Sl V' v l)→Sl V' m1 zs1∧Sl V' u1 r1) (pv:m1=v0∨Fresh w.heap.size m1) (pu:u1=u0∨Fresh w.heap.size u1):
  bodyPost Tryz.prog Tryz.f49 (fun e w'=>StepOutN v0 u0 w.heap.size zs hh mo ba op oh ot fe fp fh ft st lo vc l w e w') .ret ⟨tm,[]⟩ (((V.setRow (w.heap.size+1+1+1) #[m1]).setRow (w.heap.size+1+1+1+1) #[J p1,u1,.bool d1]).setRow (w.heap.size+1+1+1+1+1) R1):=by
 obtain⟨S3,S4,S5,SB⟩:=put3 #[m1] #[J p1,u1,.bool d1] R1 R3 R4 R5 hb (Nat.le_refl _)
 obtain⟨k1,k2⟩:=hs _ SB (fun hq h=>((h.lowRow (by omega) _).lowRow (by omega) _).lowRow (by omega) _) (fun hq f h=>f.row (f.row (f.row h (by omega) _) (by omega) _) (by omega) _)
 exact aAy h6 h7 h8 S3 S4 S5 rfl rfl (by rw[hR];rfl) ⟨_,zs1,p1,_,r1,d1,mo1,ba1,op1,ot1,fp1,fh1,st1,lo1,by rw[hR],k1,k2,hT,pv,pu,SB⟩
def StN (p:Int)(r:List Int)(W:World)(s:Value)(wx:World):Prop:=
 ∃n g cg,s=.pointer (some ⟨n,0,none⟩)∧Box wx n 26 #[J (nextP p),.slice (some ⟨g,0,none⟩) r.length cg,.bool false]∧OwnI wx W.heap.size (.slice (some ⟨g,0,none⟩) r.length cg) r∧W.heap.size≤n∧Below W.heap.size W wx
structure Src (N n C:Nat)(m:Value)(rh R:Array Value)(w':World):Prop where
 a:Box w' N 24 #[m]
 b:Box w' n 26 rh
 c:Box w' C 31 R
theorem Src.put {N n C:Nat}{m:Value}{rh R:Array Value}{w':World}(h:Src N n C m rh R w'){q:Nat}(hq:N≠q∧n≠q∧C≠q)(cs:Array Value):Src N n C m rh R (w'.setRow q cs):=⟨h.a.otherRow hq.1 cs,h.b.otherRow hq.2.1 cs,h.c.otherRow hq.2.2 cs⟩
set_option maxRecDepth 10000 in
set_option maxHeartbeats 8000000 in
theorem sE (v:Value)(zs:List Int)(p:Int)(u:Value)(r:List Int)(mo ba op oh ot fe fp fh ft:Int)(st lo:Bool)(vc:Value)(l:List Ln)(w:World)(e k x y i:Int)(hP:StP v zs p u r mo ba op oh ot fe fp fh ft st lo vc l w e k x y i)(he:¬e=0):StC v zs p u r mo ba op oh ot fe fp fh ft st lo vc l w:=by
 obtain⟨b,o,cap,rb,ro,rc,rfl,rfl,hbb,hrb,hp0,hp1,hF⟩:=fT hP
 have HF:Hid _:=hF
 obtain⟨R,hR⟩:∃R:Array Value,R=(rB mo ba vc op oh ot st fe fp fh ft lo):=⟨_,rfl⟩
 have HRB:Hid (R=(rB mo ba vc op oh ot st fe fp fh ft lo)):=hR
 have HRS:Hid (R.size=12∧R.all (·.oneCell')=true):=hR ▸ eX hF.hc
 unfold StC
 rw[←hR]
 have gz:=hF.cs p.toNat (by omega)
 obtain⟨z,hz⟩:∃z,nth zs p.toNat=z:=⟨_,rfl⟩
 have HE:Hid (riE z=e):=by have:=hF.hE;rw[hz] at this;exact this
 have HX:Hid (riX z=(k,x,y,i)):=by have:=hF.hX;rw[hz] at this;exact this
 rw[hz] at gz
 clear hP hF hR hz
 go_enter Tryz.func49,Tryz.ntmps49
 go_upto_region 1 with fail
 (try simp only[Value.cells])
 rw[fS]
 obtain⟨A,bw⟩:=gX w (.slice (some ⟨b,o,none⟩) 512 cap) (.slice (some ⟨rb,ro,none⟩) 8 rc) p R
 generalize sixW w (.slice (some ⟨b,o,none⟩) 512 cap) (.slice (some ⟨rb,ro,none⟩) 8 rc) p R=W0 at *
 have gz:=(bw.cell (p:=⟨b,o+p.toNat,none⟩) hbb).trans gz
 have t1:b<W0.heap.size:=Nat.lt_of_lt_of_le hbb bw.size
 have BV:Hid (Below w.heap.size w W0):=bw
 obtain⟨m0,-,s0⟩:=A.x0.one
 obtain⟨h0,h1,h2,-,-,-,s1⟩:=A.x1.three
 clear bw
 go_wp2_with fail
 refine (fQ HE.out HX.out).mono ?_
 rintro _ w1 ⟨rfl,b1⟩
 have hI6:=(A.keep b1).lt
 have A:=(A.keep b1).past (.cells #[J k,J x,J y,J i] 130)
 have XI:=Box.newAt (w:=w1) (n:=w1.heap.size) rfl 130 #[J k,J x,J y,J i]
 have BV:Hid (Below w.heap.size w (w1.alloc (.cells #[J k,J x,J y,J i] 130))):=aA (aB BV.out b1) _
 clear b1 gz t1 m0 s0 h0 h1 h2 s1
 have HT1:Hid (goS zs ⟨p,r,false⟩ ⟨mo,ba,l,op,oh,ot,st,fe,fp,fh,ft,lo⟩=(zs,⟨p,r,true⟩,⟨mo,ba,l,op,oh,ot,st,fe,fp,fh,ft,lo⟩)):=HF.out.bad he
 have hq:(e !=0)=true:=by simpa using he
 have hA:=A.lt
 go_upto_region 4 with fail
 clear XI he
 generalize w1.heap.size=I at *
 generalize (w1.alloc (.cells #[J k,J x,J y,J i] 130))=W at *
 go_wp2_with fail
 refine (dY A HRB.out HF.out.hc ⟨_,_,_,rfl⟩ ⟨_,_,_,rfl⟩).mono ?_
 rintro _ w2 ⟨c3,c4,rfl,h3,h4,g3,g4,K⟩
 have R3:=K.box _ _ _ (by omega) A.x3
 have R4:=K.box _ _ _ (by omega) A.x4
 have R5:=K.box _ _ _ (by omega) A.x5
 have hb:=K.bel w (by omega) BV.out
 clear K A
 go_wp2_with (first
  | fail
  | (refine wpList_store_row rfl 24 _ _ rfl _ _ rfl rfl _ _ R3 (by rw[info1,g3.out.1]) g3.out.1.symm g3.out.2 ?_)
  | (refine wpList_store_row rfl 26 _ _ rfl _ _ rfl rfl _ _ (R4.otherRow (by omega) _) (by rw[info3,g4.out.1]) g4.out.1.symm g4.out.2 ?_)
  | (refine wpList_store_row rfl 31 _ _ rfl _ _ rfl rfl _ _ ((R5.otherRow (by omega) _).otherRow (by omega) _) (by rw[info12,HRS.out.1]) HRS.out.1.symm HRS.out.2 ?_))
 obtain rfl:=h3.out
 obtain rfl:=h4.out
 exact cY (by rfl) (by rfl) (by rfl) R3 R4 R5 hb HRB.out HT1.out (fun _ hb _ _=>⟨HF.out.hm.keep hb,HF.out.hr.keep hb⟩) (.inl rfl) (.inl rfl)
end Go.Proofs.YthlhocneggcekaaGreat
