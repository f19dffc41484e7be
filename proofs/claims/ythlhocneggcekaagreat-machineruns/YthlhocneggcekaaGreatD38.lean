/-
  Laid together: HHart.
-/
import Derived.Test.YthlhocneggcekaaGreatD28
namespace Go.Proofs.YthlhocneggcekaaGreat
open Go.RowKit
set_option maxRecDepth 10000 in
set_option maxHeartbeats 1000000 in
theorem clone8 (b o:Nat)(c:Nat)(zs:List Int)(w:World)(h:Sl w (.slice (some ⟨b,o,none⟩) 8 c) zs)(hn:zs.length=8):
  Calls Tryz.prog 133 #[.slice (some ⟨b,o,none⟩) 8 c] w fun e w'=>∃g cap,e=.returned (.slice (some ⟨g,0,none⟩) 8 cap)∧OwnI w' w.heap.size (.slice (some ⟨g,0,none⟩) 8 cap) zs∧Below w.heap.size w w':=by
 have HS:Hid (Sl w (.slice (some ⟨b,o,none⟩) 8 c) zs):=h
 have HN:Hid (zs.length=8):=hn
 clear h hn
 have H1:Hid (OwnI (w.alloc (.cells #[] 3)) w.heap.size (.slice (some ⟨w.heap.size,0,none⟩) 0 0) []):=kT w w.heap.size (Nat.le_refl _)
 have heq:∀wx,Sem.run Tryz.prog (binOp .eql 22 (.slice (some ⟨b,o,none⟩) 8 c) (.slice none 0 0)) wx=.ok (.bool false) wx:=fun wx=>by kernel_rfl
 go_enter Tryz.func133,Tryz.ntmps133
 go_wp2_with (at_builtin;refine gG rfl (.tmp 5) (.tmp 6) rfl w.heap.size _ _ [] zs rfl rfl H1.out ?hc ?hl ?hbase ?hne ?hrest)
 case hbase=>simp
 case hl=>have:=HN.out;simp;omega
 case hne=>intro e;have:=HN.out;rw[e] at this;simp at this
 case hc=>exact HS.out.keep (aA (Below.refl _ _) _)
 intro g cap w2 hown hgr hbel hat
 have HO:Hid (OwnI w2 w.heap.size (.slice (some ⟨g,0,none⟩) 8 cap) zs):=by
  show OwnI _ _ _ _
  have:=hown
  rw[HN.out] at this
  exact this
 have BB:Hid (Below w.heap.size w w2):=(aA (Below.refl _ _) (.cells #[] 3)).trans hbel
 rw[HN.out]
 clear hown hgr hbel hat
 go_wp2
 go_ret
 exact⟨g,cap,rfl,HO.out,BB.out⟩
set_option maxRecDepth 10000 in
set_option maxHeartbeats 4000000 in
theorem mM (am:Option Addr)(nm cm:Nat)(pc:Int)(rs:List Int)(mo ba op oh ot fe fp fh ft:Int)(st lo:Bool)(ca:Option Addr)(ck cc:Nat)(d:Bool)(w:World)(h8:rs.length=8):
  Calls Tryz.prog 103 #[.agg (rS (.slice am nm cm) pc rs mo ba (.slice ca ck cc) op oh ot st fe fp fh ft lo),.bool d] w fun e w'=>∃g cap,e=.returned (.agg #[J pc,.slice (some ⟨g,0,none⟩) 8 cap,.bool d])∧Sl w' (.slice (some ⟨g,0,none⟩) 8 cap) rs∧w.heap.size≤g∧Below w.heap.size w w':=by
 have H8:Hid (rs.length=8):=h8
 clear h8
 go_enter Tryz.func103,Tryz.ntmps103
 go_upto_region 1 with fail
 have X0:=(Box.newAt (w:=w) (n:=w.heap.size) rfl 154 (rS (.slice am nm cm) pc rs mo ba (.slice ca ck cc) op oh ot st fe fp fh ft lo)).past (.cells zH 26)
 have W2:Hid (((w.alloc (.cells (rS (.slice am nm cm) pc rs mo ba (.slice ca ck cc) op oh ot st fe fp fh ft lo) 154)).alloc (.cells zH 26)).heap.size=w.heap.size+1+1):=by show _=_;simp
 have X1:=Box.newAt (w:=w.alloc (.cells (rS (.slice am nm cm) pc rs mo ba (.slice ca ck cc) op oh ot st fe fp fh ft lo) 154)) (n:=w.heap.size+1) (by simp) 26 zH
 have B0:Hid (Below w.heap.size w _):=aA (aA (Below.refl w.heap.size w) (.cells (rS (.slice am nm cm) pc rs mo ba (.slice ca ck cc) op oh ot st fe fp fh ft lo) 154)) (.cells zH 26)
 generalize ((w.alloc (.cells (rS (.slice am nm cm) pc rs mo ba (.slice ca ck cc) op oh ot st fe fp fh ft lo) 154)).alloc (.cells zH 26))=W at *
 have HSL:Hid (∀wz,Below W.heap.size W wz→Sl wz (.slice (some ⟨w.heap.size,2,none⟩) 8 8) rs):=fun wz hz=>
  ⟨_,8,by rw[H8.out],by rw[H8.out];simp[maxLen],.inr ⟨w.heap.size,2,rfl,Nat.lt_of_lt_of_le X0.lt hz.size,fun i hi=>(X0.keep hz).reg (by rw[H8.out] at hi;exact hi)⟩⟩
 refine cA (by kernel_rfl) 7 (fun w'=>Below W.heap.size W w') (Below.drew (Below.refl _ _)) (fun hHeld=>?_)
 have CF:Cl (fun w'=>Below W.heap.size W w') _:=⟨fun wz hSz=>(X0.keep hSz).state0⟩
 refine tkL 0 rfl ?_
 refine tkL 1 rfl ?_
 refine tkL 2 rfl ?_
 refine tkL 3 rfl ?_
 refine tkL 5 rfl ?_
 refine bP (i:=4) (by kernel_rfl) (by rfl) (fun K hK=>?_)
 go_simp
 refine (clone8 _ _ _ rs _ (HSL.out _ hHeld) H8.out).mono ?_
 rintro e w5 ⟨g,cap,rfl,hO,b5⟩
 have HO:Hid (OwnI w5 W.drew.heap.size (.slice (some ⟨g,0,none⟩) 8 cap) rs):=hO
 clear hO
 go_wp2_with fail
 refine hK.out _ _ (fun _=>aB hHeld b5) ?_
 clear hK K
 have hHeld5:Below W.heap.size W w5:=aB hHeld b5
 refine tkL 6 rfl ?_
 have X1:=X1.keep hHeld5
 obtain⟨a0,a1,a2,f0,f1,f2,s1⟩:=X1.three
 refine bP (i:=7) (by kernel_rfl) (by rfl) (fun K hK=>?_)
 go_simp
 refine hK.out _ _ (fun h=>absurd h (by decide)) ?_
 clear hK K
 refine cZ (by kernel_rfl) ?_ _
 have hg:W.heap.size≤g:=OwnI.base HO.out g rfl
 have hW:=X0.lt
 have B5:Hid (Below w.heap.size w w5):=aB B0.out hHeld5
 have hb5:=b5.size
 have hw2:w.heap.size+1<W.heap.size:=by have:=W2.out;omega
 clear hHeld hHeld5 b5
 go_wp2_with fail
 refine bodyPost_ret (v:=.agg #[J pc,.slice (some ⟨g,0,none⟩) 8 cap,.bool d]) (by simp[results,Tryz.results103,go_sem, *]) rfl ⟨g,cap,rfl,?_,?_,?_⟩
 ·refine Sl.setOther (Sl.setOther (Sl.setOther (OwnI.sl HO.out (by rw[H8.out];simp[maxLen])) ?_ _) ?_ _) ?_ _ <;> (simp[Value.ownBlock];omega)
 ·omega
 ·exact bO (by omega) B5.out _ _ _
end Go.Proofs.YthlhocneggcekaaGreat
