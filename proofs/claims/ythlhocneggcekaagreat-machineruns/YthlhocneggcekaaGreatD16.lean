/-
  Laid together: Word2, Word3, Word4, Worded.
-/
import Derived.Test.YthlhocneggcekaaGreatD15
namespace Go.Proofs.YthlhocneggcekaaGreat
open Go.RowKit
theorem aB1 {k d p:Int}(hk:0≤k∧k≤3)(hd:0≤d∧d≤7)(hp:0≤p∧p≤63)(h:forO k d p=true):oE k d p=0:=by
 refine iV hk hd hp ?_ ?_
 ·intro ⟨a,b⟩
  have n3:¬k=3:=by omega
  have n2:¬k=2:=by omega
  have nd:¬d=0:=by omega
  simp[forO,n3,n2,nd] at h
 ·intro ⟨a,b⟩
  have n3:¬k=3:=by omega
  have np:¬p=0:=by omega
  by_cases n2:k=2 <;> simp[forO,n3,n2,np] at h
theorem aAh {k d p:Int}(hk:0≤k∧k≤3)(hd:0≤d∧d≤7)(hp:0≤p∧p≤63)(h:forO k d p=false):oE k d p=3:=by
 unfold oE
 rw[if_pos ⟨hk,hd,hp⟩,if_pos]
 by_cases n3:k=3
 ·simp[forO,n3] at h
 by_cases n2:k=2
 ·by_cases np:p=0
  ·simp[forO,n2,np] at h
  ·exact .inr (by omega)
 by_cases nd:d=0
 ·by_cases np:p=0
  ·simp[forO,n2,n3,nd,np] at h
  ·exact .inr (by omega)
 ·exact .inl (by omega)
theorem iK {k d p:Int}(h:¬((0≤k∧k≤3)∧(0≤d∧d≤7)∧(0≤p∧p≤63))):oE k d p=2:=if_neg h
theorem eV {k d p e:Int}(h:oE k d p=e)(hn:¬e=0):oW k d p=0:=if_neg (fun x=>hn (h.symm.trans x))
theorem iL {c d p:Int}(h:¬((1≤c∧c≤5)∧(0≤d∧d≤7)∧(0≤p∧p≤63))):fE c d p=2:=if_neg h
theorem iM {c d p:Int}{x:Bool}(h:fE c d p=2):fW c d p x=0:=if_neg (by rw[h];decide)
set_option maxHeartbeats 1000000 in
theorem pN (k d p:Int)(w:World):
  Calls Tryz.prog 98 #[.agg #[J k,J d,J p]] w fun e w'=>e=.returned (.tuple #[J (oW k d p),J (oE k d p)])∧Below w.heap.size w w':=by
 by_cases k0:k<0
 ·have he:oE k d p=2:=iK (by omega)
  rw[eV he (by decide),he]
  clear he
  go_enter Tryz.func98,Tryz.ntmps98
  go_wp2
  go_ret2
  exact⟨rfl,aA (Below.refl _ _) _⟩
 by_cases k1:3<k
 ·have he:oE k d p=2:=iK (by omega)
  rw[eV he (by decide),he]
  clear he
  go_enter Tryz.func98,Tryz.ntmps98
  go_wp2
  go_ret2
  exact⟨rfl,aA (Below.refl _ _) _⟩
 cases hd:betweenB 0 7 d
 ·have hd':¬(0≤d∧d≤7):=of_decide_eq_false hd
  have he:oE k d p=2:=iK (by omega)
  rw[eV he (by decide),he]
  clear he hd'
  go_enter Tryz.func98,Tryz.ntmps98
  go_wp2_with fail
  refine (dF _ _).mono ?_
  rintro e w1 ⟨rfl,rfl⟩
  rw[hd]
  go_wp2
  go_ret2
  exact⟨rfl,aA (Below.refl _ _) _⟩
 have hd':=aK hd
 cases hp:betweenB 0 63 p
 ·have hp':¬(0≤p∧p≤63):=of_decide_eq_false hp
  have he:oE k d p=2:=iK (by omega)
  rw[eV he (by decide),he]
  clear he hd' hp'
  go_enter Tryz.func98,Tryz.ntmps98
  go_wp2_with fail
  refine (dF _ _).mono ?_
  rintro e w1 ⟨rfl,rfl⟩
  rw[hd]
  go_wp2_with fail
  refine (dU _ _).mono ?_
  rintro e w1 ⟨rfl,rfl⟩
  rw[hp]
  go_wp2
  go_ret2
  exact⟨rfl,aA (Below.refl _ _) _⟩
 have hp':=aK hp
 cases hf:forO k d p
 ·have he:oE k d p=3:=aAh (by omega) hd' hp' hf
  rw[eV he (by decide),he]
  clear he hd' hp'
  go_enter Tryz.func98,Tryz.ntmps98
  go_wp2_with fail
  refine (dF _ _).mono ?_
  rintro e w1 ⟨rfl,rfl⟩
  rw[hd]
  go_wp2_with fail
  refine (dU _ _).mono ?_
  rintro e w1 ⟨rfl,rfl⟩
  rw[hp]
  go_wp2_with fail
  refine (kM _ _ _ _).mono ?_
  rintro e w1 ⟨rfl,o1,rfl⟩
  rw[hf]
  go_wp2
  go_ret2
  exact⟨rfl,aA (aA (Below.refl _ _) _) _⟩
 ·have he:oE k d p=0:=aB1 (by omega) hd' hp' hf
  rw[kF he,he]
  clear he
  obtain⟨d0,d1⟩:=hd'
  obtain⟨p0,p1⟩:=hp'
  go_enter Tryz.func98,Tryz.ntmps98
  go_wp2_with fail
  refine (dF _ _).mono ?_
  rintro e w1 ⟨rfl,rfl⟩
  rw[hd]
  go_wp2_with fail
  refine (dU _ _).mono ?_
  rintro e w1 ⟨rfl,rfl⟩
  rw[hp]
  go_wp2_with fail
  refine (kM _ _ _ _).mono ?_
  rintro e w1 ⟨rfl,o1,rfl⟩
  rw[hf]
  go_wp2
  go_ret2
  exact⟨rfl,aA (aA (Below.refl _ _) _) _⟩
set_option maxHeartbeats 1000000 in
theorem jF (c d p:Int)(x:Bool)(w:World):
  Calls Tryz.prog 59 #[.agg #[J c,J d,J p,.bool x]] w fun e w'=>e=.returned (.tuple #[J (fW c d p x),J (fE c d p)])∧Below w.heap.size w w':=by
 by_cases k0:c<1
 ·have he:fE c d p=2:=iL (by omega)
  rw[iM he,he]
  clear he
  go_enter Tryz.func59,Tryz.ntmps59
  go_wp2
  go_ret2
  exact⟨rfl,aA (Below.refl _ _) _⟩
 by_cases k1:5<c
 ·have he:fE c d p=2:=iL (by omega)
  rw[iM he,he]
  clear he
  go_enter Tryz.func59,Tryz.ntmps59
  go_wp2
  go_ret2
  exact⟨rfl,aA (Below.refl _ _) _⟩
 cases hd:betweenB 0 7 d
 ·have hd':¬(0≤d∧d≤7):=of_decide_eq_false hd
  have he:fE c d p=2:=iL (by omega)
  rw[iM he,he]
  clear he hd'
  go_enter Tryz.func59,Tryz.ntmps59
  go_wp2_with fail
  refine (dF _ _).mono ?_
  rintro e w1 ⟨rfl,rfl⟩
  rw[hd]
  go_wp2
  go_ret2
  exact⟨rfl,aA (Below.refl _ _) _⟩
 have hd':=aK hd
 cases hp:betweenB 0 63 p
 ·have hp':¬(0≤p∧p≤63):=of_decide_eq_false hp
  have he:fE c d p=2:=iL (by omega)
  rw[iM he,he]
  clear he hd' hp'
  go_enter Tryz.func59,Tryz.ntmps59
  go_wp2_with fail
  refine (dF _ _).mono ?_
  rintro e w1 ⟨rfl,rfl⟩
  rw[hd]
  go_wp2_with fail
  refine (dU _ _).mono ?_
  rintro e w1 ⟨rfl,rfl⟩
  rw[hp]
  go_wp2
  go_ret2
  exact⟨rfl,aA (Below.refl _ _) _⟩
 have hp':=aK hp
 have he:fE c d p=0:=fE_mk (by omega) hd' hp'
 rw[qL he,he]
 clear he
 obtain⟨d0,d1⟩:=hd'
 obtain⟨p0,p1⟩:=hp'
 cases x
 ·rw[show fX false=0 from rfl,Int.add_zero]
  go_enter Tryz.func59,Tryz.ntmps59
  go_wp2_with fail
  refine (dF _ _).mono ?_
  rintro e w1 ⟨rfl,rfl⟩
  rw[hd]
  go_wp2_with fail
  refine (dU _ _).mono ?_
  rintro e w1 ⟨rfl,rfl⟩
  rw[hp]
  go_wp2
  go_ret2
  exact⟨rfl,aA (Below.refl _ _) _⟩
 ·rw[show fX true=4096 from rfl]
  go_enter Tryz.func59,Tryz.ntmps59
  go_wp2_with fail
  refine (dF _ _).mono ?_
  rintro e w1 ⟨rfl,rfl⟩
  rw[hd]
  go_wp2_with fail
  refine (dU _ _).mono ?_
  rintro e w1 ⟨rfl,rfl⟩
  rw[hp]
  go_wp2
  go_ret2
  exact⟨rfl,aA (Below.refl _ _) _⟩
theorem gU {k d p:Int}(hk:0≤k∧k≤3)(hd:0≤d∧d≤7)(hp:0≤p∧p≤63)(h:(0<d∧k<2)∨(0<p∧k<3)):oE k d p=3:=by
 unfold oE;rw[if_pos ⟨hk,hd,hp⟩,if_pos h]
set_option maxHeartbeats 1000000 in
theorem mX (k d p:Int)(w:World):
  Calls Tryz.prog 114 #[.agg #[J k,J d,J p]] w fun e w'=>e=.returned (.tuple #[J (oW k d p),J (oE k d p)])∧Below w.heap.size w w':=by
 cases hk:betweenB 0 3 k
 ·have hk':¬(0≤k∧k≤3):=of_decide_eq_false hk
  have he:oE k d p=2:=iK (fun h=>hk' h.1)
  rw[eV he (by decide),he]
  clear he hk'
  go_enter Tryz.func114,Tryz.ntmps114
  go_wp2_with fail
  refine (aD _ _ _ _).mono ?_
  rintro e w1 ⟨rfl,rfl⟩
  rw[hk]
  go_wp2
  go_ret2
  exact⟨rfl,aA (Below.refl _ _) _⟩
 have hk':=aK hk
 cases hd:betweenB 0 7 d
 ·have hd':¬(0≤d∧d≤7):=of_decide_eq_false hd
  have he:oE k d p=2:=iK (fun h=>hd' h.2.1)
  rw[eV he (by decide),he]
  clear he hd' hk'
  go_enter Tryz.func114,Tryz.ntmps114
  go_wp2_with fail
  refine (aD _ _ _ _).mono ?_
  rintro e w1 ⟨rfl,rfl⟩
  rw[hk]
  go_wp2_with fail
  refine (aD _ _ _ _).mono ?_
  rintro e w1 ⟨rfl,rfl⟩
  rw[hd]
  go_wp2
  go_ret2
  exact⟨rfl,aA (Below.refl _ _) _⟩
 have hd':=aK hd
 cases hp:betweenB 0 63 p
 ·have hp':¬(0≤p∧p≤63):=of_decide_eq_false hp
  have he:oE k d p=2:=iK (fun h=>hp' h.2.2)
  rw[eV he (by decide),he]
  clear he hd' hk' hp'
  go_enter Tryz.func114,Tryz.ntmps114
  go_wp2_with fail
  refine (aD _ _ _ _).mono ?_
  rintro e w1 ⟨rfl,rfl⟩
  rw[hk]
  go_wp2_with fail
  refine (aD _ _ _ _).mono ?_
  rintro e w1 ⟨rfl,rfl⟩
  rw[hd]
  go_wp2_with fail
  refine (aD _ _ _ _).mono ?_
  rintro e w1 ⟨rfl,rfl⟩
  rw[hp]
  go_wp2
  go_ret2
  exact⟨rfl,aA (Below.refl _ _) _⟩
 have hp':=aK hp
 obtain⟨k0,k1⟩:=hk'
 obtain⟨d0,d1⟩:=hd'
 obtain⟨p0,p1⟩:=hp'
 have oneB:(0<d∧k<2)∨(0<d∧¬k<2∧0<p∧k<3)∨(¬0<d∧0<p∧k<3)∨(0<d∧¬k<2∧¬0<p)∨(¬0<d∧¬0<p)∨(0<d∧¬k<2∧0<p∧¬k<3)∨(¬0<d∧0<p∧¬k<3):=by omega
 rcases oneB with ⟨a1,a2⟩|⟨a1,a2,a3,a4⟩|⟨a1,a3,a4⟩|⟨a1,a2,a3⟩|⟨a1,a3⟩|⟨a1,a2,a3,a4⟩|⟨a1,a3,a4⟩
 ·rw[eV (gU ⟨k0,k1⟩ ⟨d0,d1⟩ ⟨p0,p1⟩ (by omega)) (by decide),gU ⟨k0,k1⟩ ⟨d0,d1⟩ ⟨p0,p1⟩ (by omega)]
  go_enter Tryz.func114,Tryz.ntmps114
  go_wp2_with fail
  refine (aD _ _ _ _).mono ?_
  rintro e w1 ⟨rfl,rfl⟩
  rw[hk]
  go_wp2_with fail
  refine (aD _ _ _ _).mono ?_
  rintro e w1 ⟨rfl,rfl⟩
  rw[hd]
  go_wp2_with fail
  refine (aD _ _ _ _).mono ?_
  rintro e w1 ⟨rfl,rfl⟩
  rw[hp]
  go_wp2
  go_ret2
  exact⟨rfl,aA (Below.refl _ _) _⟩
 ·rw[eV (gU ⟨k0,k1⟩ ⟨d0,d1⟩ ⟨p0,p1⟩ (by omega)) (by decide),gU ⟨k0,k1⟩ ⟨d0,d1⟩ ⟨p0,p1⟩ (by omega)]
  go_enter Tryz.func114,Tryz.ntmps114
  go_wp2_with fail
  refine (aD _ _ _ _).mono ?_
  rintro e w1 ⟨rfl,rfl⟩
  rw[hk]
  go_wp2_with fail
  refine (aD _ _ _ _).mono ?_
  rintro e w1 ⟨rfl,rfl⟩
  rw[hd]
  go_wp2_with fail
  refine (aD _ _ _ _).mono ?_
  rintro e w1 ⟨rfl,rfl⟩
  rw[hp]
  go_wp2
  go_ret2
  exact⟨rfl,aA (Below.refl _ _) _⟩
 ·rw[eV (gU ⟨k0,k1⟩ ⟨d0,d1⟩ ⟨p0,p1⟩ (by omega)) (by decide),gU ⟨k0,k1⟩ ⟨d0,d1⟩ ⟨p0,p1⟩ (by omega)]
  go_enter Tryz.func114,Tryz.ntmps114
  go_wp2_with fail
  refine (aD _ _ _ _).mono ?_
  rintro e w1 ⟨rfl,rfl⟩
  rw[hk]
  go_wp2_with fail
  refine (aD _ _ _ _).mono ?_
  rintro e w1 ⟨rfl,rfl⟩
  rw[hd]
  go_wp2_with fail
  refine (aD _ _ _ _).mono ?_
  rintro e w1 ⟨rfl,rfl⟩
  rw[hp]
  go_wp2
  go_ret2
  exact⟨rfl,aA (Below.refl _ _) _⟩
 ·rw[kF (iV ⟨k0,k1⟩ ⟨d0,d1⟩ ⟨p0,p1⟩ (by omega) (by omega)),iV ⟨k0,k1⟩ ⟨d0,d1⟩ ⟨p0,p1⟩ (by omega) (by omega)]
  go_enter Tryz.func114,Tryz.ntmps114
  go_wp2_with fail
  refine (aD _ _ _ _).mono ?_
  rintro e w1 ⟨rfl,rfl⟩
  rw[hk]
  go_wp2_with fail
  refine (aD _ _ _ _).mono ?_
  rintro e w1 ⟨rfl,rfl⟩
  rw[hd]
  go_wp2_with fail
  refine (aD _ _ _ _).mono ?_
  rintro e w1 ⟨rfl,rfl⟩
  rw[hp]
  go_wp2
  go_ret2
  exact⟨rfl,aA (Below.refl _ _) _⟩
 ·rw[kF (iV ⟨k0,k1⟩ ⟨d0,d1⟩ ⟨p0,p1⟩ (by omega) (by omega)),iV ⟨k0,k1⟩ ⟨d0,d1⟩ ⟨p0,p1⟩ (by omega) (by omega)]
  go_enter Tryz.func114,Tryz.ntmps114
  go_wp2_with fail
  refine (aD _ _ _ _).mono ?_
  rintro e w1 ⟨rfl,rfl⟩
  rw[hk]
  go_wp2_with fail
  refine (aD _ _ _ _).mono ?_
  rintro e w1 ⟨rfl,rfl⟩
  rw[hd]
  go_wp2_with fail
  refine (aD _ _ _ _).mono ?_
  rintro e w1 ⟨rfl,rfl⟩
  rw[hp]
  go_wp2
  go_ret2
  exact⟨rfl,aA (Below.refl _ _) _⟩
 ·rw[kF (iV ⟨k0,k1⟩ ⟨d0,d1⟩ ⟨p0,p1⟩ (by omega) (by omega)),iV ⟨k0,k1⟩ ⟨d0,d1⟩ ⟨p0,p1⟩ (by omega) (by omega)]
  go_enter Tryz.func114,Tryz.ntmps114
  go_wp2_with fail
  refine (aD _ _ _ _).mono ?_
  rintro e w1 ⟨rfl,rfl⟩
  rw[hk]
  go_wp2_with fail
  refine (aD _ _ _ _).mono ?_
  rintro e w1 ⟨rfl,rfl⟩
  rw[hd]
  go_wp2_with fail
  refine (aD _ _ _ _).mono ?_
  rintro e w1 ⟨rfl,rfl⟩
  rw[hp]
  go_wp2
  go_ret2
  exact⟨rfl,aA (Below.refl _ _) _⟩
 ·rw[kF (iV ⟨k0,k1⟩ ⟨d0,d1⟩ ⟨p0,p1⟩ (by omega) (by omega)),iV ⟨k0,k1⟩ ⟨d0,d1⟩ ⟨p0,p1⟩ (by omega) (by omega)]
  go_enter Tryz.func114,Tryz.ntmps114
  go_wp2_with fail
  refine (aD _ _ _ _).mono ?_
  rintro e w1 ⟨rfl,rfl⟩
  rw[hk]
  go_wp2_with fail
  refine (aD _ _ _ _).mono ?_
  rintro e w1 ⟨rfl,rfl⟩
  rw[hd]
  go_wp2_with fail
  refine (aD _ _ _ _).mono ?_
  rintro e w1 ⟨rfl,rfl⟩
  rw[hp]
  go_wp2
  go_ret2
  exact⟨rfl,aA (Below.refl _ _) _⟩
set_option maxHeartbeats 1000000 in
theorem mY (c d p:Int)(x:Bool)(w:World):
  Calls Tryz.prog 118 #[.agg #[J c,J d,J p,.bool x]] w fun e w'=>e=.returned (.tuple #[J (fW c d p x),J (fE c d p)])∧Below w.heap.size w w':=by
 cases hk:betweenB 1 5 c
 ·have hk':¬(1≤c∧c≤5):=of_decide_eq_false hk
  have he:fE c d p=2:=iL (fun h=>hk' h.1)
  rw[iM he,he]
  clear he hk'
  go_enter Tryz.func118,Tryz.ntmps118
  go_wp2_with fail
  refine (aD _ _ _ _).mono ?_
  rintro e w1 ⟨rfl,rfl⟩
  rw[hk]
  go_wp2
  go_ret2
  exact⟨rfl,aA (Below.refl _ _) _⟩
 have hk':=aK hk
 cases hd:betweenB 0 7 d
 ·have hd':¬(0≤d∧d≤7):=of_decide_eq_false hd
  have he:fE c d p=2:=iL (fun h=>hd' h.2.1)
  rw[iM he,he]
  clear he hd' hk'
  go_enter Tryz.func118,Tryz.ntmps118
  go_wp2_with fail
  refine (aD _ _ _ _).mono ?_
  rintro e w1 ⟨rfl,rfl⟩
  rw[hk]
  go_wp2_with fail
  refine (aD _ _ _ _).mono ?_
  rintro e w1 ⟨rfl,rfl⟩
  rw[hd]
  go_wp2
  go_ret2
  exact⟨rfl,aA (Below.refl _ _) _⟩
 have hd':=aK hd
 cases hp:betweenB 0 63 p
 ·have hp':¬(0≤p∧p≤63):=of_decide_eq_false hp
  have he:fE c d p=2:=iL (fun h=>hp' h.2.2)
  rw[iM he,he]
  clear he hd' hk' hp'
  go_enter Tryz.func118,Tryz.ntmps118
  go_wp2_with fail
  refine (aD _ _ _ _).mono ?_
  rintro e w1 ⟨rfl,rfl⟩
  rw[hk]
  go_wp2_with fail
  refine (aD _ _ _ _).mono ?_
  rintro e w1 ⟨rfl,rfl⟩
  rw[hd]
  go_wp2_with fail
  refine (aD _ _ _ _).mono ?_
  rintro e w1 ⟨rfl,rfl⟩
  rw[hp]
  go_wp2
  go_ret2
  exact⟨rfl,aA (Below.refl _ _) _⟩
 have hp':=aK hp
 have he:fE c d p=0:=fE_mk hk' hd' hp'
 rw[qL he,he]
 clear he
 obtain⟨k0,k1⟩:=hk'
 obtain⟨d0,d1⟩:=hd'
 obtain⟨p0,p1⟩:=hp'
 cases x
 ·rw[show fX false=0 from rfl,Int.add_zero]
  go_enter Tryz.func118,Tryz.ntmps118
  go_wp2_with fail
  refine (aD _ _ _ _).mono ?_
  rintro e w1 ⟨rfl,rfl⟩
  rw[hk]
  go_wp2_with fail
  refine (aD _ _ _ _).mono ?_
  rintro e w1 ⟨rfl,rfl⟩
  rw[hd]
  go_wp2_with fail
  refine (aD _ _ _ _).mono ?_
  rintro e w1 ⟨rfl,rfl⟩
  rw[hp]
  go_wp2
  go_ret2
  exact⟨rfl,aA (Below.refl _ _) _⟩
 ·rw[show fX true=4096 from rfl]
  go_enter Tryz.func118,Tryz.ntmps118
  go_wp2_with fail
  refine (aD _ _ _ _).mono ?_
  rintro e w1 ⟨rfl,rfl⟩
  rw[hk]
  go_wp2_with fail
  refine (aD _ _ _ _).mono ?_
  rintro e w1 ⟨rfl,rfl⟩
  rw[hd]
  go_wp2_with fail
  refine (aD _ _ _ _).mono ?_
  rintro e w1 ⟨rfl,rfl⟩
  rw[hp]
  go_wp2
  go_ret2
  exact⟨rfl,aA (Below.refl _ _) _⟩
theorem vF {z:Int}(h:¬(0≤z∧z≤65535)):roE z=2:=if_neg h
theorem pO {z:Int}(h:0≤z∧z≤65535)(k:¬oE (z%4) (z/4%8) (z/32)=0):roE z=3:=by rw[roE,if_pos h,if_neg k]
theorem jG {z e:Int}(h:roE z=e)(hn:¬e=0):roO z=(0,0,0):=if_neg (fun x=>hn (h.symm.trans x))
theorem aAi {z:Int}(h:roE z=0):roO z=(z%4,z/4%8,z/32):=if_pos h
theorem aB2 {z:Int}(h:¬(0≤z∧z≤65535)):rfE z=2:=if_neg h
theorem vG {z:Int}(h:0≤z∧z≤65535)(k:¬(fE (z%8) (z/8%8) (z/64%64)=0∧z<8192)):rfE z=3:=by rw[rfE,if_pos h,if_neg k]
theorem pP {z e:Int}(h:rfE z=e)(hn:¬e=0):rfF z=(0,0,0,false):=if_neg (fun x=>hn (h.symm.trans x))
theorem rfF_ok {z:Int}(h:rfE z=0):rfF z=(z%8,z/8%8,z/64%64,decide (z/4096=1)):=if_pos h
theorem ro_way {z:Int}(h:0≤z∧z≤65535):
  (roE z=3∧roO z=(0,0,0)∧(¬oE (z%4) (z/4%8) (z/32%64)=0∨(oE (z%4) (z/4%8) (z/32%64)=0∧¬oW (z%4) (z/4%8) (z/32%64)=z)))∨
  (roE z=0∧roO z=(z%4,z/4%8,z/32%64)∧oE (z%4) (z/4%8) (z/32%64)=0∧oW (z%4) (z/4%8) (z/32%64)=z):=by
 by_cases hs:z<2048
 ·have e:z/32%64=z/32:=by omega
  rw[e]
  by_cases hk:oE (z%4) (z/4%8) (z/32)=0
  ·have hr:=yV h hk
   exact .inr ⟨hr,aAi hr,hk,by rw[kF hk];omega⟩
  ·have hr:=pO h hk
   exact .inl ⟨hr,jG hr (by decide),.inl hk⟩
 ·have hr:roE z=3:=pO h fun hk=>by have:=(oE_ok hk).2.2.1;omega
  refine .inl ⟨hr,jG hr (by decide),?_⟩
  by_cases hk:oE (z%4) (z/4%8) (z/32%64)=0
  ·exact .inr ⟨hk,by rw[kF hk];omega⟩
  ·exact .inl hk
theorem rf_way {z:Int}(h:0≤z∧z≤65535):
  (rfE z=3∧rfF z=(0,0,0,false)∧(¬fE (z%8) (z/8%8) (z/64%64)=0∨(fE (z%8) (z/8%8) (z/64%64)=0∧¬fW (z%8) (z/8%8) (z/64%64) (z/4096%2==1)=z)))∨
  (rfE z=0∧rfF z=(z%8,z/8%8,z/64%64,(z/4096%2==1))∧fE (z%8) (z/8%8) (z/64%64)=0∧fW (z%8) (z/8%8) (z/64%64) (z/4096%2==1)=z):=by
 have hb:(z/4096%2==1)=decide (z/4096%2=1):=rfl
 rw[hb]
 by_cases hk:fE (z%8) (z/8%8) (z/64%64)=0
 ·by_cases hs:z<8192
  ·have hr:=yX h hk hs
   have e:z/4096%2=z/4096:=by omega
   have hq:=rfF_ok hr
   rw[e]
   exact .inr ⟨hr,hq,hk,(f_read hr hq).2⟩
  ·have hr:rfE z=3:=vG h fun x=>hs x.2
   refine .inl ⟨hr,pP hr (by decide),.inr ⟨hk,?_⟩⟩
   rw[qL hk]
   rcases qM (decide (z/4096%2=1)) with ⟨_,e⟩|⟨_,e⟩ <;> rw[e] <;> omega
 ·have hr:rfE z=3:=vG h fun x=>hk x.1
  exact .inl ⟨hr,pP hr (by decide),.inl hk⟩
set_option maxHeartbeats 2000000 in
theorem mZ (z:Int)(w:World):
  Calls Tryz.prog 63 #[J z] w fun e w'=>(∃k d p,e=.returned (.tuple #[.agg #[J k,J d,J p],J (roE z)])∧roO z=(k,d,p))∧Below w.heap.size w w':=by
 cases hw:betweenB 0 65535 z
 ·have hr:roE z=2:=vF (of_decide_eq_false hw)
  have HO:Hid (roO z=(0,0,0)):=jG hr (by decide)
  rw[hr]
  clear hr
  go_enter Tryz.func63,Tryz.ntmps63
  go_wp2_with fail
  refine (fF _ _).mono ?_
  rintro e w1 ⟨rfl,rfl⟩
  rw[hw]
  go_wp2
  refine bodyPost_ret (v:=.tuple #[.agg #[J 0,J 0,J 0],J 2]) (by simp[results,Tryz.results63,go_sem]) rfl ⟨⟨_,_,_,rfl,HO.out⟩,?_⟩
  exact aA (Below.refl _ _) _
 have hz:=aK hw
 have hway:=ro_way hz
 obtain⟨h0,h1⟩:=hz
 obtain⟨eo,heo⟩:∃eo,oE (z%4) (z/4%8) (z/32%64)=eo:=⟨_,rfl⟩
 obtain⟨xo,hxo⟩:∃xo,oW (z%4) (z/4%8) (z/32%64)=xo:=⟨_,rfl⟩
 rw[heo,hxo] at hway
 have HW:Hid _:=hway
 have HE:Hid _:=heo
 have HX:Hid _:=hxo
 clear hway heo hxo
 go_enter Tryz.func63,Tryz.ntmps63
 go_wp2_with fail
 refine (fF _ _).mono ?_
 rintro e w1 ⟨rfl,rfl⟩
 rw[hw]
 go_wp2_with fail
 refine (pN _ _ _ _).mono ?_
 rintro e w1 ⟨rfl,b1⟩
 rw[HE.out,HX.out]
 have X0:=(Box.newAt (n:=w.heap.size) (by simp) 115 #[J 0,J 0,J 0]).past (.cells #[J (z%4),J (z/4%8),J (z/32%64)] 115) |>.keep b1
 have X1:=(Box.newAt (w:=w.alloc (.cells #[J 0,J 0,J 0] 115)) (n:=w.heap.size+1) (by simp) 115 #[J (z%4),J (z/4%8),J (z/32%64)]).keep b1
 have B1:Hid (Below w.heap.size w w1):=aB (aA (aA (Below.refl _ _) _) _) b1
 clear b1
 obtain⟨u0,u1,u2,g0,g1,g2,s0⟩:=X0.three
 obtain⟨q0,q1,q2,-,-,-,s1⟩:=X1.three
 clear X0 X1
 rcases HW.out with ⟨hr,ho,hk|⟨hk,hx⟩⟩|⟨hr,ho,hk,hx⟩
 ·have HR:Hid _:=hr
  have HO:Hid _:=ho
  have hq:(eo !=0)=true:=by simpa using hk
  clear hr ho HW HE HX hk
  go_wp2
  refine bodyPost_ret (v:=.tuple #[.agg #[J 0,J 0,J 0],J 3]) (by simp[results,Tryz.results63,go_sem, *]) rfl ⟨⟨_,_,_,by rw[HR.out],HO.out⟩,?_⟩
  exact bO (by omega) B1.out _ _ _
 ·have HR:Hid _:=hr
  have HO:Hid _:=ho
  have hq:(xo !=z)=true:=by simpa using hx
  clear hr ho HW HE HX hx
  subst hk
  go_wp2
  refine bodyPost_ret (v:=.tuple #[.agg #[J 0,J 0,J 0],J 3]) (by simp[results,Tryz.results63,go_sem, *]) rfl ⟨⟨_,_,_,by rw[HR.out],HO.out⟩,?_⟩
  exact bO (by omega) B1.out _ _ _
 ·have HR:Hid _:=hr
  have HO:Hid _:=ho
  clear hr ho HW HE HX
  subst hk hx
  go_wp2
  refine bodyPost_ret (v:=.tuple #[.agg #[J (xo%4),J (xo/4%8),J (xo/32%64)],J 0]) (by simp[results,Tryz.results63,go_sem, *]) rfl ⟨⟨_,_,_,by rw[HR.out],HO.out⟩,?_⟩
  exact bO (by omega) B1.out _ _ _
set_option maxHeartbeats 2000000 in
theorem aBm (z:Int)(w:World):
  Calls Tryz.prog 31 #[J z] w fun e w'=>(∃c d p x,e=.returned (.tuple #[.agg #[J c,J d,J p,.bool x],J (rfE z)])∧rfF z=(c,d,p,x))∧Below w.heap.size w w':=by
 cases hw:betweenB 0 65535 z
 ·have hr:rfE z=2:=aB2 (of_decide_eq_false hw)
  have HO:Hid (rfF z=(0,0,0,false)):=pP hr (by decide)
  rw[hr]
  clear hr
  go_enter Tryz.func31,Tryz.ntmps31
  go_wp2_with fail
  refine (fF _ _).mono ?_
  rintro e w1 ⟨rfl,rfl⟩
  rw[hw]
  go_wp2
  refine bodyPost_ret (v:=.tuple #[.agg #[J 0,J 0,J 0,.bool false],J 2]) (by simp[results,Tryz.results31,go_sem]) rfl ⟨⟨_,_,_,_,rfl,HO.out⟩,?_⟩
  exact aA (Below.refl _ _) _
 have hz:=aK hw
 have hway:=rf_way hz
 obtain⟨h0,h1⟩:=hz
 obtain⟨eo,heo⟩:∃eo,fE (z%8) (z/8%8) (z/64%64)=eo:=⟨_,rfl⟩
 obtain⟨xo,hxo⟩:∃xo,fW (z%8) (z/8%8) (z/64%64) (z/4096%2==1)=xo:=⟨_,rfl⟩
 rw[heo,hxo] at hway
 have HW:Hid _:=hway
 have HE:Hid _:=heo
 have HX:Hid _:=hxo
 clear hway heo hxo
 go_enter Tryz.func31,Tryz.ntmps31
 go_wp2_with fail
 refine (fF _ _).mono ?_
 rintro e w1 ⟨rfl,rfl⟩
 rw[hw]
 go_wp2_with fail
 refine (jF _ _ _ _ _).mono ?_
 rintro e w1 ⟨rfl,b1⟩
 rw[HE.out,HX.out]
 have X0:=(Box.newAt (n:=w.heap.size) (by simp) 74 #[J 0,J 0,J 0,.bool false]).past (.cells #[J (z%8),J (z/8%8),J (z/64%64),.bool (z/4096%2==1)] 74) |>.keep b1
 have X1:=(Box.newAt (w:=w.alloc (.cells #[J 0,J 0,J 0,.bool false] 74)) (n:=w.heap.size+1) (by simp) 74 #[J (z%8),J (z/8%8),J (z/64%64),.bool (z/4096%2==1)]).keep b1
 have B1:Hid (Below w.heap.size w w1):=aB (aA (aA (Below.refl _ _) _) _) b1
 clear b1
 obtain⟨u0,u1,u2,u3,g0,g1,g2,g3,s0⟩:=X0.four
 obtain⟨q0,q1,q2,q3,-,-,-,-,s1⟩:=X1.four
 clear X0 X1
 rcases HW.out with ⟨hr,ho,hk|⟨hk,hx⟩⟩|⟨hr,ho,hk,hx⟩
 ·have HR:Hid _:=hr
  have HO:Hid _:=ho
  have hq:(eo !=0)=true:=by simpa using hk
  clear hr ho HW HE HX hk
  go_wp2
  refine bodyPost_ret (v:=.tuple #[.agg #[J 0,J 0,J 0,.bool false],J 3]) (by simp[results,Tryz.results31,go_sem, *]) rfl ⟨⟨_,_,_,_,by rw[HR.out],HO.out⟩,?_⟩
  exact aZ (by omega) B1.out _ _ _ _
 ·have HR:Hid _:=hr
  have HO:Hid _:=ho
  have hq:(xo !=z)=true:=by simpa using hx
  clear hr ho HW HE HX hx
  subst hk
  go_wp2
  refine bodyPost_ret (v:=.tuple #[.agg #[J 0,J 0,J 0,.bool false],J 3]) (by simp[results,Tryz.results31,go_sem, *]) rfl ⟨⟨_,_,_,_,by rw[HR.out],HO.out⟩,?_⟩
  exact aZ (by omega) B1.out _ _ _ _
 ·have HR:Hid _:=hr
  have HO:Hid _:=ho
  clear hr ho HW HE HX
  subst hk hx
  go_wp2
  refine bodyPost_ret (v:=.tuple #[.agg #[J (xo%8),J (xo/8%8),J (xo/64%64),.bool (xo/4096%2==1)],J 0]) (by simp[results,Tryz.results31,go_sem, *]) rfl ⟨⟨_,_,_,_,by rw[HR.out],HO.out⟩,?_⟩
  exact aZ (by omega) B1.out _ _ _ _
theorem aB3 {z:Int}(h:0≤z∧z≤65535):
  (roE z=3∧roO z=(0,0,0)∧¬oE (z%4) (z/4%8) (z/32)=0)∨(roE z=0∧roO z=(z%4,z/4%8,z/32)∧oE (z%4) (z/4%8) (z/32)=0):=by
 by_cases hk:oE (z%4) (z/4%8) (z/32)=0
 ·have hr:=yV h hk
  exact .inr ⟨hr,aAi hr,hk⟩
 ·have hr:=pO h hk
  exact .inl ⟨hr,jG hr (by decide),hk⟩
set_option maxHeartbeats 2000000 in
theorem rJ (z:Int)(w:World):
  Calls Tryz.prog 80 #[J z] w fun e w'=>(∃k d p,e=.returned (.tuple #[.agg #[J k,J d,J p],J (roE z)])∧roO z=(k,d,p))∧Below w.heap.size w w':=by
 cases hw:betweenB 0 65535 z
 ·have hr:roE z=2:=vF (of_decide_eq_false hw)
  have HO:Hid (roO z=(0,0,0)):=jG hr (by decide)
  rw[hr]
  clear hr
  go_enter Tryz.func80,Tryz.ntmps80
  go_wp2_with fail
  refine (aD _ _ _ _).mono ?_
  rintro e w1 ⟨rfl,rfl⟩
  rw[hw]
  go_wp2
  refine bodyPost_ret (v:=.tuple #[.agg #[J 0,J 0,J 0],J 2]) (by simp[results,Tryz.results80,go_sem]) rfl ⟨⟨_,_,_,rfl,HO.out⟩,?_⟩
  exact aA (Below.refl _ _) _
 have hz:=aK hw
 have hway:=aB3 hz
 obtain⟨h0,h1⟩:=hz
 obtain⟨eo,heo⟩:∃eo,oE (z%4) (z/4%8) (z/32)=eo:=⟨_,rfl⟩
 obtain⟨xo,hxo⟩:∃xo,oW (z%4) (z/4%8) (z/32)=xo:=⟨_,rfl⟩
 rw[heo] at hway
 have HW:Hid _:=hway
 have HE:Hid _:=heo
 have HX:Hid _:=hxo
 clear hway heo hxo
 go_enter Tryz.func80,Tryz.ntmps80
 go_wp2_with fail
 refine (aD _ _ _ _).mono ?_
 rintro e w1 ⟨rfl,rfl⟩
 rw[hw]
 go_wp2_with fail
 refine (mX _ _ _ _).mono ?_
 rintro e w1 ⟨rfl,b1⟩
 rw[HE.out,HX.out]
 have X0:=(Box.newAt (n:=w.heap.size) (by simp) 115 #[J 0,J 0,J 0]).past (.cells #[J (z%4),J (z/4%8),J (z/32)] 115) |>.keep b1
 have X1:=(Box.newAt (w:=w.alloc (.cells #[J 0,J 0,J 0] 115)) (n:=w.heap.size+1) (by simp) 115 #[J (z%4),J (z/4%8),J (z/32)]).keep b1
 have B1:Hid (Below w.heap.size w w1):=aB (aA (aA (Below.refl _ _) _) _) b1
 clear b1
 obtain⟨u0,u1,u2,g0,g1,g2,s0⟩:=X0.three
 obtain⟨q0,q1,q2,-,-,-,s1⟩:=X1.three
 clear X0 X1
 clear HX
 rcases HW.out with ⟨hr,ho,hk⟩|⟨hr,ho,hk⟩
 ·have HR:Hid _:=hr
  have HO:Hid _:=ho
  have hq:(eo !=0)=true:=by simpa using hk
  clear hr ho HW HE hk
  go_wp2
  refine bodyPost_ret (v:=.tuple #[.agg #[J 0,J 0,J 0],J 3]) (by simp[results,Tryz.results80,go_sem, *]) rfl ⟨⟨_,_,_,by rw[HR.out],HO.out⟩,?_⟩
  exact bO (by omega) B1.out _ _ _
 ·have HR:Hid _:=hr
  have HO:Hid _:=ho
  clear hr ho HW HE
  subst hk
  go_wp2
  refine bodyPost_ret (v:=.tuple #[.agg #[J (z%4),J (z/4%8),J (z/32)],J 0]) (by simp[results,Tryz.results80,go_sem, *]) rfl ⟨⟨_,_,_,by rw[HR.out],HO.out⟩,?_⟩
  exact bO (by omega) B1.out _ _ _
theorem pQ {z k d p e1:Int}{w:World}(hE:roE z=e1)(hO:roO z=(k,d,p)):
  Calls Tryz.prog 63 #[J z] w fun e w'=>e=.returned (.tuple #[.agg #[J k,J d,J p],J e1])∧Below w.heap.size w w':=by
 refine (mZ z w).mono ?_
 rintro e w' ⟨⟨k',d',p',rfl,h⟩,hb⟩
 rw[hO] at h
 simp only[Prod.mk.injEq] at h
 obtain⟨rfl,rfl,rfl⟩:=h
 rw[hE]
 exact⟨rfl,hb⟩
theorem tP {z k d p e1:Int}{w:World}(hE:roE z=e1)(hO:roO z=(k,d,p)):
  Calls Tryz.prog 80 #[J z] w fun e w'=>e=.returned (.tuple #[.agg #[J k,J d,J p],J e1])∧Below w.heap.size w w':=by
 refine (rJ z w).mono ?_
 rintro e w' ⟨⟨k',d',p',rfl,h⟩,hb⟩
 rw[hO] at h
 simp only[Prod.mk.injEq] at h
 obtain⟨rfl,rfl,rfl⟩:=h
 rw[hE]
 exact⟨rfl,hb⟩
end Go.Proofs.YthlhocneggcekaaGreat
