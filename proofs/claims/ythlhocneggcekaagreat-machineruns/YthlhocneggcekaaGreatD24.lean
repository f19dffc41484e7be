/-
  Laid together: InsW1, InsW2.
-/
import Derived.Test.YthlhocneggcekaaGreatD23
namespace Go.Proofs.YthlhocneggcekaaGreat
open Go.RowKit
set_option maxHeartbeats 2000000 in
theorem wY (a b i:Int)(w:World)(ha:betweenB 0 7 a=true)(hb:betweenB 0 7 b=true)(hi:betweenB 0 63 i=true):
  Calls Tryz.prog 113 #[.agg #[J 0,J a,J b,J i]] w fun e w'=>e=.returned (.tuple #[J (iW 0 a b i),J (iE 0 a b i)])∧Below w.heap.size w w':=by
 obtain⟨a0,a1⟩:=aK ha
 obtain⟨b0,b1⟩:=aK hb
 obtain⟨i0,i1⟩:=aK hi
 have hk:betweenB 0 8 0=true:=by decide
 have he:iE 0 a b i=if fitI 0 a b i=true then 0 else 3:=iC (k:=0) (by decide) ⟨a0,a1⟩ ⟨b0,b1⟩ ⟨i0,i1⟩
 have ways:(¬0<a∧¬0<b∧¬0<i)∨(¬0<a∧¬0<b∧0<i)∨(¬0<a∧0<b)∨(0<a):=by omega
 rcases ways with ⟨pa,pb,pi⟩|⟨pa,pb,pi⟩|⟨pa,pb⟩|pa
 ·have hf:fitI 0 a b i=true:=by simp[fitI,useA,useB,useI];omega
  rw[hf,if_pos rfl] at he
  rw[bH he,he]
  clear he hf
  go_enter Tryz.func113,Tryz.ntmps113
  go_wp2_with (first|(go_at_call 53;refine (aD _ _ _ _).mono ?_;rintro e w1 ⟨rfl,rfl⟩;first|rw[hk]|rw[ha]|rw[hb]|rw[hi]))
  go_ret2
  exact⟨aN (by omega) rfl,aA (aA (aA (Below.refl _ _) _) _) _⟩
 ·have hf:¬fitI 0 a b i=true:=by simp[fitI,useA,useB,useI];omega
  rw[if_neg hf] at he
  rw[cB he (by decide),he]
  clear he hf
  go_enter Tryz.func113,Tryz.ntmps113
  go_wp2_with (first|(go_at_call 53;refine (aD _ _ _ _).mono ?_;rintro e w1 ⟨rfl,rfl⟩;first|rw[hk]|rw[ha]|rw[hb]|rw[hi]))
  refine (aAv _ _ ?_).mono ?_
  ·simp[go_sem]
  rintro e w1 ⟨rfl,rfl⟩
  go_wp2_with (first|(go_at_call 53;refine (aD _ _ _ _).mono ?_;rintro e w1 ⟨rfl,rfl⟩;first|rw[hk]|rw[ha]|rw[hb]|rw[hi]))
  go_ret2
  exact⟨aN (by omega) rfl,aA (aA (aA (Below.refl _ _) _) _) _⟩
 ·have hf:¬fitI 0 a b i=true:=by simp[fitI,useA,useB,useI];omega
  rw[if_neg hf] at he
  rw[cB he (by decide),he]
  clear he hf
  go_enter Tryz.func113,Tryz.ntmps113
  go_wp2_with (first|(go_at_call 53;refine (aD _ _ _ _).mono ?_;rintro e w1 ⟨rfl,rfl⟩;first|rw[hk]|rw[ha]|rw[hb]|rw[hi]))
  refine (aAu _ _ ?_).mono ?_
  ·simp[go_sem]
  rintro e w1 ⟨rfl,rfl⟩
  go_wp2_with (first|(go_at_call 53;refine (aD _ _ _ _).mono ?_;rintro e w1 ⟨rfl,rfl⟩;first|rw[hk]|rw[ha]|rw[hb]|rw[hi]))
  go_ret2
  exact⟨aN (by omega) rfl,aA (aA (aA (Below.refl _ _) _) _) _⟩
 ·have hf:¬fitI 0 a b i=true:=by simp[fitI,useA,useB,useI];omega
  rw[if_neg hf] at he
  rw[cB he (by decide),he]
  clear he hf
  go_enter Tryz.func113,Tryz.ntmps113
  go_wp2_with (first|(go_at_call 53;refine (aD _ _ _ _).mono ?_;rintro e w1 ⟨rfl,rfl⟩;first|rw[hk]|rw[ha]|rw[hb]|rw[hi]))
  refine (aAt _ _ ?_).mono ?_
  ·simp[go_sem]
  rintro e w1 ⟨rfl,rfl⟩
  go_wp2_with (first|(go_at_call 53;refine (aD _ _ _ _).mono ?_;rintro e w1 ⟨rfl,rfl⟩;first|rw[hk]|rw[ha]|rw[hb]|rw[hi]))
  go_ret2
  exact⟨aN (by omega) rfl,aA (aA (aA (Below.refl _ _) _) _) _⟩
set_option maxHeartbeats 2000000 in
theorem wZ (a b i:Int)(w:World)(ha:betweenB 0 7 a=true)(hb:betweenB 0 7 b=true)(hi:betweenB 0 63 i=true):
  Calls Tryz.prog 113 #[.agg #[J 1,J a,J b,J i]] w fun e w'=>e=.returned (.tuple #[J (iW 1 a b i),J (iE 1 a b i)])∧Below w.heap.size w w':=by
 obtain⟨a0,a1⟩:=aK ha
 obtain⟨b0,b1⟩:=aK hb
 obtain⟨i0,i1⟩:=aK hi
 have hk:betweenB 0 8 1=true:=by decide
 have he:iE 1 a b i=if fitI 1 a b i=true then 0 else 3:=iC (k:=1) (by decide) ⟨a0,a1⟩ ⟨b0,b1⟩ ⟨i0,i1⟩
 have ways:(¬0<a∧¬0<b∧¬0<i)∨(¬0<a∧¬0<b∧0<i)∨(¬0<a∧0<b)∨(0<a∧¬0<b∧¬0<i)∨(0<a∧¬0<b∧0<i)∨(0<a∧0<b):=by omega
 rcases ways with ⟨pa,pb,pi⟩|⟨pa,pb,pi⟩|⟨pa,pb⟩|⟨pa,pb,pi⟩|⟨pa,pb,pi⟩|⟨pa,pb⟩
 ·have hf:fitI 1 a b i=true:=by simp[fitI,useA,useB,useI];omega
  rw[hf,if_pos rfl] at he
  rw[bH he,he]
  clear he hf
  go_enter Tryz.func113,Tryz.ntmps113
  go_wp2_with (first|(go_at_call 53;refine (aD _ _ _ _).mono ?_;rintro e w1 ⟨rfl,rfl⟩;first|rw[hk]|rw[ha]|rw[hb]|rw[hi]))
  go_ret2
  exact⟨aN (by omega) rfl,aA (aA (aA (Below.refl _ _) _) _) _⟩
 ·have hf:fitI 1 a b i=true:=by simp[fitI,useA,useB,useI];omega
  rw[hf,if_pos rfl] at he
  rw[bH he,he]
  clear he hf
  go_enter Tryz.func113,Tryz.ntmps113
  go_wp2_with (first|(go_at_call 53;refine (aD _ _ _ _).mono ?_;rintro e w1 ⟨rfl,rfl⟩;first|rw[hk]|rw[ha]|rw[hb]|rw[hi]))
  refine (eH _ _ ?_).mono ?_
  ·simp[go_sem]
  rintro e w1 ⟨rfl,rfl⟩
  go_wp2_with (first|(go_at_call 53;refine (aD _ _ _ _).mono ?_;rintro e w1 ⟨rfl,rfl⟩;first|rw[hk]|rw[ha]|rw[hb]|rw[hi]))
  go_ret2
  exact⟨aN (by omega) rfl,aA (aA (aA (Below.refl _ _) _) _) _⟩
 ·have hf:¬fitI 1 a b i=true:=by simp[fitI,useA,useB,useI];omega
  rw[if_neg hf] at he
  rw[cB he (by decide),he]
  clear he hf
  go_enter Tryz.func113,Tryz.ntmps113
  go_wp2_with (first|(go_at_call 53;refine (aD _ _ _ _).mono ?_;rintro e w1 ⟨rfl,rfl⟩;first|rw[hk]|rw[ha]|rw[hb]|rw[hi]))
  refine (eG _ _ ?_).mono ?_
  ·simp[go_sem]
  rintro e w1 ⟨rfl,rfl⟩
  go_wp2_with (first|(go_at_call 53;refine (aD _ _ _ _).mono ?_;rintro e w1 ⟨rfl,rfl⟩;first|rw[hk]|rw[ha]|rw[hb]|rw[hi]))
  go_ret2
  exact⟨aN (by omega) rfl,aA (aA (aA (Below.refl _ _) _) _) _⟩
 ·have hf:fitI 1 a b i=true:=by simp[fitI,useA,useB,useI];omega
  rw[hf,if_pos rfl] at he
  rw[bH he,he]
  clear he hf
  go_enter Tryz.func113,Tryz.ntmps113
  go_wp2_with (first|(go_at_call 53;refine (aD _ _ _ _).mono ?_;rintro e w1 ⟨rfl,rfl⟩;first|rw[hk]|rw[ha]|rw[hb]|rw[hi]))
  refine (dA _ _ ?_).mono ?_
  ·simp[go_sem]
  rintro e w1 ⟨rfl,rfl⟩
  go_wp2_with (first|(go_at_call 53;refine (aD _ _ _ _).mono ?_;rintro e w1 ⟨rfl,rfl⟩;first|rw[hk]|rw[ha]|rw[hb]|rw[hi]))
  go_ret2
  exact⟨aN (by omega) rfl,aA (aA (aA (Below.refl _ _) _) _) _⟩
 ·have hf:fitI 1 a b i=true:=by simp[fitI,useA,useB,useI];omega
  rw[hf,if_pos rfl] at he
  rw[bH he,he]
  clear he hf
  go_enter Tryz.func113,Tryz.ntmps113
  go_wp2_with (first|(go_at_call 53;refine (aD _ _ _ _).mono ?_;rintro e w1 ⟨rfl,rfl⟩;first|rw[hk]|rw[ha]|rw[hb]|rw[hi]))
  refine (dA _ _ ?_).mono ?_
  ·simp[go_sem]
  rintro e w1 ⟨rfl,rfl⟩
  go_wp2_with (first|(go_at_call 53;refine (aD _ _ _ _).mono ?_;rintro e w1 ⟨rfl,rfl⟩;first|rw[hk]|rw[ha]|rw[hb]|rw[hi]))
  refine (eH _ _ ?_).mono ?_
  ·simp[go_sem]
  rintro e w1 ⟨rfl,rfl⟩
  go_wp2_with (first|(go_at_call 53;refine (aD _ _ _ _).mono ?_;rintro e w1 ⟨rfl,rfl⟩;first|rw[hk]|rw[ha]|rw[hb]|rw[hi]))
  go_ret2
  exact⟨aN (by omega) rfl,aA (aA (aA (Below.refl _ _) _) _) _⟩
 ·have hf:¬fitI 1 a b i=true:=by simp[fitI,useA,useB,useI];omega
  rw[if_neg hf] at he
  rw[cB he (by decide),he]
  clear he hf
  go_enter Tryz.func113,Tryz.ntmps113
  go_wp2_with (first|(go_at_call 53;refine (aD _ _ _ _).mono ?_;rintro e w1 ⟨rfl,rfl⟩;first|rw[hk]|rw[ha]|rw[hb]|rw[hi]))
  refine (dA _ _ ?_).mono ?_
  ·simp[go_sem]
  rintro e w1 ⟨rfl,rfl⟩
  go_wp2_with (first|(go_at_call 53;refine (aD _ _ _ _).mono ?_;rintro e w1 ⟨rfl,rfl⟩;first|rw[hk]|rw[ha]|rw[hb]|rw[hi]))
  refine (eG _ _ ?_).mono ?_
  ·simp[go_sem]
  rintro e w1 ⟨rfl,rfl⟩
  go_wp2_with (first|(go_at_call 53;refine (aD _ _ _ _).mono ?_;rintro e w1 ⟨rfl,rfl⟩;first|rw[hk]|rw[ha]|rw[hb]|rw[hi]))
  go_ret2
  exact⟨aN (by omega) rfl,aA (aA (aA (Below.refl _ _) _) _) _⟩
set_option maxHeartbeats 2000000 in
theorem xA (a b i:Int)(w:World)(ha:betweenB 0 7 a=true)(hb:betweenB 0 7 b=true)(hi:betweenB 0 63 i=true):
  Calls Tryz.prog 113 #[.agg #[J 2,J a,J b,J i]] w fun e w'=>e=.returned (.tuple #[J (iW 2 a b i),J (iE 2 a b i)])∧Below w.heap.size w w':=by
 obtain⟨a0,a1⟩:=aK ha
 obtain⟨b0,b1⟩:=aK hb
 obtain⟨i0,i1⟩:=aK hi
 have hk:betweenB 0 8 2=true:=by decide
 have he:iE 2 a b i=if fitI 2 a b i=true then 0 else 3:=iC (k:=2) (by decide) ⟨a0,a1⟩ ⟨b0,b1⟩ ⟨i0,i1⟩
 have ways:(¬0<a∧¬0<b∧¬0<i)∨(¬0<a∧¬0<b∧0<i)∨(¬0<a∧0<b∧¬0<i)∨(¬0<a∧0<b∧0<i)∨(0<a∧¬0<b∧¬0<i)∨(0<a∧¬0<b∧0<i)∨(0<a∧0<b∧¬0<i)∨(0<a∧0<b∧0<i):=by omega
 rcases ways with ⟨pa,pb,pi⟩|⟨pa,pb,pi⟩|⟨pa,pb,pi⟩|⟨pa,pb,pi⟩|⟨pa,pb,pi⟩|⟨pa,pb,pi⟩|⟨pa,pb,pi⟩|⟨pa,pb,pi⟩
 ·have hf:fitI 2 a b i=true:=by simp[fitI,useA,useB,useI];omega
  rw[hf,if_pos rfl] at he
  rw[bH he,he]
  clear he hf
  go_enter Tryz.func113,Tryz.ntmps113
  go_wp2_with (first|(go_at_call 53;refine (aD _ _ _ _).mono ?_;rintro e w1 ⟨rfl,rfl⟩;first|rw[hk]|rw[ha]|rw[hb]|rw[hi]))
  go_ret2
  exact⟨aN (by omega) rfl,aA (aA (aA (Below.refl _ _) _) _) _⟩
 ·have hf:¬fitI 2 a b i=true:=by simp[fitI,useA,useB,useI];omega
  rw[if_neg hf] at he
  rw[cB he (by decide),he]
  clear he hf
  go_enter Tryz.func113,Tryz.ntmps113
  go_wp2_with (first|(go_at_call 53;refine (aD _ _ _ _).mono ?_;rintro e w1 ⟨rfl,rfl⟩;first|rw[hk]|rw[ha]|rw[hb]|rw[hi]))
  refine (jJ _ _ ?_).mono ?_
  ·simp[go_sem]
  rintro e w1 ⟨rfl,rfl⟩
  go_wp2_with (first|(go_at_call 53;refine (aD _ _ _ _).mono ?_;rintro e w1 ⟨rfl,rfl⟩;first|rw[hk]|rw[ha]|rw[hb]|rw[hi]))
  go_ret2
  exact⟨aN (by omega) rfl,aA (aA (aA (Below.refl _ _) _) _) _⟩
 ·have hf:fitI 2 a b i=true:=by simp[fitI,useA,useB,useI];omega
  rw[hf,if_pos rfl] at he
  rw[bH he,he]
  clear he hf
  go_enter Tryz.func113,Tryz.ntmps113
  go_wp2_with (first|(go_at_call 53;refine (aD _ _ _ _).mono ?_;rintro e w1 ⟨rfl,rfl⟩;first|rw[hk]|rw[ha]|rw[hb]|rw[hi]))
  refine (jI _ _ ?_).mono ?_
  ·simp[go_sem]
  rintro e w1 ⟨rfl,rfl⟩
  go_wp2_with (first|(go_at_call 53;refine (aD _ _ _ _).mono ?_;rintro e w1 ⟨rfl,rfl⟩;first|rw[hk]|rw[ha]|rw[hb]|rw[hi]))
  go_ret2
  exact⟨aN (by omega) rfl,aA (aA (aA (Below.refl _ _) _) _) _⟩
 ·have hf:¬fitI 2 a b i=true:=by simp[fitI,useA,useB,useI];omega
  rw[if_neg hf] at he
  rw[cB he (by decide),he]
  clear he hf
  go_enter Tryz.func113,Tryz.ntmps113
  go_wp2_with (first|(go_at_call 53;refine (aD _ _ _ _).mono ?_;rintro e w1 ⟨rfl,rfl⟩;first|rw[hk]|rw[ha]|rw[hb]|rw[hi]))
  refine (jI _ _ ?_).mono ?_
  ·simp[go_sem]
  rintro e w1 ⟨rfl,rfl⟩
  go_wp2_with (first|(go_at_call 53;refine (aD _ _ _ _).mono ?_;rintro e w1 ⟨rfl,rfl⟩;first|rw[hk]|rw[ha]|rw[hb]|rw[hi]))
  refine (jJ _ _ ?_).mono ?_
  ·simp[go_sem]
  rintro e w1 ⟨rfl,rfl⟩
  go_wp2_with (first|(go_at_call 53;refine (aD _ _ _ _).mono ?_;rintro e w1 ⟨rfl,rfl⟩;first|rw[hk]|rw[ha]|rw[hb]|rw[hi]))
  go_ret2
  exact⟨aN (by omega) rfl,aA (aA (aA (Below.refl _ _) _) _) _⟩
 ·have hf:fitI 2 a b i=true:=by simp[fitI,useA,useB,useI];omega
  rw[hf,if_pos rfl] at he
  rw[bH he,he]
  clear he hf
  go_enter Tryz.func113,Tryz.ntmps113
  go_wp2_with (first|(go_at_call 53;refine (aD _ _ _ _).mono ?_;rintro e w1 ⟨rfl,rfl⟩;first|rw[hk]|rw[ha]|rw[hb]|rw[hi]))
  refine (jH _ _ ?_).mono ?_
  ·simp[go_sem]
  rintro e w1 ⟨rfl,rfl⟩
  go_wp2_with (first|(go_at_call 53;refine (aD _ _ _ _).mono ?_;rintro e w1 ⟨rfl,rfl⟩;first|rw[hk]|rw[ha]|rw[hb]|rw[hi]))
  go_ret2
  exact⟨aN (by omega) rfl,aA (aA (aA (Below.refl _ _) _) _) _⟩
 ·have hf:¬fitI 2 a b i=true:=by simp[fitI,useA,useB,useI];omega
  rw[if_neg hf] at he
  rw[cB he (by decide),he]
  clear he hf
  go_enter Tryz.func113,Tryz.ntmps113
  go_wp2_with (first|(go_at_call 53;refine (aD _ _ _ _).mono ?_;rintro e w1 ⟨rfl,rfl⟩;first|rw[hk]|rw[ha]|rw[hb]|rw[hi]))
  refine (jH _ _ ?_).mono ?_
  ·simp[go_sem]
  rintro e w1 ⟨rfl,rfl⟩
  go_wp2_with (first|(go_at_call 53;refine (aD _ _ _ _).mono ?_;rintro e w1 ⟨rfl,rfl⟩;first|rw[hk]|rw[ha]|rw[hb]|rw[hi]))
  refine (jJ _ _ ?_).mono ?_
  ·simp[go_sem]
  rintro e w1 ⟨rfl,rfl⟩
  go_wp2_with (first|(go_at_call 53;refine (aD _ _ _ _).mono ?_;rintro e w1 ⟨rfl,rfl⟩;first|rw[hk]|rw[ha]|rw[hb]|rw[hi]))
  go_ret2
  exact⟨aN (by omega) rfl,aA (aA (aA (Below.refl _ _) _) _) _⟩
 ·have hf:fitI 2 a b i=true:=by simp[fitI,useA,useB,useI];omega
  rw[hf,if_pos rfl] at he
  rw[bH he,he]
  clear he hf
  go_enter Tryz.func113,Tryz.ntmps113
  go_wp2_with (first|(go_at_call 53;refine (aD _ _ _ _).mono ?_;rintro e w1 ⟨rfl,rfl⟩;first|rw[hk]|rw[ha]|rw[hb]|rw[hi]))
  refine (jH _ _ ?_).mono ?_
  ·simp[go_sem]
  rintro e w1 ⟨rfl,rfl⟩
  go_wp2_with (first|(go_at_call 53;refine (aD _ _ _ _).mono ?_;rintro e w1 ⟨rfl,rfl⟩;first|rw[hk]|rw[ha]|rw[hb]|rw[hi]))
  refine (jI _ _ ?_).mono ?_
  ·simp[go_sem]
  rintro e w1 ⟨rfl,rfl⟩
  go_wp2_with (first|(go_at_call 53;refine (aD _ _ _ _).mono ?_;rintro e w1 ⟨rfl,rfl⟩;first|rw[hk]|rw[ha]|rw[hb]|rw[hi]))
  go_ret2
  exact⟨aN (by omega) rfl,aA (aA (aA (Below.refl _ _) _) _) _⟩
 ·have hf:¬fitI 2 a b i=true:=by simp[fitI,useA,useB,useI];omega
  rw[if_neg hf] at he
  rw[cB he (by decide),he]
  clear he hf
  go_enter Tryz.func113,Tryz.ntmps113
  go_wp2_with (first|(go_at_call 53;refine (aD _ _ _ _).mono ?_;rintro e w1 ⟨rfl,rfl⟩;first|rw[hk]|rw[ha]|rw[hb]|rw[hi]))
  refine (jH _ _ ?_).mono ?_
  ·simp[go_sem]
  rintro e w1 ⟨rfl,rfl⟩
  go_wp2_with (first|(go_at_call 53;refine (aD _ _ _ _).mono ?_;rintro e w1 ⟨rfl,rfl⟩;first|rw[hk]|rw[ha]|rw[hb]|rw[hi]))
  refine (jI _ _ ?_).mono ?_
  ·simp[go_sem]
  rintro e w1 ⟨rfl,rfl⟩
  go_wp2_with (first|(go_at_call 53;refine (aD _ _ _ _).mono ?_;rintro e w1 ⟨rfl,rfl⟩;first|rw[hk]|rw[ha]|rw[hb]|rw[hi]))
  refine (jJ _ _ ?_).mono ?_
  ·simp[go_sem]
  rintro e w1 ⟨rfl,rfl⟩
  go_wp2_with (first|(go_at_call 53;refine (aD _ _ _ _).mono ?_;rintro e w1 ⟨rfl,rfl⟩;first|rw[hk]|rw[ha]|rw[hb]|rw[hi]))
  go_ret2
  exact⟨aN (by omega) rfl,aA (aA (aA (Below.refl _ _) _) _) _⟩
set_option maxHeartbeats 2000000 in
theorem xB (a b i:Int)(w:World)(ha:betweenB 0 7 a=true)(hb:betweenB 0 7 b=true)(hi:betweenB 0 63 i=true):
  Calls Tryz.prog 113 #[.agg #[J 3,J a,J b,J i]] w fun e w'=>e=.returned (.tuple #[J (iW 3 a b i),J (iE 3 a b i)])∧Below w.heap.size w w':=by
 obtain⟨a0,a1⟩:=aK ha
 obtain⟨b0,b1⟩:=aK hb
 obtain⟨i0,i1⟩:=aK hi
 have hk:betweenB 0 8 3=true:=by decide
 have he:iE 3 a b i=if fitI 3 a b i=true then 0 else 3:=iC (k:=3) (by decide) ⟨a0,a1⟩ ⟨b0,b1⟩ ⟨i0,i1⟩
 have ways:(¬0<a∧¬0<b∧¬0<i)∨(¬0<a∧¬0<b∧0<i)∨(¬0<a∧0<b)∨(0<a∧¬0<b∧¬0<i)∨(0<a∧¬0<b∧0<i)∨(0<a∧0<b):=by omega
 rcases ways with ⟨pa,pb,pi⟩|⟨pa,pb,pi⟩|⟨pa,pb⟩|⟨pa,pb,pi⟩|⟨pa,pb,pi⟩|⟨pa,pb⟩
 ·have hf:fitI 3 a b i=true:=by simp[fitI,useA,useB,useI];omega
  rw[hf,if_pos rfl] at he
  rw[bH he,he]
  clear he hf
  go_enter Tryz.func113,Tryz.ntmps113
  go_wp2_with (first|(go_at_call 53;refine (aD _ _ _ _).mono ?_;rintro e w1 ⟨rfl,rfl⟩;first|rw[hk]|rw[ha]|rw[hb]|rw[hi]))
  go_ret2
  exact⟨aN (by omega) rfl,aA (aA (aA (Below.refl _ _) _) _) _⟩
 ·have hf:fitI 3 a b i=true:=by simp[fitI,useA,useB,useI];omega
  rw[hf,if_pos rfl] at he
  rw[bH he,he]
  clear he hf
  go_enter Tryz.func113,Tryz.ntmps113
  go_wp2_with (first|(go_at_call 53;refine (aD _ _ _ _).mono ?_;rintro e w1 ⟨rfl,rfl⟩;first|rw[hk]|rw[ha]|rw[hb]|rw[hi]))
  refine (eH _ _ ?_).mono ?_
  ·simp[go_sem]
  rintro e w1 ⟨rfl,rfl⟩
  go_wp2_with (first|(go_at_call 53;refine (aD _ _ _ _).mono ?_;rintro e w1 ⟨rfl,rfl⟩;first|rw[hk]|rw[ha]|rw[hb]|rw[hi]))
  go_ret2
  exact⟨aN (by omega) rfl,aA (aA (aA (Below.refl _ _) _) _) _⟩
 ·have hf:¬fitI 3 a b i=true:=by simp[fitI,useA,useB,useI];omega
  rw[if_neg hf] at he
  rw[cB he (by decide),he]
  clear he hf
  go_enter Tryz.func113,Tryz.ntmps113
  go_wp2_with (first|(go_at_call 53;refine (aD _ _ _ _).mono ?_;rintro e w1 ⟨rfl,rfl⟩;first|rw[hk]|rw[ha]|rw[hb]|rw[hi]))
  refine (eG _ _ ?_).mono ?_
  ·simp[go_sem]
  rintro e w1 ⟨rfl,rfl⟩
  go_wp2_with (first|(go_at_call 53;refine (aD _ _ _ _).mono ?_;rintro e w1 ⟨rfl,rfl⟩;first|rw[hk]|rw[ha]|rw[hb]|rw[hi]))
  go_ret2
  exact⟨aN (by omega) rfl,aA (aA (aA (Below.refl _ _) _) _) _⟩
 ·have hf:fitI 3 a b i=true:=by simp[fitI,useA,useB,useI];omega
  rw[hf,if_pos rfl] at he
  rw[bH he,he]
  clear he hf
  go_enter Tryz.func113,Tryz.ntmps113
  go_wp2_with (first|(go_at_call 53;refine (aD _ _ _ _).mono ?_;rintro e w1 ⟨rfl,rfl⟩;first|rw[hk]|rw[ha]|rw[hb]|rw[hi]))
  refine (dA _ _ ?_).mono ?_
  ·simp[go_sem]
  rintro e w1 ⟨rfl,rfl⟩
  go_wp2_with (first|(go_at_call 53;refine (aD _ _ _ _).mono ?_;rintro e w1 ⟨rfl,rfl⟩;first|rw[hk]|rw[ha]|rw[hb]|rw[hi]))
  go_ret2
  exact⟨aN (by omega) rfl,aA (aA (aA (Below.refl _ _) _) _) _⟩
 ·have hf:fitI 3 a b i=true:=by simp[fitI,useA,useB,useI];omega
  rw[hf,if_pos rfl] at he
  rw[bH he,he]
  clear he hf
  go_enter Tryz.func113,Tryz.ntmps113
  go_wp2_with (first|(go_at_call 53;refine (aD _ _ _ _).mono ?_;rintro e w1 ⟨rfl,rfl⟩;first|rw[hk]|rw[ha]|rw[hb]|rw[hi]))
  refine (dA _ _ ?_).mono ?_
  ·simp[go_sem]
  rintro e w1 ⟨rfl,rfl⟩
  go_wp2_with (first|(go_at_call 53;refine (aD _ _ _ _).mono ?_;rintro e w1 ⟨rfl,rfl⟩;first|rw[hk]|rw[ha]|rw[hb]|rw[hi]))
  refine (eH _ _ ?_).mono ?_
  ·simp[go_sem]
  rintro e w1 ⟨rfl,rfl⟩
  go_wp2_with (first|(go_at_call 53;refine (aD _ _ _ _).mono ?_;rintro e w1 ⟨rfl,rfl⟩;first|rw[hk]|rw[ha]|rw[hb]|rw[hi]))
  go_ret2
  exact⟨aN (by omega) rfl,aA (aA (aA (Below.refl _ _) _) _) _⟩
 ·have hf:¬fitI 3 a b i=true:=by simp[fitI,useA,useB,useI];omega
  rw[if_neg hf] at he
  rw[cB he (by decide),he]
  clear he hf
  go_enter Tryz.func113,Tryz.ntmps113
  go_wp2_with (first|(go_at_call 53;refine (aD _ _ _ _).mono ?_;rintro e w1 ⟨rfl,rfl⟩;first|rw[hk]|rw[ha]|rw[hb]|rw[hi]))
  refine (dA _ _ ?_).mono ?_
  ·simp[go_sem]
  rintro e w1 ⟨rfl,rfl⟩
  go_wp2_with (first|(go_at_call 53;refine (aD _ _ _ _).mono ?_;rintro e w1 ⟨rfl,rfl⟩;first|rw[hk]|rw[ha]|rw[hb]|rw[hi]))
  refine (eG _ _ ?_).mono ?_
  ·simp[go_sem]
  rintro e w1 ⟨rfl,rfl⟩
  go_wp2_with (first|(go_at_call 53;refine (aD _ _ _ _).mono ?_;rintro e w1 ⟨rfl,rfl⟩;first|rw[hk]|rw[ha]|rw[hb]|rw[hi]))
  go_ret2
  exact⟨aN (by omega) rfl,aA (aA (aA (Below.refl _ _) _) _) _⟩
set_option maxHeartbeats 2000000 in
theorem xC (a b i:Int)(w:World)(ha:betweenB 0 7 a=true)(hb:betweenB 0 7 b=true)(hi:betweenB 0 63 i=true):
  Calls Tryz.prog 113 #[.agg #[J 4,J a,J b,J i]] w fun e w'=>e=.returned (.tuple #[J (iW 4 a b i),J (iE 4 a b i)])∧Below w.heap.size w w':=by
 obtain⟨a0,a1⟩:=aK ha
 obtain⟨b0,b1⟩:=aK hb
 obtain⟨i0,i1⟩:=aK hi
 have hk:betweenB 0 8 4=true:=by decide
 have he:iE 4 a b i=if fitI 4 a b i=true then 0 else 3:=iC (k:=4) (by decide) ⟨a0,a1⟩ ⟨b0,b1⟩ ⟨i0,i1⟩
 have ways:(¬0<a∧¬0<b∧¬0<i)∨(¬0<a∧¬0<b∧0<i)∨(¬0<a∧0<b∧¬0<i)∨(¬0<a∧0<b∧0<i)∨(0<a∧¬0<b∧¬0<i)∨(0<a∧¬0<b∧0<i)∨(0<a∧0<b∧¬0<i)∨(0<a∧0<b∧0<i):=by omega
 rcases ways with ⟨pa,pb,pi⟩|⟨pa,pb,pi⟩|⟨pa,pb,pi⟩|⟨pa,pb,pi⟩|⟨pa,pb,pi⟩|⟨pa,pb,pi⟩|⟨pa,pb,pi⟩|⟨pa,pb,pi⟩
 ·have hf:fitI 4 a b i=true:=by simp[fitI,useA,useB,useI]
  rw[hf,if_pos rfl] at he
  rw[bH he,he]
  clear he hf
  go_enter Tryz.func113,Tryz.ntmps113
  go_wp2_with (first|(go_at_call 53;refine (aD _ _ _ _).mono ?_;rintro e w1 ⟨rfl,rfl⟩;first|rw[hk]|rw[ha]|rw[hb]|rw[hi]))
  go_ret2
  exact⟨aN (by omega) rfl,aA (aA (aA (Below.refl _ _) _) _) _⟩
 ·have hf:fitI 4 a b i=true:=by simp[fitI,useA,useB,useI]
  rw[hf,if_pos rfl] at he
  rw[bH he,he]
  clear he hf
  go_enter Tryz.func113,Tryz.ntmps113
  go_wp2_with (first|(go_at_call 53;refine (aD _ _ _ _).mono ?_;rintro e w1 ⟨rfl,rfl⟩;first|rw[hk]|rw[ha]|rw[hb]|rw[hi]))
  refine (cO _ _ ?_).mono ?_
  ·simp[go_sem]
  rintro e w1 ⟨rfl,rfl⟩
  go_wp2_with (first|(go_at_call 53;refine (aD _ _ _ _).mono ?_;rintro e w1 ⟨rfl,rfl⟩;first|rw[hk]|rw[ha]|rw[hb]|rw[hi]))
  go_ret2
  exact⟨aN (by omega) rfl,aA (aA (aA (Below.refl _ _) _) _) _⟩
 ·have hf:fitI 4 a b i=true:=by simp[fitI,useA,useB,useI]
  rw[hf,if_pos rfl] at he
  rw[bH he,he]
  clear he hf
  go_enter Tryz.func113,Tryz.ntmps113
  go_wp2_with (first|(go_at_call 53;refine (aD _ _ _ _).mono ?_;rintro e w1 ⟨rfl,rfl⟩;first|rw[hk]|rw[ha]|rw[hb]|rw[hi]))
  refine (cM _ _ ?_).mono ?_
  ·simp[go_sem]
  rintro e w1 ⟨rfl,rfl⟩
  go_wp2_with (first|(go_at_call 53;refine (aD _ _ _ _).mono ?_;rintro e w1 ⟨rfl,rfl⟩;first|rw[hk]|rw[ha]|rw[hb]|rw[hi]))
  go_ret2
  exact⟨aN (by omega) rfl,aA (aA (aA (Below.refl _ _) _) _) _⟩
 ·have hf:fitI 4 a b i=true:=by simp[fitI,useA,useB,useI]
  rw[hf,if_pos rfl] at he
  rw[bH he,he]
  clear he hf
  go_enter Tryz.func113,Tryz.ntmps113
  go_wp2_with (first|(go_at_call 53;refine (aD _ _ _ _).mono ?_;rintro e w1 ⟨rfl,rfl⟩;first|rw[hk]|rw[ha]|rw[hb]|rw[hi]))
  refine (cM _ _ ?_).mono ?_
  ·simp[go_sem]
  rintro e w1 ⟨rfl,rfl⟩
  go_wp2_with (first|(go_at_call 53;refine (aD _ _ _ _).mono ?_;rintro e w1 ⟨rfl,rfl⟩;first|rw[hk]|rw[ha]|rw[hb]|rw[hi]))
  refine (cO _ _ ?_).mono ?_
  ·simp[go_sem]
  rintro e w1 ⟨rfl,rfl⟩
  go_wp2_with (first|(go_at_call 53;refine (aD _ _ _ _).mono ?_;rintro e w1 ⟨rfl,rfl⟩;first|rw[hk]|rw[ha]|rw[hb]|rw[hi]))
  go_ret2
  exact⟨aN (by omega) rfl,aA (aA (aA (Below.refl _ _) _) _) _⟩
 ·have hf:fitI 4 a b i=true:=by simp[fitI,useA,useB,useI]
  rw[hf,if_pos rfl] at he
  rw[bH he,he]
  clear he hf
  go_enter Tryz.func113,Tryz.ntmps113
  go_wp2_with (first|(go_at_call 53;refine (aD _ _ _ _).mono ?_;rintro e w1 ⟨rfl,rfl⟩;first|rw[hk]|rw[ha]|rw[hb]|rw[hi]))
  refine (cL _ _ ?_).mono ?_
  ·simp[go_sem]
  rintro e w1 ⟨rfl,rfl⟩
  go_wp2_with (first|(go_at_call 53;refine (aD _ _ _ _).mono ?_;rintro e w1 ⟨rfl,rfl⟩;first|rw[hk]|rw[ha]|rw[hb]|rw[hi]))
  go_ret2
  exact⟨aN (by omega) rfl,aA (aA (aA (Below.refl _ _) _) _) _⟩
 ·have hf:fitI 4 a b i=true:=by simp[fitI,useA,useB,useI]
  rw[hf,if_pos rfl] at he
  rw[bH he,he]
  clear he hf
  go_enter Tryz.func113,Tryz.ntmps113
  go_wp2_with (first|(go_at_call 53;refine (aD _ _ _ _).mono ?_;rintro e w1 ⟨rfl,rfl⟩;first|rw[hk]|rw[ha]|rw[hb]|rw[hi]))
  refine (cL _ _ ?_).mono ?_
  ·simp[go_sem]
  rintro e w1 ⟨rfl,rfl⟩
  go_wp2_with (first|(go_at_call 53;refine (aD _ _ _ _).mono ?_;rintro e w1 ⟨rfl,rfl⟩;first|rw[hk]|rw[ha]|rw[hb]|rw[hi]))
  refine (cO _ _ ?_).mono ?_
  ·simp[go_sem]
  rintro e w1 ⟨rfl,rfl⟩
  go_wp2_with (first|(go_at_call 53;refine (aD _ _ _ _).mono ?_;rintro e w1 ⟨rfl,rfl⟩;first|rw[hk]|rw[ha]|rw[hb]|rw[hi]))
  go_ret2
  exact⟨aN (by omega) rfl,aA (aA (aA (Below.refl _ _) _) _) _⟩
 ·have hf:fitI 4 a b i=true:=by simp[fitI,useA,useB,useI]
  rw[hf,if_pos rfl] at he
  rw[bH he,he]
  clear he hf
  go_enter Tryz.func113,Tryz.ntmps113
  go_wp2_with (first|(go_at_call 53;refine (aD _ _ _ _).mono ?_;rintro e w1 ⟨rfl,rfl⟩;first|rw[hk]|rw[ha]|rw[hb]|rw[hi]))
  refine (cL _ _ ?_).mono ?_
  ·simp[go_sem]
  rintro e w1 ⟨rfl,rfl⟩
  go_wp2_with (first|(go_at_call 53;refine (aD _ _ _ _).mono ?_;rintro e w1 ⟨rfl,rfl⟩;first|rw[hk]|rw[ha]|rw[hb]|rw[hi]))
  refine (cM _ _ ?_).mono ?_
  ·simp[go_sem]
  rintro e w1 ⟨rfl,rfl⟩
  go_wp2_with (first|(go_at_call 53;refine (aD _ _ _ _).mono ?_;rintro e w1 ⟨rfl,rfl⟩;first|rw[hk]|rw[ha]|rw[hb]|rw[hi]))
  go_ret2
  exact⟨aN (by omega) rfl,aA (aA (aA (Below.refl _ _) _) _) _⟩
 ·have hf:fitI 4 a b i=true:=by simp[fitI,useA,useB,useI]
  rw[hf,if_pos rfl] at he
  rw[bH he,he]
  clear he hf
  go_enter Tryz.func113,Tryz.ntmps113
  go_wp2_with (first|(go_at_call 53;refine (aD _ _ _ _).mono ?_;rintro e w1 ⟨rfl,rfl⟩;first|rw[hk]|rw[ha]|rw[hb]|rw[hi]))
  refine (cL _ _ ?_).mono ?_
  ·simp[go_sem]
  rintro e w1 ⟨rfl,rfl⟩
  go_wp2_with (first|(go_at_call 53;refine (aD _ _ _ _).mono ?_;rintro e w1 ⟨rfl,rfl⟩;first|rw[hk]|rw[ha]|rw[hb]|rw[hi]))
  refine (cM _ _ ?_).mono ?_
  ·simp[go_sem]
  rintro e w1 ⟨rfl,rfl⟩
  go_wp2_with (first|(go_at_call 53;refine (aD _ _ _ _).mono ?_;rintro e w1 ⟨rfl,rfl⟩;first|rw[hk]|rw[ha]|rw[hb]|rw[hi]))
  refine (cO _ _ ?_).mono ?_
  ·simp[go_sem]
  rintro e w1 ⟨rfl,rfl⟩
  go_wp2_with (first|(go_at_call 53;refine (aD _ _ _ _).mono ?_;rintro e w1 ⟨rfl,rfl⟩;first|rw[hk]|rw[ha]|rw[hb]|rw[hi]))
  go_ret2
  exact⟨aN (by omega) rfl,aA (aA (aA (Below.refl _ _) _) _) _⟩
end Go.Proofs.YthlhocneggcekaaGreat
