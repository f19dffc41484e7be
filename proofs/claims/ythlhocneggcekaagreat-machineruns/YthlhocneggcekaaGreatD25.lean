/-
  Laid together: InsW3, InsW4, InsWord, Code2, Coded.
-/
import Derived.Test.YthlhocneggcekaaGreatD24
namespace Go.Proofs.YthlhocneggcekaaGreat
open Go.RowKit
set_option maxHeartbeats 2000000 in
theorem xD (a b i:Int)(w:World)(ha:betweenB 0 7 a=true)(hb:betweenB 0 7 b=true)(hi:betweenB 0 63 i=true):
  Calls Tryz.prog 113 #[.agg #[J 5,J a,J b,J i]] w fun e w'=>e=.returned (.tuple #[J (iW 5 a b i),J (iE 5 a b i)])∧Below w.heap.size w w':=by
 obtain⟨a0,a1⟩:=aK ha
 obtain⟨b0,b1⟩:=aK hb
 obtain⟨i0,i1⟩:=aK hi
 have hk:betweenB 0 8 5=true:=by decide
 have he:iE 5 a b i=if fitI 5 a b i=true then 0 else 3:=iC (k:=5) (by decide) ⟨a0,a1⟩ ⟨b0,b1⟩ ⟨i0,i1⟩
 have ways:(¬0<a∧¬0<b∧¬0<i)∨(¬0<a∧¬0<b∧0<i)∨(¬0<a∧0<b∧¬0<i)∨(¬0<a∧0<b∧0<i)∨(0<a∧¬0<b∧¬0<i)∨(0<a∧¬0<b∧0<i)∨(0<a∧0<b∧¬0<i)∨(0<a∧0<b∧0<i):=by omega
 rcases ways with ⟨pa,pb,pi⟩|⟨pa,pb,pi⟩|⟨pa,pb,pi⟩|⟨pa,pb,pi⟩|⟨pa,pb,pi⟩|⟨pa,pb,pi⟩|⟨pa,pb,pi⟩|⟨pa,pb,pi⟩
 ·have hf:fitI 5 a b i=true:=by simp[fitI,useA,useB,useI]
  rw[hf,if_pos rfl] at he
  rw[bH he,he]
  clear he hf
  go_enter Tryz.func113,Tryz.ntmps113
  go_wp2_with (first|(go_at_call 53;refine (aD _ _ _ _).mono ?_;rintro e w1 ⟨rfl,rfl⟩;first|rw[hk]|rw[ha]|rw[hb]|rw[hi]))
  go_ret2
  exact⟨aN (by omega) rfl,aA (aA (aA (Below.refl _ _) _) _) _⟩
 ·have hf:fitI 5 a b i=true:=by simp[fitI,useA,useB,useI]
  rw[hf,if_pos rfl] at he
  rw[bH he,he]
  clear he hf
  go_enter Tryz.func113,Tryz.ntmps113
  go_wp2_with (first|(go_at_call 53;refine (aD _ _ _ _).mono ?_;rintro e w1 ⟨rfl,rfl⟩;first|rw[hk]|rw[ha]|rw[hb]|rw[hi]))
  refine (cO _ _ ?_).mono ?_
  ·simp[go_sem]
  rintro e w1 ⟨rfl,rfl⟩
  go_wp2_with (first|(go_at_call 53;refine (aD _ _ _ _).mono ?_;rintro e w1 ⟨rfl,rfl⟩;first|rw[hk]|rw[ha]|rw[hb]|rw[hi]))
  go_ret2
  exact⟨aN (by omega) rfl,aA (aA (aA (Below.refl _ _) _) _) _⟩
 ·have hf:fitI 5 a b i=true:=by simp[fitI,useA,useB,useI]
  rw[hf,if_pos rfl] at he
  rw[bH he,he]
  clear he hf
  go_enter Tryz.func113,Tryz.ntmps113
  go_wp2_with (first|(go_at_call 53;refine (aD _ _ _ _).mono ?_;rintro e w1 ⟨rfl,rfl⟩;first|rw[hk]|rw[ha]|rw[hb]|rw[hi]))
  refine (cM _ _ ?_).mono ?_
  ·simp[go_sem]
  rintro e w1 ⟨rfl,rfl⟩
  go_wp2_with (first|(go_at_call 53;refine (aD _ _ _ _).mono ?_;rintro e w1 ⟨rfl,rfl⟩;first|rw[hk]|rw[ha]|rw[hb]|rw[hi]))
  go_ret2
  exact⟨aN (by omega) rfl,aA (aA (aA (Below.refl _ _) _) _) _⟩
 ·have hf:fitI 5 a b i=true:=by simp[fitI,useA,useB,useI]
  rw[hf,if_pos rfl] at he
  rw[bH he,he]
  clear he hf
  go_enter Tryz.func113,Tryz.ntmps113
  go_wp2_with (first|(go_at_call 53;refine (aD _ _ _ _).mono ?_;rintro e w1 ⟨rfl,rfl⟩;first|rw[hk]|rw[ha]|rw[hb]|rw[hi]))
  refine (cM _ _ ?_).mono ?_
  ·simp[go_sem]
  rintro e w1 ⟨rfl,rfl⟩
  go_wp2_with (first|(go_at_call 53;refine (aD _ _ _ _).mono ?_;rintro e w1 ⟨rfl,rfl⟩;first|rw[hk]|rw[ha]|rw[hb]|rw[hi]))
  refine (cO _ _ ?_).mono ?_
  ·simp[go_sem]
  rintro e w1 ⟨rfl,rfl⟩
  go_wp2_with (first|(go_at_call 53;refine (aD _ _ _ _).mono ?_;rintro e w1 ⟨rfl,rfl⟩;first|rw[hk]|rw[ha]|rw[hb]|rw[hi]))
  go_ret2
  exact⟨aN (by omega) rfl,aA (aA (aA (Below.refl _ _) _) _) _⟩
 ·have hf:fitI 5 a b i=true:=by simp[fitI,useA,useB,useI]
  rw[hf,if_pos rfl] at he
  rw[bH he,he]
  clear he hf
  go_enter Tryz.func113,Tryz.ntmps113
  go_wp2_with (first|(go_at_call 53;refine (aD _ _ _ _).mono ?_;rintro e w1 ⟨rfl,rfl⟩;first|rw[hk]|rw[ha]|rw[hb]|rw[hi]))
  refine (cL _ _ ?_).mono ?_
  ·simp[go_sem]
  rintro e w1 ⟨rfl,rfl⟩
  go_wp2_with (first|(go_at_call 53;refine (aD _ _ _ _).mono ?_;rintro e w1 ⟨rfl,rfl⟩;first|rw[hk]|rw[ha]|rw[hb]|rw[hi]))
  go_ret2
  exact⟨aN (by omega) rfl,aA (aA (aA (Below.refl _ _) _) _) _⟩
 ·have hf:fitI 5 a b i=true:=by simp[fitI,useA,useB,useI]
  rw[hf,if_pos rfl] at he
  rw[bH he,he]
  clear he hf
  go_enter Tryz.func113,Tryz.ntmps113
  go_wp2_with (first|(go_at_call 53;refine (aD _ _ _ _).mono ?_;rintro e w1 ⟨rfl,rfl⟩;first|rw[hk]|rw[ha]|rw[hb]|rw[hi]))
  refine (cL _ _ ?_).mono ?_
  ·simp[go_sem]
  rintro e w1 ⟨rfl,rfl⟩
  go_wp2_with (first|(go_at_call 53;refine (aD _ _ _ _).mono ?_;rintro e w1 ⟨rfl,rfl⟩;first|rw[hk]|rw[ha]|rw[hb]|rw[hi]))
  refine (cO _ _ ?_).mono ?_
  ·simp[go_sem]
  rintro e w1 ⟨rfl,rfl⟩
  go_wp2_with (first|(go_at_call 53;refine (aD _ _ _ _).mono ?_;rintro e w1 ⟨rfl,rfl⟩;first|rw[hk]|rw[ha]|rw[hb]|rw[hi]))
  go_ret2
  exact⟨aN (by omega) rfl,aA (aA (aA (Below.refl _ _) _) _) _⟩
 ·have hf:fitI 5 a b i=true:=by simp[fitI,useA,useB,useI]
  rw[hf,if_pos rfl] at he
  rw[bH he,he]
  clear he hf
  go_enter Tryz.func113,Tryz.ntmps113
  go_wp2_with (first|(go_at_call 53;refine (aD _ _ _ _).mono ?_;rintro e w1 ⟨rfl,rfl⟩;first|rw[hk]|rw[ha]|rw[hb]|rw[hi]))
  refine (cL _ _ ?_).mono ?_
  ·simp[go_sem]
  rintro e w1 ⟨rfl,rfl⟩
  go_wp2_with (first|(go_at_call 53;refine (aD _ _ _ _).mono ?_;rintro e w1 ⟨rfl,rfl⟩;first|rw[hk]|rw[ha]|rw[hb]|rw[hi]))
  refine (cM _ _ ?_).mono ?_
  ·simp[go_sem]
  rintro e w1 ⟨rfl,rfl⟩
  go_wp2_with (first|(go_at_call 53;refine (aD _ _ _ _).mono ?_;rintro e w1 ⟨rfl,rfl⟩;first|rw[hk]|rw[ha]|rw[hb]|rw[hi]))
  go_ret2
  exact⟨aN (by omega) rfl,aA (aA (aA (Below.refl _ _) _) _) _⟩
 ·have hf:fitI 5 a b i=true:=by simp[fitI,useA,useB,useI]
  rw[hf,if_pos rfl] at he
  rw[bH he,he]
  clear he hf
  go_enter Tryz.func113,Tryz.ntmps113
  go_wp2_with (first|(go_at_call 53;refine (aD _ _ _ _).mono ?_;rintro e w1 ⟨rfl,rfl⟩;first|rw[hk]|rw[ha]|rw[hb]|rw[hi]))
  refine (cL _ _ ?_).mono ?_
  ·simp[go_sem]
  rintro e w1 ⟨rfl,rfl⟩
  go_wp2_with (first|(go_at_call 53;refine (aD _ _ _ _).mono ?_;rintro e w1 ⟨rfl,rfl⟩;first|rw[hk]|rw[ha]|rw[hb]|rw[hi]))
  refine (cM _ _ ?_).mono ?_
  ·simp[go_sem]
  rintro e w1 ⟨rfl,rfl⟩
  go_wp2_with (first|(go_at_call 53;refine (aD _ _ _ _).mono ?_;rintro e w1 ⟨rfl,rfl⟩;first|rw[hk]|rw[ha]|rw[hb]|rw[hi]))
  refine (cO _ _ ?_).mono ?_
  ·simp[go_sem]
  rintro e w1 ⟨rfl,rfl⟩
  go_wp2_with (first|(go_at_call 53;refine (aD _ _ _ _).mono ?_;rintro e w1 ⟨rfl,rfl⟩;first|rw[hk]|rw[ha]|rw[hb]|rw[hi]))
  go_ret2
  exact⟨aN (by omega) rfl,aA (aA (aA (Below.refl _ _) _) _) _⟩
set_option maxHeartbeats 2000000 in
theorem xF (a b i:Int)(w:World)(ha:betweenB 0 7 a=true)(hb:betweenB 0 7 b=true)(hi:betweenB 0 63 i=true):
  Calls Tryz.prog 113 #[.agg #[J 6,J a,J b,J i]] w fun e w'=>e=.returned (.tuple #[J (iW 6 a b i),J (iE 6 a b i)])∧Below w.heap.size w w':=by
 obtain⟨a0,a1⟩:=aK ha
 obtain⟨b0,b1⟩:=aK hb
 obtain⟨i0,i1⟩:=aK hi
 have hk:betweenB 0 8 6=true:=by decide
 have he:iE 6 a b i=if fitI 6 a b i=true then 0 else 3:=iC (k:=6) (by decide) ⟨a0,a1⟩ ⟨b0,b1⟩ ⟨i0,i1⟩
 have ways:(¬0<a∧¬0<b∧¬0<i)∨(¬0<a∧¬0<b∧0<i)∨(¬0<a∧0<b∧¬0<i)∨(¬0<a∧0<b∧0<i)∨(0<a∧¬0<b∧¬0<i)∨(0<a∧¬0<b∧0<i)∨(0<a∧0<b∧¬0<i)∨(0<a∧0<b∧0<i):=by omega
 rcases ways with ⟨pa,pb,pi⟩|⟨pa,pb,pi⟩|⟨pa,pb,pi⟩|⟨pa,pb,pi⟩|⟨pa,pb,pi⟩|⟨pa,pb,pi⟩|⟨pa,pb,pi⟩|⟨pa,pb,pi⟩
 ·have hf:fitI 6 a b i=true:=by simp[fitI,useA,useB,useI]
  rw[hf,if_pos rfl] at he
  rw[bH he,he]
  clear he hf
  go_enter Tryz.func113,Tryz.ntmps113
  go_wp2_with (first|(go_at_call 53;refine (aD _ _ _ _).mono ?_;rintro e w1 ⟨rfl,rfl⟩;first|rw[hk]|rw[ha]|rw[hb]|rw[hi]))
  go_ret2
  exact⟨aN (by omega) rfl,aA (aA (aA (Below.refl _ _) _) _) _⟩
 ·have hf:fitI 6 a b i=true:=by simp[fitI,useA,useB,useI]
  rw[hf,if_pos rfl] at he
  rw[bH he,he]
  clear he hf
  go_enter Tryz.func113,Tryz.ntmps113
  go_wp2_with (first|(go_at_call 53;refine (aD _ _ _ _).mono ?_;rintro e w1 ⟨rfl,rfl⟩;first|rw[hk]|rw[ha]|rw[hb]|rw[hi]))
  refine (cO _ _ ?_).mono ?_
  ·simp[go_sem]
  rintro e w1 ⟨rfl,rfl⟩
  go_wp2_with (first|(go_at_call 53;refine (aD _ _ _ _).mono ?_;rintro e w1 ⟨rfl,rfl⟩;first|rw[hk]|rw[ha]|rw[hb]|rw[hi]))
  go_ret2
  exact⟨aN (by omega) rfl,aA (aA (aA (Below.refl _ _) _) _) _⟩
 ·have hf:fitI 6 a b i=true:=by simp[fitI,useA,useB,useI]
  rw[hf,if_pos rfl] at he
  rw[bH he,he]
  clear he hf
  go_enter Tryz.func113,Tryz.ntmps113
  go_wp2_with (first|(go_at_call 53;refine (aD _ _ _ _).mono ?_;rintro e w1 ⟨rfl,rfl⟩;first|rw[hk]|rw[ha]|rw[hb]|rw[hi]))
  refine (cM _ _ ?_).mono ?_
  ·simp[go_sem]
  rintro e w1 ⟨rfl,rfl⟩
  go_wp2_with (first|(go_at_call 53;refine (aD _ _ _ _).mono ?_;rintro e w1 ⟨rfl,rfl⟩;first|rw[hk]|rw[ha]|rw[hb]|rw[hi]))
  go_ret2
  exact⟨aN (by omega) rfl,aA (aA (aA (Below.refl _ _) _) _) _⟩
 ·have hf:fitI 6 a b i=true:=by simp[fitI,useA,useB,useI]
  rw[hf,if_pos rfl] at he
  rw[bH he,he]
  clear he hf
  go_enter Tryz.func113,Tryz.ntmps113
  go_wp2_with (first|(go_at_call 53;refine (aD _ _ _ _).mono ?_;rintro e w1 ⟨rfl,rfl⟩;first|rw[hk]|rw[ha]|rw[hb]|rw[hi]))
  refine (cM _ _ ?_).mono ?_
  ·simp[go_sem]
  rintro e w1 ⟨rfl,rfl⟩
  go_wp2_with (first|(go_at_call 53;refine (aD _ _ _ _).mono ?_;rintro e w1 ⟨rfl,rfl⟩;first|rw[hk]|rw[ha]|rw[hb]|rw[hi]))
  refine (cO _ _ ?_).mono ?_
  ·simp[go_sem]
  rintro e w1 ⟨rfl,rfl⟩
  go_wp2_with (first|(go_at_call 53;refine (aD _ _ _ _).mono ?_;rintro e w1 ⟨rfl,rfl⟩;first|rw[hk]|rw[ha]|rw[hb]|rw[hi]))
  go_ret2
  exact⟨aN (by omega) rfl,aA (aA (aA (Below.refl _ _) _) _) _⟩
 ·have hf:fitI 6 a b i=true:=by simp[fitI,useA,useB,useI]
  rw[hf,if_pos rfl] at he
  rw[bH he,he]
  clear he hf
  go_enter Tryz.func113,Tryz.ntmps113
  go_wp2_with (first|(go_at_call 53;refine (aD _ _ _ _).mono ?_;rintro e w1 ⟨rfl,rfl⟩;first|rw[hk]|rw[ha]|rw[hb]|rw[hi]))
  refine (cL _ _ ?_).mono ?_
  ·simp[go_sem]
  rintro e w1 ⟨rfl,rfl⟩
  go_wp2_with (first|(go_at_call 53;refine (aD _ _ _ _).mono ?_;rintro e w1 ⟨rfl,rfl⟩;first|rw[hk]|rw[ha]|rw[hb]|rw[hi]))
  go_ret2
  exact⟨aN (by omega) rfl,aA (aA (aA (Below.refl _ _) _) _) _⟩
 ·have hf:fitI 6 a b i=true:=by simp[fitI,useA,useB,useI]
  rw[hf,if_pos rfl] at he
  rw[bH he,he]
  clear he hf
  go_enter Tryz.func113,Tryz.ntmps113
  go_wp2_with (first|(go_at_call 53;refine (aD _ _ _ _).mono ?_;rintro e w1 ⟨rfl,rfl⟩;first|rw[hk]|rw[ha]|rw[hb]|rw[hi]))
  refine (cL _ _ ?_).mono ?_
  ·simp[go_sem]
  rintro e w1 ⟨rfl,rfl⟩
  go_wp2_with (first|(go_at_call 53;refine (aD _ _ _ _).mono ?_;rintro e w1 ⟨rfl,rfl⟩;first|rw[hk]|rw[ha]|rw[hb]|rw[hi]))
  refine (cO _ _ ?_).mono ?_
  ·simp[go_sem]
  rintro e w1 ⟨rfl,rfl⟩
  go_wp2_with (first|(go_at_call 53;refine (aD _ _ _ _).mono ?_;rintro e w1 ⟨rfl,rfl⟩;first|rw[hk]|rw[ha]|rw[hb]|rw[hi]))
  go_ret2
  exact⟨aN (by omega) rfl,aA (aA (aA (Below.refl _ _) _) _) _⟩
 ·have hf:fitI 6 a b i=true:=by simp[fitI,useA,useB,useI]
  rw[hf,if_pos rfl] at he
  rw[bH he,he]
  clear he hf
  go_enter Tryz.func113,Tryz.ntmps113
  go_wp2_with (first|(go_at_call 53;refine (aD _ _ _ _).mono ?_;rintro e w1 ⟨rfl,rfl⟩;first|rw[hk]|rw[ha]|rw[hb]|rw[hi]))
  refine (cL _ _ ?_).mono ?_
  ·simp[go_sem]
  rintro e w1 ⟨rfl,rfl⟩
  go_wp2_with (first|(go_at_call 53;refine (aD _ _ _ _).mono ?_;rintro e w1 ⟨rfl,rfl⟩;first|rw[hk]|rw[ha]|rw[hb]|rw[hi]))
  refine (cM _ _ ?_).mono ?_
  ·simp[go_sem]
  rintro e w1 ⟨rfl,rfl⟩
  go_wp2_with (first|(go_at_call 53;refine (aD _ _ _ _).mono ?_;rintro e w1 ⟨rfl,rfl⟩;first|rw[hk]|rw[ha]|rw[hb]|rw[hi]))
  go_ret2
  exact⟨aN (by omega) rfl,aA (aA (aA (Below.refl _ _) _) _) _⟩
 ·have hf:fitI 6 a b i=true:=by simp[fitI,useA,useB,useI]
  rw[hf,if_pos rfl] at he
  rw[bH he,he]
  clear he hf
  go_enter Tryz.func113,Tryz.ntmps113
  go_wp2_with (first|(go_at_call 53;refine (aD _ _ _ _).mono ?_;rintro e w1 ⟨rfl,rfl⟩;first|rw[hk]|rw[ha]|rw[hb]|rw[hi]))
  refine (cL _ _ ?_).mono ?_
  ·simp[go_sem]
  rintro e w1 ⟨rfl,rfl⟩
  go_wp2_with (first|(go_at_call 53;refine (aD _ _ _ _).mono ?_;rintro e w1 ⟨rfl,rfl⟩;first|rw[hk]|rw[ha]|rw[hb]|rw[hi]))
  refine (cM _ _ ?_).mono ?_
  ·simp[go_sem]
  rintro e w1 ⟨rfl,rfl⟩
  go_wp2_with (first|(go_at_call 53;refine (aD _ _ _ _).mono ?_;rintro e w1 ⟨rfl,rfl⟩;first|rw[hk]|rw[ha]|rw[hb]|rw[hi]))
  refine (cO _ _ ?_).mono ?_
  ·simp[go_sem]
  rintro e w1 ⟨rfl,rfl⟩
  go_wp2_with (first|(go_at_call 53;refine (aD _ _ _ _).mono ?_;rintro e w1 ⟨rfl,rfl⟩;first|rw[hk]|rw[ha]|rw[hb]|rw[hi]))
  go_ret2
  exact⟨aN (by omega) rfl,aA (aA (aA (Below.refl _ _) _) _) _⟩
set_option maxHeartbeats 2000000 in
theorem xG (a b i:Int)(w:World)(ha:betweenB 0 7 a=true)(hb:betweenB 0 7 b=true)(hi:betweenB 0 63 i=true):
  Calls Tryz.prog 113 #[.agg #[J 7,J a,J b,J i]] w fun e w'=>e=.returned (.tuple #[J (iW 7 a b i),J (iE 7 a b i)])∧Below w.heap.size w w':=by
 obtain⟨a0,a1⟩:=aK ha
 obtain⟨b0,b1⟩:=aK hb
 obtain⟨i0,i1⟩:=aK hi
 have hk:betweenB 0 8 7=true:=by decide
 have he:iE 7 a b i=if fitI 7 a b i=true then 0 else 3:=iC (k:=7) (by decide) ⟨a0,a1⟩ ⟨b0,b1⟩ ⟨i0,i1⟩
 have ways:(¬0<a∧¬0<b∧¬0<i)∨(¬0<a∧¬0<b∧0<i)∨(¬0<a∧0<b)∨(0<a∧¬0<b∧¬0<i)∨(0<a∧¬0<b∧0<i)∨(0<a∧0<b):=by omega
 rcases ways with ⟨pa,pb,pi⟩|⟨pa,pb,pi⟩|⟨pa,pb⟩|⟨pa,pb,pi⟩|⟨pa,pb,pi⟩|⟨pa,pb⟩
 ·have hf:fitI 7 a b i=true:=by simp[fitI,useA,useB,useI];omega
  rw[hf,if_pos rfl] at he
  rw[bH he,he]
  clear he hf
  go_enter Tryz.func113,Tryz.ntmps113
  go_wp2_with (first|(go_at_call 53;refine (aD _ _ _ _).mono ?_;rintro e w1 ⟨rfl,rfl⟩;first|rw[hk]|rw[ha]|rw[hb]|rw[hi]))
  go_ret2
  exact⟨aN (by omega) rfl,aA (aA (aA (Below.refl _ _) _) _) _⟩
 ·have hf:fitI 7 a b i=true:=by simp[fitI,useA,useB,useI];omega
  rw[hf,if_pos rfl] at he
  rw[bH he,he]
  clear he hf
  go_enter Tryz.func113,Tryz.ntmps113
  go_wp2_with (first|(go_at_call 53;refine (aD _ _ _ _).mono ?_;rintro e w1 ⟨rfl,rfl⟩;first|rw[hk]|rw[ha]|rw[hb]|rw[hi]))
  refine (eH _ _ ?_).mono ?_
  ·simp[go_sem]
  rintro e w1 ⟨rfl,rfl⟩
  go_wp2_with (first|(go_at_call 53;refine (aD _ _ _ _).mono ?_;rintro e w1 ⟨rfl,rfl⟩;first|rw[hk]|rw[ha]|rw[hb]|rw[hi]))
  go_ret2
  exact⟨aN (by omega) rfl,aA (aA (aA (Below.refl _ _) _) _) _⟩
 ·have hf:¬fitI 7 a b i=true:=by simp[fitI,useA,useB,useI];omega
  rw[if_neg hf] at he
  rw[cB he (by decide),he]
  clear he hf
  go_enter Tryz.func113,Tryz.ntmps113
  go_wp2_with (first|(go_at_call 53;refine (aD _ _ _ _).mono ?_;rintro e w1 ⟨rfl,rfl⟩;first|rw[hk]|rw[ha]|rw[hb]|rw[hi]))
  refine (eG _ _ ?_).mono ?_
  ·simp[go_sem]
  rintro e w1 ⟨rfl,rfl⟩
  go_wp2_with (first|(go_at_call 53;refine (aD _ _ _ _).mono ?_;rintro e w1 ⟨rfl,rfl⟩;first|rw[hk]|rw[ha]|rw[hb]|rw[hi]))
  go_ret2
  exact⟨aN (by omega) rfl,aA (aA (aA (Below.refl _ _) _) _) _⟩
 ·have hf:fitI 7 a b i=true:=by simp[fitI,useA,useB,useI];omega
  rw[hf,if_pos rfl] at he
  rw[bH he,he]
  clear he hf
  go_enter Tryz.func113,Tryz.ntmps113
  go_wp2_with (first|(go_at_call 53;refine (aD _ _ _ _).mono ?_;rintro e w1 ⟨rfl,rfl⟩;first|rw[hk]|rw[ha]|rw[hb]|rw[hi]))
  refine (dA _ _ ?_).mono ?_
  ·simp[go_sem]
  rintro e w1 ⟨rfl,rfl⟩
  go_wp2_with (first|(go_at_call 53;refine (aD _ _ _ _).mono ?_;rintro e w1 ⟨rfl,rfl⟩;first|rw[hk]|rw[ha]|rw[hb]|rw[hi]))
  go_ret2
  exact⟨aN (by omega) rfl,aA (aA (aA (Below.refl _ _) _) _) _⟩
 ·have hf:fitI 7 a b i=true:=by simp[fitI,useA,useB,useI];omega
  rw[hf,if_pos rfl] at he
  rw[bH he,he]
  clear he hf
  go_enter Tryz.func113,Tryz.ntmps113
  go_wp2_with (first|(go_at_call 53;refine (aD _ _ _ _).mono ?_;rintro e w1 ⟨rfl,rfl⟩;first|rw[hk]|rw[ha]|rw[hb]|rw[hi]))
  refine (dA _ _ ?_).mono ?_
  ·simp[go_sem]
  rintro e w1 ⟨rfl,rfl⟩
  go_wp2_with (first|(go_at_call 53;refine (aD _ _ _ _).mono ?_;rintro e w1 ⟨rfl,rfl⟩;first|rw[hk]|rw[ha]|rw[hb]|rw[hi]))
  refine (eH _ _ ?_).mono ?_
  ·simp[go_sem]
  rintro e w1 ⟨rfl,rfl⟩
  go_wp2_with (first|(go_at_call 53;refine (aD _ _ _ _).mono ?_;rintro e w1 ⟨rfl,rfl⟩;first|rw[hk]|rw[ha]|rw[hb]|rw[hi]))
  go_ret2
  exact⟨aN (by omega) rfl,aA (aA (aA (Below.refl _ _) _) _) _⟩
 ·have hf:¬fitI 7 a b i=true:=by simp[fitI,useA,useB,useI];omega
  rw[if_neg hf] at he
  rw[cB he (by decide),he]
  clear he hf
  go_enter Tryz.func113,Tryz.ntmps113
  go_wp2_with (first|(go_at_call 53;refine (aD _ _ _ _).mono ?_;rintro e w1 ⟨rfl,rfl⟩;first|rw[hk]|rw[ha]|rw[hb]|rw[hi]))
  refine (dA _ _ ?_).mono ?_
  ·simp[go_sem]
  rintro e w1 ⟨rfl,rfl⟩
  go_wp2_with (first|(go_at_call 53;refine (aD _ _ _ _).mono ?_;rintro e w1 ⟨rfl,rfl⟩;first|rw[hk]|rw[ha]|rw[hb]|rw[hi]))
  refine (eG _ _ ?_).mono ?_
  ·simp[go_sem]
  rintro e w1 ⟨rfl,rfl⟩
  go_wp2_with (first|(go_at_call 53;refine (aD _ _ _ _).mono ?_;rintro e w1 ⟨rfl,rfl⟩;first|rw[hk]|rw[ha]|rw[hb]|rw[hi]))
  go_ret2
  exact⟨aN (by omega) rfl,aA (aA (aA (Below.refl _ _) _) _) _⟩
set_option maxHeartbeats 2000000 in
theorem xH (a b i:Int)(w:World)(ha:betweenB 0 7 a=true)(hb:betweenB 0 7 b=true)(hi:betweenB 0 63 i=true):
  Calls Tryz.prog 113 #[.agg #[J 8,J a,J b,J i]] w fun e w'=>e=.returned (.tuple #[J (iW 8 a b i),J (iE 8 a b i)])∧Below w.heap.size w w':=by
 obtain⟨a0,a1⟩:=aK ha
 obtain⟨b0,b1⟩:=aK hb
 obtain⟨i0,i1⟩:=aK hi
 have hk:betweenB 0 8 8=true:=by decide
 have he:iE 8 a b i=if fitI 8 a b i=true then 0 else 3:=iC (k:=8) (by decide) ⟨a0,a1⟩ ⟨b0,b1⟩ ⟨i0,i1⟩
 have ways:(¬0<a∧¬0<b∧¬0<i)∨(¬0<a∧¬0<b∧0<i)∨(¬0<a∧0<b)∨(0<a∧¬0<b∧¬0<i)∨(0<a∧¬0<b∧0<i)∨(0<a∧0<b):=by omega
 rcases ways with ⟨pa,pb,pi⟩|⟨pa,pb,pi⟩|⟨pa,pb⟩|⟨pa,pb,pi⟩|⟨pa,pb,pi⟩|⟨pa,pb⟩
 ·have hf:fitI 8 a b i=true:=by simp[fitI,useA,useB,useI];omega
  rw[hf,if_pos rfl] at he
  rw[bH he,he]
  clear he hf
  go_enter Tryz.func113,Tryz.ntmps113
  go_wp2_with (first|(go_at_call 53;refine (aD _ _ _ _).mono ?_;rintro e w1 ⟨rfl,rfl⟩;first|rw[hk]|rw[ha]|rw[hb]|rw[hi]))
  go_ret2
  exact⟨aN (by omega) rfl,aA (aA (aA (Below.refl _ _) _) _) _⟩
 ·have hf:fitI 8 a b i=true:=by simp[fitI,useA,useB,useI];omega
  rw[hf,if_pos rfl] at he
  rw[bH he,he]
  clear he hf
  go_enter Tryz.func113,Tryz.ntmps113
  go_wp2_with (first|(go_at_call 53;refine (aD _ _ _ _).mono ?_;rintro e w1 ⟨rfl,rfl⟩;first|rw[hk]|rw[ha]|rw[hb]|rw[hi]))
  refine (eH _ _ ?_).mono ?_
  ·simp[go_sem]
  rintro e w1 ⟨rfl,rfl⟩
  go_wp2_with (first|(go_at_call 53;refine (aD _ _ _ _).mono ?_;rintro e w1 ⟨rfl,rfl⟩;first|rw[hk]|rw[ha]|rw[hb]|rw[hi]))
  go_ret2
  exact⟨aN (by omega) rfl,aA (aA (aA (Below.refl _ _) _) _) _⟩
 ·have hf:¬fitI 8 a b i=true:=by simp[fitI,useA,useB,useI];omega
  rw[if_neg hf] at he
  rw[cB he (by decide),he]
  clear he hf
  go_enter Tryz.func113,Tryz.ntmps113
  go_wp2_with (first|(go_at_call 53;refine (aD _ _ _ _).mono ?_;rintro e w1 ⟨rfl,rfl⟩;first|rw[hk]|rw[ha]|rw[hb]|rw[hi]))
  refine (eG _ _ ?_).mono ?_
  ·simp[go_sem]
  rintro e w1 ⟨rfl,rfl⟩
  go_wp2_with (first|(go_at_call 53;refine (aD _ _ _ _).mono ?_;rintro e w1 ⟨rfl,rfl⟩;first|rw[hk]|rw[ha]|rw[hb]|rw[hi]))
  go_ret2
  exact⟨aN (by omega) rfl,aA (aA (aA (Below.refl _ _) _) _) _⟩
 ·have hf:fitI 8 a b i=true:=by simp[fitI,useA,useB,useI];omega
  rw[hf,if_pos rfl] at he
  rw[bH he,he]
  clear he hf
  go_enter Tryz.func113,Tryz.ntmps113
  go_wp2_with (first|(go_at_call 53;refine (aD _ _ _ _).mono ?_;rintro e w1 ⟨rfl,rfl⟩;first|rw[hk]|rw[ha]|rw[hb]|rw[hi]))
  refine (dA _ _ ?_).mono ?_
  ·simp[go_sem]
  rintro e w1 ⟨rfl,rfl⟩
  go_wp2_with (first|(go_at_call 53;refine (aD _ _ _ _).mono ?_;rintro e w1 ⟨rfl,rfl⟩;first|rw[hk]|rw[ha]|rw[hb]|rw[hi]))
  go_ret2
  exact⟨aN (by omega) rfl,aA (aA (aA (Below.refl _ _) _) _) _⟩
 ·have hf:fitI 8 a b i=true:=by simp[fitI,useA,useB,useI];omega
  rw[hf,if_pos rfl] at he
  rw[bH he,he]
  clear he hf
  go_enter Tryz.func113,Tryz.ntmps113
  go_wp2_with (first|(go_at_call 53;refine (aD _ _ _ _).mono ?_;rintro e w1 ⟨rfl,rfl⟩;first|rw[hk]|rw[ha]|rw[hb]|rw[hi]))
  refine (dA _ _ ?_).mono ?_
  ·simp[go_sem]
  rintro e w1 ⟨rfl,rfl⟩
  go_wp2_with (first|(go_at_call 53;refine (aD _ _ _ _).mono ?_;rintro e w1 ⟨rfl,rfl⟩;first|rw[hk]|rw[ha]|rw[hb]|rw[hi]))
  refine (eH _ _ ?_).mono ?_
  ·simp[go_sem]
  rintro e w1 ⟨rfl,rfl⟩
  go_wp2_with (first|(go_at_call 53;refine (aD _ _ _ _).mono ?_;rintro e w1 ⟨rfl,rfl⟩;first|rw[hk]|rw[ha]|rw[hb]|rw[hi]))
  go_ret2
  exact⟨aN (by omega) rfl,aA (aA (aA (Below.refl _ _) _) _) _⟩
 ·have hf:¬fitI 8 a b i=true:=by simp[fitI,useA,useB,useI];omega
  rw[if_neg hf] at he
  rw[cB he (by decide),he]
  clear he hf
  go_enter Tryz.func113,Tryz.ntmps113
  go_wp2_with (first|(go_at_call 53;refine (aD _ _ _ _).mono ?_;rintro e w1 ⟨rfl,rfl⟩;first|rw[hk]|rw[ha]|rw[hb]|rw[hi]))
  refine (dA _ _ ?_).mono ?_
  ·simp[go_sem]
  rintro e w1 ⟨rfl,rfl⟩
  go_wp2_with (first|(go_at_call 53;refine (aD _ _ _ _).mono ?_;rintro e w1 ⟨rfl,rfl⟩;first|rw[hk]|rw[ha]|rw[hb]|rw[hi]))
  refine (eG _ _ ?_).mono ?_
  ·simp[go_sem]
  rintro e w1 ⟨rfl,rfl⟩
  go_wp2_with (first|(go_at_call 53;refine (aD _ _ _ _).mono ?_;rintro e w1 ⟨rfl,rfl⟩;first|rw[hk]|rw[ha]|rw[hb]|rw[hi]))
  go_ret2
  exact⟨aN (by omega) rfl,aA (aA (aA (Below.refl _ _) _) _) _⟩
set_option maxHeartbeats 1000000 in
theorem rW (k a b i:Int)(w:World):
  Calls Tryz.prog 113 #[.agg #[J k,J a,J b,J i]] w fun e w'=>e=.returned (.tuple #[J (iW k a b i),J (iE k a b i)])∧Below w.heap.size w w':=by
 cases hk:betweenB 0 8 k
 ·have hk':¬(0≤k∧k≤8):=of_decide_eq_false hk
  have he:iE k a b i=2:=gC (by omega)
  rw[cB he (by decide),he]
  clear he hk'
  go_enter Tryz.func113,Tryz.ntmps113
  go_wp2_with (first|(go_at_call 53;refine (aD _ _ _ _).mono ?_;rintro e w1 ⟨rfl,rfl⟩;first|rw[hk]))
  go_ret2
  exact⟨rfl,aA (Below.refl _ _) _⟩
 cases ha:betweenB 0 7 a
 ·have ha':¬(0≤a∧a≤7):=of_decide_eq_false ha
  have he:iE k a b i=2:=gC (by omega)
  rw[cB he (by decide),he]
  clear he ha'
  go_enter Tryz.func113,Tryz.ntmps113
  go_wp2_with (first|(go_at_call 53;refine (aD _ _ _ _).mono ?_;rintro e w1 ⟨rfl,rfl⟩;first|rw[hk]|rw[ha]))
  go_ret2
  exact⟨rfl,aA (Below.refl _ _) _⟩
 cases hb:betweenB 0 7 b
 ·have hb':¬(0≤b∧b≤7):=of_decide_eq_false hb
  have he:iE k a b i=2:=gC (by omega)
  rw[cB he (by decide),he]
  clear he hb'
  go_enter Tryz.func113,Tryz.ntmps113
  go_wp2_with (first|(go_at_call 53;refine (aD _ _ _ _).mono ?_;rintro e w1 ⟨rfl,rfl⟩;first|rw[hk]|rw[ha]|rw[hb]))
  go_ret2
  exact⟨rfl,aA (Below.refl _ _) _⟩
 cases hi:betweenB 0 63 i
 ·have hi':¬(0≤i∧i≤63):=of_decide_eq_false hi
  have he:iE k a b i=2:=gC (by omega)
  rw[cB he (by decide),he]
  clear he hi'
  go_enter Tryz.func113,Tryz.ntmps113
  go_wp2_with (first|(go_at_call 53;refine (aD _ _ _ _).mono ?_;rintro e w1 ⟨rfl,rfl⟩;first|rw[hk]|rw[ha]|rw[hb]|rw[hi]))
  go_ret2
  exact⟨rfl,aA (Below.refl _ _) _⟩
 have hk':=aK hk
 have parts:k=0∨k=1∨k=2∨k=3∨k=4∨k=5∨k=6∨k=7∨k=8:=by omega
 rcases parts with rfl|rfl|rfl|rfl|rfl|rfl|rfl|rfl|rfl
 ·exact wY a b i w ha hb hi
 ·exact wZ a b i w ha hb hi
 ·exact xA a b i w ha hb hi
 ·exact xB a b i w ha hb hi
 ·exact xC a b i w ha hb hi
 ·exact xD a b i w ha hb hi
 ·exact xF a b i w ha hb hi
 ·exact xG a b i w ha hb hi
 ·exact xH a b i w ha hb hi
theorem pS {z:Int}(h:¬(0≤z∧z≤65535)):riE z=2:=if_neg h
theorem aCb {z:Int}(h:0≤z∧z≤65535)(k:¬iE (z/4096) (z/512%8) (z/64%8) (z%64)=0):riE z=3:=by rw[riE,if_pos h,if_neg k]
theorem kX {z e:Int}(h:riE z=e)(hn:¬e=0):riX z=(0,0,0,0):=if_neg (fun x=>hn (h.symm.trans x))
theorem riX_ok {z:Int}(h:riE z=0):riX z=(z/4096,z/512%8,z/64%8,z%64):=if_pos h
theorem aAw {z:Int}(h:0≤z∧z≤65535):
  (riE z=3∧riX z=(0,0,0,0)∧¬iE (z/4096) (z/512%8) (z/64%8) (z%64)=0)∨
  (riE z=0∧riX z=(z/4096,z/512%8,z/64%8,z%64)∧iE (z/4096) (z/512%8) (z/64%8) (z%64)=0):=by
 by_cases hk:iE (z/4096) (z/512%8) (z/64%8) (z%64)=0
 ·have hr:=riE_mk h hk
  exact .inr ⟨hr,riX_ok hr,hk⟩
 ·have hr:=aCb h hk
  exact .inl ⟨hr,kX hr (by decide),hk⟩
set_option maxHeartbeats 2000000 in
theorem xI (z:Int)(w:World):
  Calls Tryz.prog 131 #[J z] w fun e w'=>(∃k a b i,e=.returned (.tuple #[.agg #[J k,J a,J b,J i],J (riE z)])∧riX z=(k,a,b,i))∧Below w.heap.size w w':=by
 by_cases z0:z<0
 ·have hr:riE z=2:=pS (by omega)
  have HO:Hid (riX z=(0,0,0,0)):=kX hr (by decide)
  rw[hr]
  clear hr
  go_enter Tryz.func131,Tryz.ntmps131
  go_wp2
  refine bodyPost_ret (v:=.tuple #[.agg #[J 0,J 0,J 0,J 0],J 2]) (by simp[results,Tryz.results131,go_sem]) rfl ⟨⟨_,_,_,_,rfl,HO.out⟩,?_⟩
  exact aA (Below.refl _ _) _
 by_cases z1:65535<z
 ·have hr:riE z=2:=pS (by omega)
  have HO:Hid (riX z=(0,0,0,0)):=kX hr (by decide)
  rw[hr]
  clear hr
  go_enter Tryz.func131,Tryz.ntmps131
  go_wp2
  refine bodyPost_ret (v:=.tuple #[.agg #[J 0,J 0,J 0,J 0],J 2]) (by simp[results,Tryz.results131,go_sem]) rfl ⟨⟨_,_,_,_,rfl,HO.out⟩,?_⟩
  exact aA (Below.refl _ _) _
 have hz:0≤z∧z≤65535:=by omega
 have hway:=aAw hz
 obtain⟨h0,h1⟩:=hz
 obtain⟨eo,heo⟩:∃eo,iE (z/4096) (z/512%8) (z/64%8) (z%64)=eo:=⟨_,rfl⟩
 rw[heo] at hway
 have HW:Hid _:=hway
 have HE:Hid _:=heo
 clear hway heo
 go_enter Tryz.func131,Tryz.ntmps131
 go_wp2_with fail
 refine (aAs _ _ _ _ _).mono ?_
 rintro e w1 ⟨rfl,b1⟩
 rw[HE.out]
 have X0:=(Box.newAt (n:=w.heap.size) (by simp) 130 #[J 0,J 0,J 0,J 0]).past (.cells #[J (z/4096),J (z/512%8),J (z/64%8),J (z%64)] 130) |>.keep b1
 have X1:=(Box.newAt (w:=w.alloc (.cells #[J 0,J 0,J 0,J 0] 130)) (n:=w.heap.size+1) (by simp) 130 #[J (z/4096),J (z/512%8),J (z/64%8),J (z%64)]).keep b1
 have B1:Hid (Below w.heap.size w w1):=aB (aA (aA (Below.refl _ _) _) _) b1
 clear b1
 obtain⟨u0,u1,u2,u3,g0,g1,g2,g3,s0⟩:=X0.four
 obtain⟨q0,q1,q2,q3,-,-,-,-,s1⟩:=X1.four
 clear X0 X1
 rcases HW.out with ⟨hr,ho,hk⟩|⟨hr,ho,hk⟩
 ·have HR:Hid _:=hr
  have HO:Hid _:=ho
  have hq:(eo !=0)=true:=by simpa using hk
  clear hr ho HW HE hk
  go_wp2
  refine bodyPost_ret (v:=.tuple #[.agg #[J 0,J 0,J 0,J 0],J 3]) (by simp[results,Tryz.results131,go_sem, *]) rfl ⟨⟨_,_,_,_,by rw[HR.out],HO.out⟩,?_⟩
  exact aZ (by omega) B1.out _ _ _ _
 ·have HR:Hid _:=hr
  have HO:Hid _:=ho
  clear hr ho HW HE
  subst hk
  go_wp2
  refine bodyPost_ret (v:=.tuple #[.agg #[J (z/4096),J (z/512%8),J (z/64%8),J (z%64)],J 0]) (by simp[results,Tryz.results131,go_sem, *]) rfl ⟨⟨_,_,_,_,by rw[HR.out],HO.out⟩,?_⟩
  exact aZ (by omega) B1.out _ _ _ _
set_option maxHeartbeats 2000000 in
theorem xJ (z:Int)(w:World):
  Calls Tryz.prog 78 #[J z] w fun e w'=>(∃k a b i,e=.returned (.tuple #[.agg #[J k,J a,J b,J i],J (riE z)])∧riX z=(k,a,b,i))∧Below w.heap.size w w':=by
 cases hw:betweenB 0 65535 z
 ·have hr:riE z=2:=pS (of_decide_eq_false hw)
  have HO:Hid (riX z=(0,0,0,0)):=kX hr (by decide)
  rw[hr]
  clear hr
  go_enter Tryz.func78,Tryz.ntmps78
  go_wp2_with (first|(go_at_call 53;refine (aD _ _ _ _).mono ?_;rintro e w1 ⟨rfl,rfl⟩;rw[hw]))
  refine bodyPost_ret (v:=.tuple #[.agg #[J 0,J 0,J 0,J 0],J 2]) (by simp[results,Tryz.results78,go_sem]) rfl ⟨⟨_,_,_,_,rfl,HO.out⟩,?_⟩
  exact aA (Below.refl _ _) _
 have hz:=aK hw
 have hway:=aAw hz
 obtain⟨h0,h1⟩:=hz
 obtain⟨eo,heo⟩:∃eo,iE (z/4096) (z/512%8) (z/64%8) (z%64)=eo:=⟨_,rfl⟩
 rw[heo] at hway
 have HW:Hid _:=hway
 have HE:Hid _:=heo
 clear hway heo
 go_enter Tryz.func78,Tryz.ntmps78
 go_wp2_with (first|(go_at_call 53;refine (aD _ _ _ _).mono ?_;rintro e w1 ⟨rfl,rfl⟩;rw[hw]))
 refine (rW _ _ _ _ _).mono ?_
 rintro e w1 ⟨rfl,b1⟩
 rw[HE.out]
 have X0:=(Box.newAt (n:=w.heap.size) (by simp) 130 #[J 0,J 0,J 0,J 0]).past (.cells #[J (z/4096),J (z/512%8),J (z/64%8),J (z%64)] 130) |>.keep b1
 have X1:=(Box.newAt (w:=w.alloc (.cells #[J 0,J 0,J 0,J 0] 130)) (n:=w.heap.size+1) (by simp) 130 #[J (z/4096),J (z/512%8),J (z/64%8),J (z%64)]).keep b1
 have B1:Hid (Below w.heap.size w w1):=aB (aA (aA (Below.refl _ _) _) _) b1
 clear b1
 obtain⟨u0,u1,u2,u3,g0,g1,g2,g3,s0⟩:=X0.four
 obtain⟨q0,q1,q2,q3,-,-,-,-,s1⟩:=X1.four
 clear X0 X1
 rcases HW.out with ⟨hr,ho,hk⟩|⟨hr,ho,hk⟩
 ·have HR:Hid _:=hr
  have HO:Hid _:=ho
  have hq:(eo !=0)=true:=by simpa using hk
  clear hr ho HW HE hk
  go_wp2
  refine bodyPost_ret (v:=.tuple #[.agg #[J 0,J 0,J 0,J 0],J 3]) (by simp[results,Tryz.results78,go_sem, *]) rfl ⟨⟨_,_,_,_,by rw[HR.out],HO.out⟩,?_⟩
  exact aZ (by omega) B1.out _ _ _ _
 ·have HR:Hid _:=hr
  have HO:Hid _:=ho
  clear hr ho HW HE
  subst hk
  go_wp2
  refine bodyPost_ret (v:=.tuple #[.agg #[J (z/4096),J (z/512%8),J (z/64%8),J (z%64)],J 0]) (by simp[results,Tryz.results78,go_sem, *]) rfl ⟨⟨_,_,_,_,by rw[HR.out],HO.out⟩,?_⟩
  exact aZ (by omega) B1.out _ _ _ _
theorem aAx {z k a b i e1:Int}{w:World}(hE:riE z=e1)(hO:riX z=(k,a,b,i)):
  Calls Tryz.prog 131 #[J z] w fun e w'=>e=.returned (.tuple #[.agg #[J k,J a,J b,J i],J e1])∧Below w.heap.size w w':=by
 refine (xI z w).mono ?_
 rintro e w' ⟨⟨k',a',b',i',rfl,h⟩,hb⟩
 rw[hO] at h
 simp only[Prod.mk.injEq] at h
 obtain⟨rfl,rfl,rfl,rfl⟩:=h
 rw[hE]
 exact⟨rfl,hb⟩
theorem fQ {z k a b i e1:Int}{w:World}(hE:riE z=e1)(hO:riX z=(k,a,b,i)):
  Calls Tryz.prog 78 #[J z] w fun e w'=>e=.returned (.tuple #[.agg #[J k,J a,J b,J i],J e1])∧Below w.heap.size w w':=by
 refine (xJ z w).mono ?_
 rintro e w' ⟨⟨k',a',b',i',rfl,h⟩,hb⟩
 rw[hO] at h
 simp only[Prod.mk.injEq] at h
 obtain⟨rfl,rfl,rfl,rfl⟩:=h
 rw[hE]
 exact⟨rfl,hb⟩
end Go.Proofs.YthlhocneggcekaaGreat
