/-
  The closed fact parted holds.
-/
import Derived.Test.YtemnklppplgcoabEntryMath
import Derived.Test.YtemnklppplgcoabBlks
namespace Go.Proofs.Ytemnklppplgcoab
open Go.RowKit

theorem at95 : vE 95 = true ∧ rE 95 = true ∧ xE 95 = true ∧ lE 95 = true ∧ pE 95 = 5 ∧ okE 95 = true := by decide
theorem at113 : vC 113 = true ∧ aC 113 = false ∧ pC 113 = 7 ∧ okC 113 = true := by decide
theorem at5 : okE 5 = false := by decide
theorem put95 : putW true true true true 5 = 95 ∧ putE true true true true 5 = 0 := by decide
theorem put113 : ptcW true false 7 = 113 ∧ ptcE true false 7 = 0 := by decide

end Go.Proofs.Ytemnklppplgcoab
