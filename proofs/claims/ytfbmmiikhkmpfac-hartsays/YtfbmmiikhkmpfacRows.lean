/-
  No cell of these rows narrows 'for every input' (looked for: loops, veiled, ifaces, maps, wideKeys, modest, calm, conditions, laid).
  DERIVED. THE GIVEN ROWS OF THIS SEAT. 5 by the template 'for every input the law returns true; each argument reads behind the call as it read before'; 0 by the template 'total and deterministic' (their statements: YtfbmmiikhkmpfacTotals.lean).
  GIVEN WITH THE SEED: the statements are not yours to turn. If you find one false, say at which input.
  Laid BY PROGRAM, IN A SANDBOX (cutbox-rows.mjs): the forced cells as the released guide's own fill.sh prints them over the translation d4c860dd0921be8e… (all of the seat's roots in one cut). By AI agents, Wed Nov 11 2026. No macro, syntax, notation, axiom, sorry.
-/
import Derived.Test.YtfbmmiikhkmpfacChecked
import GoSem.Claim
import GoSem.ClaimJoined
import GoSem.ClaimMapViews
import Derived.JoinedTies
import Derived.KernelRfl
namespace Go.Proofs.Ytfbmmiikhkmpfac
/- THE CELL 'sum', in the pinned program and in every row, IS THE sha256 OF THE DUMP (.gsa) THAT YtfbmmiikhkmpfacProg.lean LOADS. Nothing in Lean hashes anything: it is a label: what it is worth is what the hold of that sum in a sandbox is worth. -/
noncomputable def Try.pinned : Pinned := { name := "ytfbmmiikhkmpfac", sum := "d4c860dd0921be8e0f673f0eca5f2efb099358cbd5609c4ffa5261c149c89b37", checked := Try.checked }
namespace Rows
def none {H : Type} : Left H := { results := [], args := [] }

/-- 'drawbridgelaw.CodeSays': WHATEVER THE INPUT: true; the input reads as it did. -/
def codeSaysSpec : ChangeSpec := { name := "codeSays", fn := fun _ => fun
  | [d1, d2] => { results := [.lit (.bool true)], args := [d1, d2] }
  | _ => none }
def codeSaysRow : OpenClaim := { program := "ytfbmmiikhkmpfac", sum := "d4c860dd0921be8e0f673f0eca5f2efb099358cbd5609c4ffa5261c149c89b37", func := "drawbridge/drawbridgelaw.CodeSays", spec := "codeSays", unfollowed := true, recurses := true, apart := false }
def CodeSaysSaid : Prop := codeSaysRow.holds Try.pinned (OpenSpec.ofChange codeSaysSpec)

/-- ITS FALSE NEIGHBOUR: 'it returns false'. Refute it at one input. -/
def codeSaysWrong : ChangeSpec := { name := "codeSays", fn := fun _ => fun
  | [d1, d2] => { results := [.lit (.bool false)], args := [d1, d2] }
  | _ => none }
def CodeSaysWrongFalsely : Prop := codeSaysRow.holds Try.pinned (OpenSpec.ofChange codeSaysWrong)

/-- 'drawbridgelaw.CodeBack': WHATEVER THE INPUT: true; the input reads as it did. -/
def codeBackSpec : ChangeSpec := { name := "codeBack", fn := fun _ => fun
  | [d1, d2] => { results := [.lit (.bool true)], args := [d1, d2] }
  | _ => none }
def codeBackRow : OpenClaim := { program := "ytfbmmiikhkmpfac", sum := "d4c860dd0921be8e0f673f0eca5f2efb099358cbd5609c4ffa5261c149c89b37", func := "drawbridge/drawbridgelaw.CodeBack", spec := "codeBack", apart := false }
def CodeBackSaid : Prop := codeBackRow.holds Try.pinned (OpenSpec.ofChange codeBackSpec)

/-- ITS FALSE NEIGHBOUR: 'it returns false'. Refute it at one input. -/
def codeBackWrong : ChangeSpec := { name := "codeBack", fn := fun _ => fun
  | [d1, d2] => { results := [.lit (.bool false)], args := [d1, d2] }
  | _ => none }
def CodeBackWrongFalsely : Prop := codeBackRow.holds Try.pinned (OpenSpec.ofChange codeBackWrong)

/-- 'drawbridgelaw.HartSays': WHATEVER THE INPUT: true; the input reads as it did. -/
def hartSaysSpec : ChangeSpec := { name := "hartSays", fn := fun _ => fun
  | [d1, d2, d3, d4, d5] => { results := [.lit (.bool true)], args := [d1, d2, d3, d4, d5] }
  | _ => none }
def hartSaysRow : OpenClaim := { program := "ytfbmmiikhkmpfac", sum := "d4c860dd0921be8e0f673f0eca5f2efb099358cbd5609c4ffa5261c149c89b37", func := "drawbridge/drawbridgelaw.HartSays", spec := "hartSays", unfollowed := true, recurses := true, apart := false }
def HartSaysSaid : Prop := hartSaysRow.holds Try.pinned (OpenSpec.ofChange hartSaysSpec)

/-- ITS FALSE NEIGHBOUR: 'it returns false'. Refute it at one input. -/
def hartSaysWrong : ChangeSpec := { name := "hartSays", fn := fun _ => fun
  | [d1, d2, d3, d4, d5] => { results := [.lit (.bool false)], args := [d1, d2, d3, d4, d5] }
  | _ => none }
def HartSaysWrongFalsely : Prop := hartSaysRow.holds Try.pinned (OpenSpec.ofChange hartSaysWrong)

/-- 'drawbridgelaw.HartKeeps': WHATEVER THE INPUT: true; the input reads as it did. -/
def hartKeepsSpec : ChangeSpec := { name := "hartKeeps", fn := fun _ => fun
  | [d1, d2, d3] => { results := [.lit (.bool true)], args := [d1, d2, d3] }
  | _ => none }
def hartKeepsRow : OpenClaim := { program := "ytfbmmiikhkmpfac", sum := "d4c860dd0921be8e0f673f0eca5f2efb099358cbd5609c4ffa5261c149c89b37", func := "drawbridge/drawbridgelaw.HartKeeps", spec := "hartKeeps", unfollowed := true, recurses := true, apart := false }
def HartKeepsSaid : Prop := hartKeepsRow.holds Try.pinned (OpenSpec.ofChange hartKeepsSpec)

/-- ITS FALSE NEIGHBOUR: 'it returns false'. Refute it at one input. -/
def hartKeepsWrong : ChangeSpec := { name := "hartKeeps", fn := fun _ => fun
  | [d1, d2, d3] => { results := [.lit (.bool false)], args := [d1, d2, d3] }
  | _ => none }
def HartKeepsWrongFalsely : Prop := hartKeepsRow.holds Try.pinned (OpenSpec.ofChange hartKeepsWrong)

/-- 'drawbridgelaw.HartStands': WHATEVER THE INPUT: true; the input reads as it did. -/
def hartStandsSpec : ChangeSpec := { name := "hartStands", fn := fun _ => fun
  | [d1, d2, d3] => { results := [.lit (.bool true)], args := [d1, d2, d3] }
  | _ => none }
def hartStandsRow : OpenClaim := { program := "ytfbmmiikhkmpfac", sum := "d4c860dd0921be8e0f673f0eca5f2efb099358cbd5609c4ffa5261c149c89b37", func := "drawbridge/drawbridgelaw.HartStands", spec := "hartStands", unfollowed := true, recurses := true, apart := false }
def HartStandsSaid : Prop := hartStandsRow.holds Try.pinned (OpenSpec.ofChange hartStandsSpec)

/-- ITS FALSE NEIGHBOUR: 'it returns false'. Refute it at one input. -/
def hartStandsWrong : ChangeSpec := { name := "hartStands", fn := fun _ => fun
  | [d1, d2, d3] => { results := [.lit (.bool false)], args := [d1, d2, d3] }
  | _ => none }
def HartStandsWrongFalsely : Prop := hartStandsRow.holds Try.pinned (OpenSpec.ofChange hartStandsWrong)

/- THE SECOND FORM. 'bulk': how many values and letters a reading holds, each counted each time it is reached (what is shared counts as often as it is met; a slice's spare places count too). A statement '..UptoSaid' is the law's where the arguments, and the package variables that the reading takes, are together of bulk at most 1048576: NARROWER than '..Said'. Prove '..Said' where nothing that the law and all that it calls make is longer than what came in: it says more and counts as full. Else prove '..UptoSaid'. A law counts once. -/
mutual
def uptoBulk {H : Type} : DataW H → Nat
  | .lit (.string bytes) => bytes.length + 1
  | .lit _ => 1
  | .nil => 1
  | .ptr d => uptoBulk d + 1
  | .slice elems spare => uptoBulkAll elems + uptoBulkAll spare + 1
  | .agg parts => uptoBulkAll parts + 1
  | .iface _ d => uptoBulk d + 1
  | .map entries => uptoBulkEntries entries + 1
  | .held _ => 1
def uptoBulkAll {H : Type} : List (DataW H) → Nat
  | [] => 0
  | d :: r => uptoBulk d + uptoBulkAll r
def uptoBulkEntries {H : Type} : List (Lit × DataW H) → Nat
  | [] => 0
  | x :: r => uptoBulkEntry x + uptoBulkEntries r
def uptoBulkEntry {H : Type} : Lit × DataW H → Nat
  | (.string bytes, d) => bytes.length + uptoBulk d + 1
  | (_, d) => uptoBulk d + 1
 end
def uptoSmall : (H : Type) → List (DataW H) → Bool := fun _ ds => decide (uptoBulkAll ds ≤ 1048576)
def OpenSpec.upto (s : _root_.Go.ChangeSpec) : _root_.Go.OpenSpec := { _root_.Go.OpenSpec.ofChange s with cond := some uptoSmall }

/-- 'drawbridgelaw.CodeSays', WHERE WHAT IT READS IS OF BULK AT MOST 1048576: true; the input reads as it did. -/
def codeSaysUptoRow : OpenClaim := { program := "ytfbmmiikhkmpfac", sum := "d4c860dd0921be8e0f673f0eca5f2efb099358cbd5609c4ffa5261c149c89b37", func := "drawbridge/drawbridgelaw.CodeSays", spec := "codeSays", unfollowed := true, recurses := true, apart := false, narrowed := true }
def CodeSaysUptoSaid : Prop := codeSaysUptoRow.holds Try.pinned (OpenSpec.upto codeSaysSpec)

/-- 'drawbridgelaw.CodeBack', WHERE WHAT IT READS IS OF BULK AT MOST 1048576: true; the input reads as it did. -/
def codeBackUptoRow : OpenClaim := { program := "ytfbmmiikhkmpfac", sum := "d4c860dd0921be8e0f673f0eca5f2efb099358cbd5609c4ffa5261c149c89b37", func := "drawbridge/drawbridgelaw.CodeBack", spec := "codeBack", apart := false, narrowed := true }
def CodeBackUptoSaid : Prop := codeBackUptoRow.holds Try.pinned (OpenSpec.upto codeBackSpec)

/-- 'drawbridgelaw.HartSays', WHERE WHAT IT READS IS OF BULK AT MOST 1048576: true; the input reads as it did. -/
def hartSaysUptoRow : OpenClaim := { program := "ytfbmmiikhkmpfac", sum := "d4c860dd0921be8e0f673f0eca5f2efb099358cbd5609c4ffa5261c149c89b37", func := "drawbridge/drawbridgelaw.HartSays", spec := "hartSays", unfollowed := true, recurses := true, apart := false, narrowed := true }
def HartSaysUptoSaid : Prop := hartSaysUptoRow.holds Try.pinned (OpenSpec.upto hartSaysSpec)

/-- 'drawbridgelaw.HartKeeps', WHERE WHAT IT READS IS OF BULK AT MOST 1048576: true; the input reads as it did. -/
def hartKeepsUptoRow : OpenClaim := { program := "ytfbmmiikhkmpfac", sum := "d4c860dd0921be8e0f673f0eca5f2efb099358cbd5609c4ffa5261c149c89b37", func := "drawbridge/drawbridgelaw.HartKeeps", spec := "hartKeeps", unfollowed := true, recurses := true, apart := false, narrowed := true }
def HartKeepsUptoSaid : Prop := hartKeepsUptoRow.holds Try.pinned (OpenSpec.upto hartKeepsSpec)

/-- 'drawbridgelaw.HartStands', WHERE WHAT IT READS IS OF BULK AT MOST 1048576: true; the input reads as it did. -/
def hartStandsUptoRow : OpenClaim := { program := "ytfbmmiikhkmpfac", sum := "d4c860dd0921be8e0f673f0eca5f2efb099358cbd5609c4ffa5261c149c89b37", func := "drawbridge/drawbridgelaw.HartStands", spec := "hartStands", unfollowed := true, recurses := true, apart := false, narrowed := true }
def HartStandsUptoSaid : Prop := hartStandsUptoRow.holds Try.pinned (OpenSpec.upto hartStandsSpec)

end Rows
end Go.Proofs.Ytfbmmiikhkmpfac
