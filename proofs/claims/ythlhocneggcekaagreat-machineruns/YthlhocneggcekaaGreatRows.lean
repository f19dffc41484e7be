/-
  No cell of these rows narrows 'for every input' (looked for: loops, veiled, ifaces, maps, wideKeys, modest, calm, conditions, laid).
  DERIVED. THE GIVEN ROWS OF THIS SEAT. 8 by the template 'for every input the law returns true; each argument reads behind the call as it read before'; 0 by the template 'total and deterministic' (their statements: YthlhocneggcekaaGreatTotals.lean).
  GIVEN WITH THE SEED: the statements are not yours to turn. If you find one false, say at which input.
  Laid BY PROGRAM, IN A SANDBOX (cutbox-rows.mjs): the forced cells as the released guide's own fill.sh prints them over the translation 70d60cb2f7d48210… (all of the seat's roots in one cut). By AI agents, Wed Nov 11 2026. No macro, syntax, notation, axiom, sorry.
-/
import Derived.Test.YthlhocneggcekaaGreatChecked
import GoSem.Claim
import GoSem.ClaimJoined
import GoSem.ClaimMapViews
import Derived.JoinedTies
import Derived.KernelRfl
namespace Go.Proofs.YthlhocneggcekaaGreat
/- THE CELL 'sum', in the pinned program and in every row, IS THE sha256 OF THE DUMP (.gsa) THAT YthlhocneggcekaaGreatProg.lean LOADS. Nothing in Lean hashes anything: it is a label: what it is worth is what the hold of that sum in a sandbox is worth. -/
noncomputable def Tryz.pinned : Pinned := { name := "ythlhocneggcekaagreat", sum := "70d60cb2f7d482107285479725042920a3754d997cb8b93c58e357aafc94f196", checked := Tryz.checked }
namespace Rows
def none {H : Type} : Left H := { results := [], args := [] }

/-- 'drawbridgelaw.MachineSays': WHATEVER THE INPUT: true; the input reads as it did. -/
def machineSaysSpec : ChangeSpec := { name := "machineSays", fn := fun _ => fun
  | [d1, d2, d3] => { results := [.lit (.bool true)], args := [d1, d2, d3] }
  | _ => none }
def machineSaysRow : OpenClaim := { program := "ythlhocneggcekaagreat", sum := "70d60cb2f7d482107285479725042920a3754d997cb8b93c58e357aafc94f196", func := "drawbridge/drawbridgelaw.MachineSays", spec := "machineSays", unfollowed := true, recurses := true, plainKeys := false, apart := false }
def MachineSaysSaid : Prop := machineSaysRow.holds Tryz.pinned (OpenSpec.ofChange machineSaysSpec)

/-- ITS FALSE NEIGHBOUR: 'it returns false'. Refute it at one input. -/
def machineSaysWrong : ChangeSpec := { name := "machineSays", fn := fun _ => fun
  | [d1, d2, d3] => { results := [.lit (.bool false)], args := [d1, d2, d3] }
  | _ => none }
def MachineSaysWrongFalsely : Prop := machineSaysRow.holds Tryz.pinned (OpenSpec.ofChange machineSaysWrong)

/-- 'drawbridgelaw.MachineHeld': WHATEVER THE INPUT: true; the input reads as it did. -/
def machineHeldSpec : ChangeSpec := { name := "machineHeld", fn := fun _ => fun
  | [d1, d2] => { results := [.lit (.bool true)], args := [d1, d2] }
  | _ => none }
def machineHeldRow : OpenClaim := { program := "ythlhocneggcekaagreat", sum := "70d60cb2f7d482107285479725042920a3754d997cb8b93c58e357aafc94f196", func := "drawbridge/drawbridgelaw.MachineHeld", spec := "machineHeld", unfollowed := true, recurses := true, plainKeys := false, apart := false }
def MachineHeldSaid : Prop := machineHeldRow.holds Tryz.pinned (OpenSpec.ofChange machineHeldSpec)

/-- ITS FALSE NEIGHBOUR: 'it returns false'. Refute it at one input. -/
def machineHeldWrong : ChangeSpec := { name := "machineHeld", fn := fun _ => fun
  | [d1, d2] => { results := [.lit (.bool false)], args := [d1, d2] }
  | _ => none }
def MachineHeldWrongFalsely : Prop := machineHeldRow.holds Tryz.pinned (OpenSpec.ofChange machineHeldWrong)

/-- 'drawbridgelaw.MachineRuns': WHATEVER THE INPUT: true; the input reads as it did. -/
def machineRunsSpec : ChangeSpec := { name := "machineRuns", fn := fun _ => fun
  | [d1, d2] => { results := [.lit (.bool true)], args := [d1, d2] }
  | _ => none }
def machineRunsRow : OpenClaim := { program := "ythlhocneggcekaagreat", sum := "70d60cb2f7d482107285479725042920a3754d997cb8b93c58e357aafc94f196", func := "drawbridge/drawbridgelaw.MachineRuns", spec := "machineRuns", unfollowed := true, recurses := true, plainKeys := false, apart := false }
def MachineRunsSaid : Prop := machineRunsRow.holds Tryz.pinned (OpenSpec.ofChange machineRunsSpec)

/-- ITS FALSE NEIGHBOUR: 'it returns false'. Refute it at one input. -/
def machineRunsWrong : ChangeSpec := { name := "machineRuns", fn := fun _ => fun
  | [d1, d2] => { results := [.lit (.bool false)], args := [d1, d2] }
  | _ => none }
def MachineRunsWrongFalsely : Prop := machineRunsRow.holds Tryz.pinned (OpenSpec.ofChange machineRunsWrong)

/-- 'drawbridgelaw.MachineParts': WHATEVER THE INPUT: true; the input reads as it did. -/
def machinePartsSpec : ChangeSpec := { name := "machineParts", fn := fun _ => fun
  | [d1, d2, d3] => { results := [.lit (.bool true)], args := [d1, d2, d3] }
  | _ => none }
def machinePartsRow : OpenClaim := { program := "ythlhocneggcekaagreat", sum := "70d60cb2f7d482107285479725042920a3754d997cb8b93c58e357aafc94f196", func := "drawbridge/drawbridgelaw.MachineParts", spec := "machineParts", unfollowed := true, recurses := true, plainKeys := false, apart := false }
def MachinePartsSaid : Prop := machinePartsRow.holds Tryz.pinned (OpenSpec.ofChange machinePartsSpec)

/-- ITS FALSE NEIGHBOUR: 'it returns false'. Refute it at one input. -/
def machinePartsWrong : ChangeSpec := { name := "machineParts", fn := fun _ => fun
  | [d1, d2, d3] => { results := [.lit (.bool false)], args := [d1, d2, d3] }
  | _ => none }
def MachinePartsWrongFalsely : Prop := machinePartsRow.holds Tryz.pinned (OpenSpec.ofChange machinePartsWrong)

/-- 'drawbridgelaw.MachinePlain': WHATEVER THE INPUT: true; the input reads as it did. -/
def machinePlainSpec : ChangeSpec := { name := "machinePlain", fn := fun _ => fun
  | [d1, d2] => { results := [.lit (.bool true)], args := [d1, d2] }
  | _ => none }
def machinePlainRow : OpenClaim := { program := "ythlhocneggcekaagreat", sum := "70d60cb2f7d482107285479725042920a3754d997cb8b93c58e357aafc94f196", func := "drawbridge/drawbridgelaw.MachinePlain", spec := "machinePlain", unfollowed := true, recurses := true, plainKeys := false, apart := false }
def MachinePlainSaid : Prop := machinePlainRow.holds Tryz.pinned (OpenSpec.ofChange machinePlainSpec)

/-- ITS FALSE NEIGHBOUR: 'it returns false'. Refute it at one input. -/
def machinePlainWrong : ChangeSpec := { name := "machinePlain", fn := fun _ => fun
  | [d1, d2] => { results := [.lit (.bool false)], args := [d1, d2] }
  | _ => none }
def MachinePlainWrongFalsely : Prop := machinePlainRow.holds Tryz.pinned (OpenSpec.ofChange machinePlainWrong)

/-- 'drawbridgelaw.MachineTold': WHATEVER THE INPUT: true; the input reads as it did. -/
def machineToldSpec : ChangeSpec := { name := "machineTold", fn := fun _ => fun
  | [d1, d2] => { results := [.lit (.bool true)], args := [d1, d2] }
  | _ => none }
def machineToldRow : OpenClaim := { program := "ythlhocneggcekaagreat", sum := "70d60cb2f7d482107285479725042920a3754d997cb8b93c58e357aafc94f196", func := "drawbridge/drawbridgelaw.MachineTold", spec := "machineTold", unfollowed := true, recurses := true, plainKeys := false, apart := false }
def MachineToldSaid : Prop := machineToldRow.holds Tryz.pinned (OpenSpec.ofChange machineToldSpec)

/-- ITS FALSE NEIGHBOUR: 'it returns false'. Refute it at one input. -/
def machineToldWrong : ChangeSpec := { name := "machineTold", fn := fun _ => fun
  | [d1, d2] => { results := [.lit (.bool false)], args := [d1, d2] }
  | _ => none }
def MachineToldWrongFalsely : Prop := machineToldRow.holds Tryz.pinned (OpenSpec.ofChange machineToldWrong)

/-- 'drawbridgelaw.AuditOwn': WHATEVER THE INPUT: true; the input reads as it did. -/
def auditOwnSpec : ChangeSpec := { name := "auditOwn", fn := fun _ => fun
  | [d1, d2] => { results := [.lit (.bool true)], args := [d1, d2] }
  | _ => none }
def auditOwnRow : OpenClaim := { program := "ythlhocneggcekaagreat", sum := "70d60cb2f7d482107285479725042920a3754d997cb8b93c58e357aafc94f196", func := "drawbridge/drawbridgelaw.AuditOwn", spec := "auditOwn", unfollowed := true, recurses := true, plainKeys := false, apart := false }
def AuditOwnSaid : Prop := auditOwnRow.holds Tryz.pinned (OpenSpec.ofChange auditOwnSpec)

/-- ITS FALSE NEIGHBOUR: 'it returns false'. Refute it at one input. -/
def auditOwnWrong : ChangeSpec := { name := "auditOwn", fn := fun _ => fun
  | [d1, d2] => { results := [.lit (.bool false)], args := [d1, d2] }
  | _ => none }
def AuditOwnWrongFalsely : Prop := auditOwnRow.holds Tryz.pinned (OpenSpec.ofChange auditOwnWrong)

/-- 'drawbridgelaw.MachineFair': WHATEVER THE INPUT: true; the input reads as it did. -/
def machineFairSpec : ChangeSpec := { name := "machineFair", fn := fun _ => fun
  | [d1, d2] => { results := [.lit (.bool true)], args := [d1, d2] }
  | _ => none }
def machineFairRow : OpenClaim := { program := "ythlhocneggcekaagreat", sum := "70d60cb2f7d482107285479725042920a3754d997cb8b93c58e357aafc94f196", func := "drawbridge/drawbridgelaw.MachineFair", spec := "machineFair", unfollowed := true, recurses := true, plainKeys := false, apart := false }
def MachineFairSaid : Prop := machineFairRow.holds Tryz.pinned (OpenSpec.ofChange machineFairSpec)

/-- ITS FALSE NEIGHBOUR: 'it returns false'. Refute it at one input. -/
def machineFairWrong : ChangeSpec := { name := "machineFair", fn := fun _ => fun
  | [d1, d2] => { results := [.lit (.bool false)], args := [d1, d2] }
  | _ => none }
def MachineFairWrongFalsely : Prop := machineFairRow.holds Tryz.pinned (OpenSpec.ofChange machineFairWrong)

/- THE SECOND FORM. 'bulk': how many values and letters a reading holds, each counted each time it is reached (what is shared counts as often as it is met; a slice's spare places count too). A statement '..UptoSaid' is the law's where the arguments, and the package variables that the reading takes, are together of bulk at most 1048576: NARROWER than '..Said'. Prove '..Said' where nothing that the law and all that it calls make is longer than what came in: it says more and counts as full. Else prove '..UptoSaid'. A law counts once. -/
mutual
def uptoBulk {H : Type} : DataW H → Nat
  | .lit (.string bytes) => bytes.length + 1
  | .lit _ => 1
  | .nil => 1
  | .ptr d => uptoBulk d + 1
  | .slice elems spare => uptoBulkAll elems + uptoBulkAll spare + 1
  | .agg parts => uptoBulkAll parts + 1
  | .iface _ d => uptoBulk d + 1
  | .map entries => uptoBulkEntries entries + 1
  | .held _ => 1
def uptoBulkAll {H : Type} : List (DataW H) → Nat
  | [] => 0
  | d :: r => uptoBulk d + uptoBulkAll r
def uptoBulkEntries {H : Type} : List (Lit × DataW H) → Nat
  | [] => 0
  | x :: r => uptoBulkEntry x + uptoBulkEntries r
def uptoBulkEntry {H : Type} : Lit × DataW H → Nat
  | (.string bytes, d) => bytes.length + uptoBulk d + 1
  | (_, d) => uptoBulk d + 1
 end
def uptoSmall : (H : Type) → List (DataW H) → Bool := fun _ ds => decide (uptoBulkAll ds ≤ 1048576)
def OpenSpec.upto (s : _root_.Go.ChangeSpec) : _root_.Go.OpenSpec := { _root_.Go.OpenSpec.ofChange s with cond := some uptoSmall }

/-- 'drawbridgelaw.MachineSays', WHERE WHAT IT READS IS OF BULK AT MOST 1048576: true; the input reads as it did. -/
def machineSaysUptoRow : OpenClaim := { program := "ythlhocneggcekaagreat", sum := "70d60cb2f7d482107285479725042920a3754d997cb8b93c58e357aafc94f196", func := "drawbridge/drawbridgelaw.MachineSays", spec := "machineSays", unfollowed := true, recurses := true, plainKeys := false, apart := false, narrowed := true }
def MachineSaysUptoSaid : Prop := machineSaysUptoRow.holds Tryz.pinned (OpenSpec.upto machineSaysSpec)

/-- 'drawbridgelaw.MachineHeld', WHERE WHAT IT READS IS OF BULK AT MOST 1048576: true; the input reads as it did. -/
def machineHeldUptoRow : OpenClaim := { program := "ythlhocneggcekaagreat", sum := "70d60cb2f7d482107285479725042920a3754d997cb8b93c58e357aafc94f196", func := "drawbridge/drawbridgelaw.MachineHeld", spec := "machineHeld", unfollowed := true, recurses := true, plainKeys := false, apart := false, narrowed := true }
def MachineHeldUptoSaid : Prop := machineHeldUptoRow.holds Tryz.pinned (OpenSpec.upto machineHeldSpec)

/-- 'drawbridgelaw.MachineRuns', WHERE WHAT IT READS IS OF BULK AT MOST 1048576: true; the input reads as it did. -/
def machineRunsUptoRow : OpenClaim := { program := "ythlhocneggcekaagreat", sum := "70d60cb2f7d482107285479725042920a3754d997cb8b93c58e357aafc94f196", func := "drawbridge/drawbridgelaw.MachineRuns", spec := "machineRuns", unfollowed := true, recurses := true, plainKeys := false, apart := false, narrowed := true }
def MachineRunsUptoSaid : Prop := machineRunsUptoRow.holds Tryz.pinned (OpenSpec.upto machineRunsSpec)

/-- 'drawbridgelaw.MachineParts', WHERE WHAT IT READS IS OF BULK AT MOST 1048576: true; the input reads as it did. -/
def machinePartsUptoRow : OpenClaim := { program := "ythlhocneggcekaagreat", sum := "70d60cb2f7d482107285479725042920a3754d997cb8b93c58e357aafc94f196", func := "drawbridge/drawbridgelaw.MachineParts", spec := "machineParts", unfollowed := true, recurses := true, plainKeys := false, apart := false, narrowed := true }
def MachinePartsUptoSaid : Prop := machinePartsUptoRow.holds Tryz.pinned (OpenSpec.upto machinePartsSpec)

/-- 'drawbridgelaw.MachinePlain', WHERE WHAT IT READS IS OF BULK AT MOST 1048576: true; the input reads as it did. -/
def machinePlainUptoRow : OpenClaim := { program := "ythlhocneggcekaagreat", sum := "70d60cb2f7d482107285479725042920a3754d997cb8b93c58e357aafc94f196", func := "drawbridge/drawbridgelaw.MachinePlain", spec := "machinePlain", unfollowed := true, recurses := true, plainKeys := false, apart := false, narrowed := true }
def MachinePlainUptoSaid : Prop := machinePlainUptoRow.holds Tryz.pinned (OpenSpec.upto machinePlainSpec)

/-- 'drawbridgelaw.MachineTold', WHERE WHAT IT READS IS OF BULK AT MOST 1048576: true; the input reads as it did. -/
def machineToldUptoRow : OpenClaim := { program := "ythlhocneggcekaagreat", sum := "70d60cb2f7d482107285479725042920a3754d997cb8b93c58e357aafc94f196", func := "drawbridge/drawbridgelaw.MachineTold", spec := "machineTold", unfollowed := true, recurses := true, plainKeys := false, apart := false, narrowed := true }
def MachineToldUptoSaid : Prop := machineToldUptoRow.holds Tryz.pinned (OpenSpec.upto machineToldSpec)

/-- 'drawbridgelaw.AuditOwn', WHERE WHAT IT READS IS OF BULK AT MOST 1048576: true; the input reads as it did. -/
def auditOwnUptoRow : OpenClaim := { program := "ythlhocneggcekaagreat", sum := "70d60cb2f7d482107285479725042920a3754d997cb8b93c58e357aafc94f196", func := "drawbridge/drawbridgelaw.AuditOwn", spec := "auditOwn", unfollowed := true, recurses := true, plainKeys := false, apart := false, narrowed := true }
def AuditOwnUptoSaid : Prop := auditOwnUptoRow.holds Tryz.pinned (OpenSpec.upto auditOwnSpec)

/-- 'drawbridgelaw.MachineFair', WHERE WHAT IT READS IS OF BULK AT MOST 1048576: true; the input reads as it did. -/
def machineFairUptoRow : OpenClaim := { program := "ythlhocneggcekaagreat", sum := "70d60cb2f7d482107285479725042920a3754d997cb8b93c58e357aafc94f196", func := "drawbridge/drawbridgelaw.MachineFair", spec := "machineFair", unfollowed := true, recurses := true, plainKeys := false, apart := false, narrowed := true }
def MachineFairUptoSaid : Prop := machineFairUptoRow.holds Tryz.pinned (OpenSpec.upto machineFairSpec)

end Rows
end Go.Proofs.YthlhocneggcekaaGreat
