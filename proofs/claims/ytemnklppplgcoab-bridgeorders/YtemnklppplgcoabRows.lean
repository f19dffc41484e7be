/-
  No cell of these rows narrows 'for every input' (looked for: loops, veiled, ifaces, maps, wideKeys, modest, calm, conditions, laid).
  DERIVED. THE GIVEN ROWS OF THIS SEAT. 8 by the template 'for every input the law returns true; each argument reads behind the call as it read before'; 0 by the template 'total and deterministic' (their statements: YtemnklppplgcoabTotals.lean).
  GIVEN WITH THE SEED: the statements are not yours to turn. If you find one false, say at which input.
  Laid BY PROGRAM, IN A SANDBOX (cutbox-rows.mjs): the forced cells as the released guide's own fill.sh prints them over the translation 2d2a6dbe975a2085… (all of the seat's roots in one cut). By AI agents, Wed Nov 11 2026. No macro, syntax, notation, axiom, sorry.
-/
import Derived.Test.YtemnklppplgcoabChecked
import GoSem.Claim
import GoSem.ClaimJoined
import GoSem.ClaimMapViews
import Derived.JoinedTies
import Derived.KernelRfl
namespace Go.Proofs.Ytemnklppplgcoab
/- THE CELL 'sum', in the pinned program and in every row, IS THE sha256 OF THE DUMP (.gsa) THAT YtemnklppplgcoabProg.lean LOADS. Nothing in Lean hashes anything: it is a label: what it is worth is what the hold of that sum in a sandbox is worth. -/
noncomputable def Try.pinned : Pinned := { name := "ytemnklppplgcoab", sum := "2d2a6dbe975a2085d9c03a6f371b3a8ca31c0b01d00a952f927deab11519582b", checked := Try.checked }
namespace Rows
def none {H : Type} : Left H := { results := [], args := [] }

/-- 'drawbridgelaw.WordSays': WHATEVER THE INPUT: true; the input reads as it did. -/
def wordSaysSpec : ChangeSpec := { name := "wordSays", fn := fun _ => fun
  | [d1, d2, d3] => { results := [.lit (.bool true)], args := [d1, d2, d3] }
  | _ => none }
def wordSaysRow : OpenClaim := { program := "ytemnklppplgcoab", sum := "2d2a6dbe975a2085d9c03a6f371b3a8ca31c0b01d00a952f927deab11519582b", func := "drawbridge/drawbridgelaw.WordSays", spec := "wordSays", apart := false }
def WordSaysSaid : Prop := wordSaysRow.holds Try.pinned (OpenSpec.ofChange wordSaysSpec)

/-- ITS FALSE NEIGHBOUR: 'it returns false'. Refute it at one input. -/
def wordSaysWrong : ChangeSpec := { name := "wordSays", fn := fun _ => fun
  | [d1, d2, d3] => { results := [.lit (.bool false)], args := [d1, d2, d3] }
  | _ => none }
def WordSaysWrongFalsely : Prop := wordSaysRow.holds Try.pinned (OpenSpec.ofChange wordSaysWrong)

/-- 'drawbridgelaw.WordBack': WHATEVER THE INPUT: true; the input reads as it did. -/
def wordBackSpec : ChangeSpec := { name := "wordBack", fn := fun _ => fun
  | [d1, d2, d3, d4] => { results := [.lit (.bool true)], args := [d1, d2, d3, d4] }
  | _ => none }
def wordBackRow : OpenClaim := { program := "ytemnklppplgcoab", sum := "2d2a6dbe975a2085d9c03a6f371b3a8ca31c0b01d00a952f927deab11519582b", func := "drawbridge/drawbridgelaw.WordBack", spec := "wordBack", apart := false }
def WordBackSaid : Prop := wordBackRow.holds Try.pinned (OpenSpec.ofChange wordBackSpec)

/-- ITS FALSE NEIGHBOUR: 'it returns false'. Refute it at one input. -/
def wordBackWrong : ChangeSpec := { name := "wordBack", fn := fun _ => fun
  | [d1, d2, d3, d4] => { results := [.lit (.bool false)], args := [d1, d2, d3, d4] }
  | _ => none }
def WordBackWrongFalsely : Prop := wordBackRow.holds Try.pinned (OpenSpec.ofChange wordBackWrong)

/-- 'drawbridgelaw.BridgeSays': WHATEVER THE INPUT: true; the input reads as it did. -/
def bridgeSaysSpec : ChangeSpec := { name := "bridgeSays", fn := fun _ => fun
  | [d1, d2, d3, d4, d5, d6] => { results := [.lit (.bool true)], args := [d1, d2, d3, d4, d5, d6] }
  | _ => none }
def bridgeSaysRow : OpenClaim := { program := "ytemnklppplgcoab", sum := "2d2a6dbe975a2085d9c03a6f371b3a8ca31c0b01d00a952f927deab11519582b", func := "drawbridge/drawbridgelaw.BridgeSays", spec := "bridgeSays", unfollowed := true, recurses := true, apart := false }
def BridgeSaysSaid : Prop := bridgeSaysRow.holds Try.pinned (OpenSpec.ofChange bridgeSaysSpec)

/-- ITS FALSE NEIGHBOUR: 'it returns false'. Refute it at one input. -/
def bridgeSaysWrong : ChangeSpec := { name := "bridgeSays", fn := fun _ => fun
  | [d1, d2, d3, d4, d5, d6] => { results := [.lit (.bool false)], args := [d1, d2, d3, d4, d5, d6] }
  | _ => none }
def BridgeSaysWrongFalsely : Prop := bridgeSaysRow.holds Try.pinned (OpenSpec.ofChange bridgeSaysWrong)

/-- 'drawbridgelaw.BridgeTells': WHATEVER THE INPUT: true; the input reads as it did. -/
def bridgeTellsSpec : ChangeSpec := { name := "bridgeTells", fn := fun _ => fun
  | [d1, d2, d3] => { results := [.lit (.bool true)], args := [d1, d2, d3] }
  | _ => none }
def bridgeTellsRow : OpenClaim := { program := "ytemnklppplgcoab", sum := "2d2a6dbe975a2085d9c03a6f371b3a8ca31c0b01d00a952f927deab11519582b", func := "drawbridge/drawbridgelaw.BridgeTells", spec := "bridgeTells", unfollowed := true, recurses := true, apart := false }
def BridgeTellsSaid : Prop := bridgeTellsRow.holds Try.pinned (OpenSpec.ofChange bridgeTellsSpec)

/-- ITS FALSE NEIGHBOUR: 'it returns false'. Refute it at one input. -/
def bridgeTellsWrong : ChangeSpec := { name := "bridgeTells", fn := fun _ => fun
  | [d1, d2, d3] => { results := [.lit (.bool false)], args := [d1, d2, d3] }
  | _ => none }
def BridgeTellsWrongFalsely : Prop := bridgeTellsRow.holds Try.pinned (OpenSpec.ofChange bridgeTellsWrong)

/-- 'drawbridgelaw.BridgeRemembers': WHATEVER THE INPUT: true; the input reads as it did. -/
def bridgeRemembersSpec : ChangeSpec := { name := "bridgeRemembers", fn := fun _ => fun
  | [d1, d2, d3, d4, d5, d6] => { results := [.lit (.bool true)], args := [d1, d2, d3, d4, d5, d6] }
  | _ => none }
def bridgeRemembersRow : OpenClaim := { program := "ytemnklppplgcoab", sum := "2d2a6dbe975a2085d9c03a6f371b3a8ca31c0b01d00a952f927deab11519582b", func := "drawbridge/drawbridgelaw.BridgeRemembers", spec := "bridgeRemembers", unfollowed := true, recurses := true, apart := false }
def BridgeRemembersSaid : Prop := bridgeRemembersRow.holds Try.pinned (OpenSpec.ofChange bridgeRemembersSpec)

/-- ITS FALSE NEIGHBOUR: 'it returns false'. Refute it at one input. -/
def bridgeRemembersWrong : ChangeSpec := { name := "bridgeRemembers", fn := fun _ => fun
  | [d1, d2, d3, d4, d5, d6] => { results := [.lit (.bool false)], args := [d1, d2, d3, d4, d5, d6] }
  | _ => none }
def BridgeRemembersWrongFalsely : Prop := bridgeRemembersRow.holds Try.pinned (OpenSpec.ofChange bridgeRemembersWrong)

/-- 'drawbridgelaw.BridgeShut': WHATEVER THE INPUT: true; the input reads as it did. -/
def bridgeShutSpec : ChangeSpec := { name := "bridgeShut", fn := fun _ => fun
  | [d1, d2, d3, d4, d5] => { results := [.lit (.bool true)], args := [d1, d2, d3, d4, d5] }
  | _ => none }
def bridgeShutRow : OpenClaim := { program := "ytemnklppplgcoab", sum := "2d2a6dbe975a2085d9c03a6f371b3a8ca31c0b01d00a952f927deab11519582b", func := "drawbridge/drawbridgelaw.BridgeShut", spec := "bridgeShut", unfollowed := true, recurses := true, apart := false }
def BridgeShutSaid : Prop := bridgeShutRow.holds Try.pinned (OpenSpec.ofChange bridgeShutSpec)

/-- ITS FALSE NEIGHBOUR: 'it returns false'. Refute it at one input. -/
def bridgeShutWrong : ChangeSpec := { name := "bridgeShut", fn := fun _ => fun
  | [d1, d2, d3, d4, d5] => { results := [.lit (.bool false)], args := [d1, d2, d3, d4, d5] }
  | _ => none }
def BridgeShutWrongFalsely : Prop := bridgeShutRow.holds Try.pinned (OpenSpec.ofChange bridgeShutWrong)

/-- 'drawbridgelaw.BridgeFaults': WHATEVER THE INPUT: true; the input reads as it did. -/
def bridgeFaultsSpec : ChangeSpec := { name := "bridgeFaults", fn := fun _ => fun
  | [d1, d2, d3] => { results := [.lit (.bool true)], args := [d1, d2, d3] }
  | _ => none }
def bridgeFaultsRow : OpenClaim := { program := "ytemnklppplgcoab", sum := "2d2a6dbe975a2085d9c03a6f371b3a8ca31c0b01d00a952f927deab11519582b", func := "drawbridge/drawbridgelaw.BridgeFaults", spec := "bridgeFaults", unfollowed := true, recurses := true, apart := false }
def BridgeFaultsSaid : Prop := bridgeFaultsRow.holds Try.pinned (OpenSpec.ofChange bridgeFaultsSpec)

/-- ITS FALSE NEIGHBOUR: 'it returns false'. Refute it at one input. -/
def bridgeFaultsWrong : ChangeSpec := { name := "bridgeFaults", fn := fun _ => fun
  | [d1, d2, d3] => { results := [.lit (.bool false)], args := [d1, d2, d3] }
  | _ => none }
def BridgeFaultsWrongFalsely : Prop := bridgeFaultsRow.holds Try.pinned (OpenSpec.ofChange bridgeFaultsWrong)

/-- 'drawbridgelaw.BridgeOrders': WHATEVER THE INPUT: true; the input reads as it did. -/
def bridgeOrdersSpec : ChangeSpec := { name := "bridgeOrders", fn := fun _ => fun
  | [d1, d2] => { results := [.lit (.bool true)], args := [d1, d2] }
  | _ => none }
def bridgeOrdersRow : OpenClaim := { program := "ytemnklppplgcoab", sum := "2d2a6dbe975a2085d9c03a6f371b3a8ca31c0b01d00a952f927deab11519582b", func := "drawbridge/drawbridgelaw.BridgeOrders", spec := "bridgeOrders", unfollowed := true, recurses := true, apart := false }
def BridgeOrdersSaid : Prop := bridgeOrdersRow.holds Try.pinned (OpenSpec.ofChange bridgeOrdersSpec)

/-- ITS FALSE NEIGHBOUR: 'it returns false'. Refute it at one input. -/
def bridgeOrdersWrong : ChangeSpec := { name := "bridgeOrders", fn := fun _ => fun
  | [d1, d2] => { results := [.lit (.bool false)], args := [d1, d2] }
  | _ => none }
def BridgeOrdersWrongFalsely : Prop := bridgeOrdersRow.holds Try.pinned (OpenSpec.ofChange bridgeOrdersWrong)

/- THE SECOND FORM. 'bulk': how many values and letters a reading holds, each counted each time it is reached (what is shared counts as often as it is met; a slice's spare places count too). A statement '..UptoSaid' is the law's where the arguments, and the package variables that the reading takes, are together of bulk at most 1048576: NARROWER than '..Said'. Prove '..Said' where nothing that the law and all that it calls make is longer than what came in: it says more and counts as full. Else prove '..UptoSaid'. A law counts once. -/
mutual
def uptoBulk {H : Type} : DataW H → Nat
  | .lit (.string bytes) => bytes.length + 1
  | .lit _ => 1
  | .nil => 1
  | .ptr d => uptoBulk d + 1
  | .slice elems spare => uptoBulkAll elems + uptoBulkAll spare + 1
  | .agg parts => uptoBulkAll parts + 1
  | .iface _ d => uptoBulk d + 1
  | .map entries => uptoBulkEntries entries + 1
  | .held _ => 1
def uptoBulkAll {H : Type} : List (DataW H) → Nat
  | [] => 0
  | d :: r => uptoBulk d + uptoBulkAll r
def uptoBulkEntries {H : Type} : List (Lit × DataW H) → Nat
  | [] => 0
  | x :: r => uptoBulkEntry x + uptoBulkEntries r
def uptoBulkEntry {H : Type} : Lit × DataW H → Nat
  | (.string bytes, d) => bytes.length + uptoBulk d + 1
  | (_, d) => uptoBulk d + 1
 end
def uptoSmall : (H : Type) → List (DataW H) → Bool := fun _ ds => decide (uptoBulkAll ds ≤ 1048576)
def OpenSpec.upto (s : _root_.Go.ChangeSpec) : _root_.Go.OpenSpec := { _root_.Go.OpenSpec.ofChange s with cond := some uptoSmall }

/-- 'drawbridgelaw.WordSays', WHERE WHAT IT READS IS OF BULK AT MOST 1048576: true; the input reads as it did. -/
def wordSaysUptoRow : OpenClaim := { program := "ytemnklppplgcoab", sum := "2d2a6dbe975a2085d9c03a6f371b3a8ca31c0b01d00a952f927deab11519582b", func := "drawbridge/drawbridgelaw.WordSays", spec := "wordSays", apart := false, narrowed := true }
def WordSaysUptoSaid : Prop := wordSaysUptoRow.holds Try.pinned (OpenSpec.upto wordSaysSpec)

/-- 'drawbridgelaw.WordBack', WHERE WHAT IT READS IS OF BULK AT MOST 1048576: true; the input reads as it did. -/
def wordBackUptoRow : OpenClaim := { program := "ytemnklppplgcoab", sum := "2d2a6dbe975a2085d9c03a6f371b3a8ca31c0b01d00a952f927deab11519582b", func := "drawbridge/drawbridgelaw.WordBack", spec := "wordBack", apart := false, narrowed := true }
def WordBackUptoSaid : Prop := wordBackUptoRow.holds Try.pinned (OpenSpec.upto wordBackSpec)

/-- 'drawbridgelaw.BridgeSays', WHERE WHAT IT READS IS OF BULK AT MOST 1048576: true; the input reads as it did. -/
def bridgeSaysUptoRow : OpenClaim := { program := "ytemnklppplgcoab", sum := "2d2a6dbe975a2085d9c03a6f371b3a8ca31c0b01d00a952f927deab11519582b", func := "drawbridge/drawbridgelaw.BridgeSays", spec := "bridgeSays", unfollowed := true, recurses := true, apart := false, narrowed := true }
def BridgeSaysUptoSaid : Prop := bridgeSaysUptoRow.holds Try.pinned (OpenSpec.upto bridgeSaysSpec)

/-- 'drawbridgelaw.BridgeTells', WHERE WHAT IT READS IS OF BULK AT MOST 1048576: true; the input reads as it did. -/
def bridgeTellsUptoRow : OpenClaim := { program := "ytemnklppplgcoab", sum := "2d2a6dbe975a2085d9c03a6f371b3a8ca31c0b01d00a952f927deab11519582b", func := "drawbridge/drawbridgelaw.BridgeTells", spec := "bridgeTells", unfollowed := true, recurses := true, apart := false, narrowed := true }
def BridgeTellsUptoSaid : Prop := bridgeTellsUptoRow.holds Try.pinned (OpenSpec.upto bridgeTellsSpec)

/-- 'drawbridgelaw.BridgeRemembers', WHERE WHAT IT READS IS OF BULK AT MOST 1048576: true; the input reads as it did. -/
def bridgeRemembersUptoRow : OpenClaim := { program := "ytemnklppplgcoab", sum := "2d2a6dbe975a2085d9c03a6f371b3a8ca31c0b01d00a952f927deab11519582b", func := "drawbridge/drawbridgelaw.BridgeRemembers", spec := "bridgeRemembers", unfollowed := true, recurses := true, apart := false, narrowed := true }
def BridgeRemembersUptoSaid : Prop := bridgeRemembersUptoRow.holds Try.pinned (OpenSpec.upto bridgeRemembersSpec)

/-- 'drawbridgelaw.BridgeShut', WHERE WHAT IT READS IS OF BULK AT MOST 1048576: true; the input reads as it did. -/
def bridgeShutUptoRow : OpenClaim := { program := "ytemnklppplgcoab", sum := "2d2a6dbe975a2085d9c03a6f371b3a8ca31c0b01d00a952f927deab11519582b", func := "drawbridge/drawbridgelaw.BridgeShut", spec := "bridgeShut", unfollowed := true, recurses := true, apart := false, narrowed := true }
def BridgeShutUptoSaid : Prop := bridgeShutUptoRow.holds Try.pinned (OpenSpec.upto bridgeShutSpec)

/-- 'drawbridgelaw.BridgeFaults', WHERE WHAT IT READS IS OF BULK AT MOST 1048576: true; the input reads as it did. -/
def bridgeFaultsUptoRow : OpenClaim := { program := "ytemnklppplgcoab", sum := "2d2a6dbe975a2085d9c03a6f371b3a8ca31c0b01d00a952f927deab11519582b", func := "drawbridge/drawbridgelaw.BridgeFaults", spec := "bridgeFaults", unfollowed := true, recurses := true, apart := false, narrowed := true }
def BridgeFaultsUptoSaid : Prop := bridgeFaultsUptoRow.holds Try.pinned (OpenSpec.upto bridgeFaultsSpec)

/-- 'drawbridgelaw.BridgeOrders', WHERE WHAT IT READS IS OF BULK AT MOST 1048576: true; the input reads as it did. -/
def bridgeOrdersUptoRow : OpenClaim := { program := "ytemnklppplgcoab", sum := "2d2a6dbe975a2085d9c03a6f371b3a8ca31c0b01d00a952f927deab11519582b", func := "drawbridge/drawbridgelaw.BridgeOrders", spec := "bridgeOrders", unfollowed := true, recurses := true, apart := false, narrowed := true }
def BridgeOrdersUptoSaid : Prop := bridgeOrdersUptoRow.holds Try.pinned (OpenSpec.upto bridgeOrdersSpec)

end Rows
end Go.Proofs.Ytemnklppplgcoab
