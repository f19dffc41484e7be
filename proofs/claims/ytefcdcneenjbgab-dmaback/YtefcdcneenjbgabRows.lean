/-
  No cell of these rows narrows 'for every input' (looked for: loops, veiled, ifaces, maps, wideKeys, modest, calm, conditions, laid).
  DERIVED. THE GIVEN ROWS OF THIS SEAT. 12 by the template 'for every input the law returns true; each argument reads behind the call as it read before'; 0 by the template 'total and deterministic' (their statements: YtefcdcneenjbgabTotals.lean).
  GIVEN WITH THE SEED: the statements are not yours to turn. If you find one false, say at which input.
  Laid BY PROGRAM, IN A SANDBOX (cutbox-rows.mjs): the forced cells as the released guide's own fill.sh prints them over the translation a194a22a4a131124… (all of the seat's roots in one cut). By AI agents, Wed Nov 11 2026. No macro, syntax, notation, axiom, sorry.
-/
import Derived.Test.YtefcdcneenjbgabChecked
import GoSem.Claim
import GoSem.ClaimJoined
import GoSem.ClaimMapViews
import Derived.JoinedTies
import Derived.KernelRfl
namespace Go.Proofs.Ytefcdcneenjbgab
/- THE CELL 'sum', in the pinned program and in every row, IS THE sha256 OF THE DUMP (.gsa) THAT YtefcdcneenjbgabProg.lean LOADS. Nothing in Lean hashes anything: it is a label: what it is worth is what the hold of that sum in a sandbox is worth. -/
noncomputable def Try.pinned : Pinned := { name := "ytefcdcneenjbgab", sum := "a194a22a4a131124d59e80b0a4c2fa2ec6c830f96935b11ea21be63e03369980", checked := Try.checked }
namespace Rows
def none {H : Type} : Left H := { results := [], args := [] }

/-- 'drawbridgelaw.WordSays': WHATEVER THE INPUT: true; the input reads as it did. -/
def wordSaysSpec : ChangeSpec := { name := "wordSays", fn := fun _ => fun
  | [d1, d2, d3] => { results := [.lit (.bool true)], args := [d1, d2, d3] }
  | _ => none }
def wordSaysRow : OpenClaim := { program := "ytefcdcneenjbgab", sum := "a194a22a4a131124d59e80b0a4c2fa2ec6c830f96935b11ea21be63e03369980", func := "drawbridge/drawbridgelaw.WordSays", spec := "wordSays", apart := false }
def WordSaysSaid : Prop := wordSaysRow.holds Try.pinned (OpenSpec.ofChange wordSaysSpec)

/-- ITS FALSE NEIGHBOUR: 'it returns false'. Refute it at one input. -/
def wordSaysWrong : ChangeSpec := { name := "wordSays", fn := fun _ => fun
  | [d1, d2, d3] => { results := [.lit (.bool false)], args := [d1, d2, d3] }
  | _ => none }
def WordSaysWrongFalsely : Prop := wordSaysRow.holds Try.pinned (OpenSpec.ofChange wordSaysWrong)

/-- 'drawbridgelaw.WordBack': WHATEVER THE INPUT: true; the input reads as it did. -/
def wordBackSpec : ChangeSpec := { name := "wordBack", fn := fun _ => fun
  | [d1, d2, d3, d4] => { results := [.lit (.bool true)], args := [d1, d2, d3, d4] }
  | _ => none }
def wordBackRow : OpenClaim := { program := "ytefcdcneenjbgab", sum := "a194a22a4a131124d59e80b0a4c2fa2ec6c830f96935b11ea21be63e03369980", func := "drawbridge/drawbridgelaw.WordBack", spec := "wordBack", apart := false }
def WordBackSaid : Prop := wordBackRow.holds Try.pinned (OpenSpec.ofChange wordBackSpec)

/-- ITS FALSE NEIGHBOUR: 'it returns false'. Refute it at one input. -/
def wordBackWrong : ChangeSpec := { name := "wordBack", fn := fun _ => fun
  | [d1, d2, d3, d4] => { results := [.lit (.bool false)], args := [d1, d2, d3, d4] }
  | _ => none }
def WordBackWrongFalsely : Prop := wordBackRow.holds Try.pinned (OpenSpec.ofChange wordBackWrong)

/-- 'drawbridgelaw.BridgeSays': WHATEVER THE INPUT: true; the input reads as it did. -/
def bridgeSaysSpec : ChangeSpec := { name := "bridgeSays", fn := fun _ => fun
  | [d1, d2, d3, d4, d5, d6] => { results := [.lit (.bool true)], args := [d1, d2, d3, d4, d5, d6] }
  | _ => none }
def bridgeSaysRow : OpenClaim := { program := "ytefcdcneenjbgab", sum := "a194a22a4a131124d59e80b0a4c2fa2ec6c830f96935b11ea21be63e03369980", func := "drawbridge/drawbridgelaw.BridgeSays", spec := "bridgeSays", unfollowed := true, recurses := true, apart := false }
def BridgeSaysSaid : Prop := bridgeSaysRow.holds Try.pinned (OpenSpec.ofChange bridgeSaysSpec)

/-- ITS FALSE NEIGHBOUR: 'it returns false'. Refute it at one input. -/
def bridgeSaysWrong : ChangeSpec := { name := "bridgeSays", fn := fun _ => fun
  | [d1, d2, d3, d4, d5, d6] => { results := [.lit (.bool false)], args := [d1, d2, d3, d4, d5, d6] }
  | _ => none }
def BridgeSaysWrongFalsely : Prop := bridgeSaysRow.holds Try.pinned (OpenSpec.ofChange bridgeSaysWrong)

/-- 'drawbridgelaw.BridgeTells': WHATEVER THE INPUT: true; the input reads as it did. -/
def bridgeTellsSpec : ChangeSpec := { name := "bridgeTells", fn := fun _ => fun
  | [d1, d2, d3] => { results := [.lit (.bool true)], args := [d1, d2, d3] }
  | _ => none }
def bridgeTellsRow : OpenClaim := { program := "ytefcdcneenjbgab", sum := "a194a22a4a131124d59e80b0a4c2fa2ec6c830f96935b11ea21be63e03369980", func := "drawbridge/drawbridgelaw.BridgeTells", spec := "bridgeTells", unfollowed := true, recurses := true, apart := false }
def BridgeTellsSaid : Prop := bridgeTellsRow.holds Try.pinned (OpenSpec.ofChange bridgeTellsSpec)

/-- ITS FALSE NEIGHBOUR: 'it returns false'. Refute it at one input. -/
def bridgeTellsWrong : ChangeSpec := { name := "bridgeTells", fn := fun _ => fun
  | [d1, d2, d3] => { results := [.lit (.bool false)], args := [d1, d2, d3] }
  | _ => none }
def BridgeTellsWrongFalsely : Prop := bridgeTellsRow.holds Try.pinned (OpenSpec.ofChange bridgeTellsWrong)

/-- 'drawbridgelaw.BridgeRemembers': WHATEVER THE INPUT: true; the input reads as it did. -/
def bridgeRemembersSpec : ChangeSpec := { name := "bridgeRemembers", fn := fun _ => fun
  | [d1, d2, d3, d4, d5, d6] => { results := [.lit (.bool true)], args := [d1, d2, d3, d4, d5, d6] }
  | _ => none }
def bridgeRemembersRow : OpenClaim := { program := "ytefcdcneenjbgab", sum := "a194a22a4a131124d59e80b0a4c2fa2ec6c830f96935b11ea21be63e03369980", func := "drawbridge/drawbridgelaw.BridgeRemembers", spec := "bridgeRemembers", unfollowed := true, recurses := true, apart := false }
def BridgeRemembersSaid : Prop := bridgeRemembersRow.holds Try.pinned (OpenSpec.ofChange bridgeRemembersSpec)

/-- ITS FALSE NEIGHBOUR: 'it returns false'. Refute it at one input. -/
def bridgeRemembersWrong : ChangeSpec := { name := "bridgeRemembers", fn := fun _ => fun
  | [d1, d2, d3, d4, d5, d6] => { results := [.lit (.bool false)], args := [d1, d2, d3, d4, d5, d6] }
  | _ => none }
def BridgeRemembersWrongFalsely : Prop := bridgeRemembersRow.holds Try.pinned (OpenSpec.ofChange bridgeRemembersWrong)

/-- 'drawbridgelaw.BridgeShut': WHATEVER THE INPUT: true; the input reads as it did. -/
def bridgeShutSpec : ChangeSpec := { name := "bridgeShut", fn := fun _ => fun
  | [d1, d2, d3, d4, d5] => { results := [.lit (.bool true)], args := [d1, d2, d3, d4, d5] }
  | _ => none }
def bridgeShutRow : OpenClaim := { program := "ytefcdcneenjbgab", sum := "a194a22a4a131124d59e80b0a4c2fa2ec6c830f96935b11ea21be63e03369980", func := "drawbridge/drawbridgelaw.BridgeShut", spec := "bridgeShut", unfollowed := true, recurses := true, apart := false }
def BridgeShutSaid : Prop := bridgeShutRow.holds Try.pinned (OpenSpec.ofChange bridgeShutSpec)

/-- ITS FALSE NEIGHBOUR: 'it returns false'. Refute it at one input. -/
def bridgeShutWrong : ChangeSpec := { name := "bridgeShut", fn := fun _ => fun
  | [d1, d2, d3, d4, d5] => { results := [.lit (.bool false)], args := [d1, d2, d3, d4, d5] }
  | _ => none }
def BridgeShutWrongFalsely : Prop := bridgeShutRow.holds Try.pinned (OpenSpec.ofChange bridgeShutWrong)

/-- 'drawbridgelaw.BridgeFaults': WHATEVER THE INPUT: true; the input reads as it did. -/
def bridgeFaultsSpec : ChangeSpec := { name := "bridgeFaults", fn := fun _ => fun
  | [d1, d2, d3] => { results := [.lit (.bool true)], args := [d1, d2, d3] }
  | _ => none }
def bridgeFaultsRow : OpenClaim := { program := "ytefcdcneenjbgab", sum := "a194a22a4a131124d59e80b0a4c2fa2ec6c830f96935b11ea21be63e03369980", func := "drawbridge/drawbridgelaw.BridgeFaults", spec := "bridgeFaults", unfollowed := true, recurses := true, apart := false }
def BridgeFaultsSaid : Prop := bridgeFaultsRow.holds Try.pinned (OpenSpec.ofChange bridgeFaultsSpec)

/-- ITS FALSE NEIGHBOUR: 'it returns false'. Refute it at one input. -/
def bridgeFaultsWrong : ChangeSpec := { name := "bridgeFaults", fn := fun _ => fun
  | [d1, d2, d3] => { results := [.lit (.bool false)], args := [d1, d2, d3] }
  | _ => none }
def BridgeFaultsWrongFalsely : Prop := bridgeFaultsRow.holds Try.pinned (OpenSpec.ofChange bridgeFaultsWrong)

/-- 'drawbridgelaw.BridgeOrders': WHATEVER THE INPUT: true; the input reads as it did. -/
def bridgeOrdersSpec : ChangeSpec := { name := "bridgeOrders", fn := fun _ => fun
  | [d1, d2] => { results := [.lit (.bool true)], args := [d1, d2] }
  | _ => none }
def bridgeOrdersRow : OpenClaim := { program := "ytefcdcneenjbgab", sum := "a194a22a4a131124d59e80b0a4c2fa2ec6c830f96935b11ea21be63e03369980", func := "drawbridge/drawbridgelaw.BridgeOrders", spec := "bridgeOrders", unfollowed := true, recurses := true, apart := false }
def BridgeOrdersSaid : Prop := bridgeOrdersRow.holds Try.pinned (OpenSpec.ofChange bridgeOrdersSpec)

/-- ITS FALSE NEIGHBOUR: 'it returns false'. Refute it at one input. -/
def bridgeOrdersWrong : ChangeSpec := { name := "bridgeOrders", fn := fun _ => fun
  | [d1, d2] => { results := [.lit (.bool false)], args := [d1, d2] }
  | _ => none }
def BridgeOrdersWrongFalsely : Prop := bridgeOrdersRow.holds Try.pinned (OpenSpec.ofChange bridgeOrdersWrong)

/-- 'drawbridgelaw.DmaSays': WHATEVER THE INPUT: true; the input reads as it did. -/
def dmaSaysSpec : ChangeSpec := { name := "dmaSays", fn := fun _ => fun
  | [d1, d2, d3] => { results := [.lit (.bool true)], args := [d1, d2, d3] }
  | _ => none }
def dmaSaysRow : OpenClaim := { program := "ytefcdcneenjbgab", sum := "a194a22a4a131124d59e80b0a4c2fa2ec6c830f96935b11ea21be63e03369980", func := "drawbridge/drawbridgelaw.DmaSays", spec := "dmaSays", unfollowed := true, recurses := true, apart := false }
def DmaSaysSaid : Prop := dmaSaysRow.holds Try.pinned (OpenSpec.ofChange dmaSaysSpec)

/-- ITS FALSE NEIGHBOUR: 'it returns false'. Refute it at one input. -/
def dmaSaysWrong : ChangeSpec := { name := "dmaSays", fn := fun _ => fun
  | [d1, d2, d3] => { results := [.lit (.bool false)], args := [d1, d2, d3] }
  | _ => none }
def DmaSaysWrongFalsely : Prop := dmaSaysRow.holds Try.pinned (OpenSpec.ofChange dmaSaysWrong)

/-- 'drawbridgelaw.DmaHeld': WHATEVER THE INPUT: true; the input reads as it did. -/
def dmaHeldSpec : ChangeSpec := { name := "dmaHeld", fn := fun _ => fun
  | [d1, d2, d3] => { results := [.lit (.bool true)], args := [d1, d2, d3] }
  | _ => none }
def dmaHeldRow : OpenClaim := { program := "ytefcdcneenjbgab", sum := "a194a22a4a131124d59e80b0a4c2fa2ec6c830f96935b11ea21be63e03369980", func := "drawbridge/drawbridgelaw.DmaHeld", spec := "dmaHeld", unfollowed := true, recurses := true, apart := false }
def DmaHeldSaid : Prop := dmaHeldRow.holds Try.pinned (OpenSpec.ofChange dmaHeldSpec)

/-- ITS FALSE NEIGHBOUR: 'it returns false'. Refute it at one input. -/
def dmaHeldWrong : ChangeSpec := { name := "dmaHeld", fn := fun _ => fun
  | [d1, d2, d3] => { results := [.lit (.bool false)], args := [d1, d2, d3] }
  | _ => none }
def DmaHeldWrongFalsely : Prop := dmaHeldRow.holds Try.pinned (OpenSpec.ofChange dmaHeldWrong)

/-- 'drawbridgelaw.DmaParts': WHATEVER THE INPUT: true; the input reads as it did. -/
def dmaPartsSpec : ChangeSpec := { name := "dmaParts", fn := fun _ => fun
  | [d1, d2, d3] => { results := [.lit (.bool true)], args := [d1, d2, d3] }
  | _ => none }
def dmaPartsRow : OpenClaim := { program := "ytefcdcneenjbgab", sum := "a194a22a4a131124d59e80b0a4c2fa2ec6c830f96935b11ea21be63e03369980", func := "drawbridge/drawbridgelaw.DmaParts", spec := "dmaParts", unfollowed := true, recurses := true, apart := false }
def DmaPartsSaid : Prop := dmaPartsRow.holds Try.pinned (OpenSpec.ofChange dmaPartsSpec)

/-- ITS FALSE NEIGHBOUR: 'it returns false'. Refute it at one input. -/
def dmaPartsWrong : ChangeSpec := { name := "dmaParts", fn := fun _ => fun
  | [d1, d2, d3] => { results := [.lit (.bool false)], args := [d1, d2, d3] }
  | _ => none }
def DmaPartsWrongFalsely : Prop := dmaPartsRow.holds Try.pinned (OpenSpec.ofChange dmaPartsWrong)

/-- 'drawbridgelaw.DmaBack': WHATEVER THE INPUT: true; the input reads as it did. -/
def dmaBackSpec : ChangeSpec := { name := "dmaBack", fn := fun _ => fun
  | [d1, d2, d3] => { results := [.lit (.bool true)], args := [d1, d2, d3] }
  | _ => none }
def dmaBackRow : OpenClaim := { program := "ytefcdcneenjbgab", sum := "a194a22a4a131124d59e80b0a4c2fa2ec6c830f96935b11ea21be63e03369980", func := "drawbridge/drawbridgelaw.DmaBack", spec := "dmaBack", unfollowed := true, recurses := true, apart := false }
def DmaBackSaid : Prop := dmaBackRow.holds Try.pinned (OpenSpec.ofChange dmaBackSpec)

/-- ITS FALSE NEIGHBOUR: 'it returns false'. Refute it at one input. -/
def dmaBackWrong : ChangeSpec := { name := "dmaBack", fn := fun _ => fun
  | [d1, d2, d3] => { results := [.lit (.bool false)], args := [d1, d2, d3] }
  | _ => none }
def DmaBackWrongFalsely : Prop := dmaBackRow.holds Try.pinned (OpenSpec.ofChange dmaBackWrong)

/- THE SECOND FORM. 'bulk': how many values and letters a reading holds, each counted each time it is reached (what is shared counts as often as it is met; a slice's spare places count too). A statement '..UptoSaid' is the law's where the arguments, and the package variables that the reading takes, are together of bulk at most 1048576: NARROWER than '..Said'. Prove '..Said' where nothing that the law and all that it calls make is longer than what came in: it says more and counts as full. Else prove '..UptoSaid'. A law counts once. -/
mutual
def uptoBulk {H : Type} : DataW H → Nat
  | .lit (.string bytes) => bytes.length + 1
  | .lit _ => 1
  | .nil => 1
  | .ptr d => uptoBulk d + 1
  | .slice elems spare => uptoBulkAll elems + uptoBulkAll spare + 1
  | .agg parts => uptoBulkAll parts + 1
  | .iface _ d => uptoBulk d + 1
  | .map entries => uptoBulkEntries entries + 1
  | .held _ => 1
def uptoBulkAll {H : Type} : List (DataW H) → Nat
  | [] => 0
  | d :: r => uptoBulk d + uptoBulkAll r
def uptoBulkEntries {H : Type} : List (Lit × DataW H) → Nat
  | [] => 0
  | x :: r => uptoBulkEntry x + uptoBulkEntries r
def uptoBulkEntry {H : Type} : Lit × DataW H → Nat
  | (.string bytes, d) => bytes.length + uptoBulk d + 1
  | (_, d) => uptoBulk d + 1
 end
def uptoSmall : (H : Type) → List (DataW H) → Bool := fun _ ds => decide (uptoBulkAll ds ≤ 1048576)
def OpenSpec.upto (s : _root_.Go.ChangeSpec) : _root_.Go.OpenSpec := { _root_.Go.OpenSpec.ofChange s with cond := some uptoSmall }

/-- 'drawbridgelaw.WordSays', WHERE WHAT IT READS IS OF BULK AT MOST 1048576: true; the input reads as it did. -/
def wordSaysUptoRow : OpenClaim := { program := "ytefcdcneenjbgab", sum := "a194a22a4a131124d59e80b0a4c2fa2ec6c830f96935b11ea21be63e03369980", func := "drawbridge/drawbridgelaw.WordSays", spec := "wordSays", apart := false, narrowed := true }
def WordSaysUptoSaid : Prop := wordSaysUptoRow.holds Try.pinned (OpenSpec.upto wordSaysSpec)

/-- 'drawbridgelaw.WordBack', WHERE WHAT IT READS IS OF BULK AT MOST 1048576: true; the input reads as it did. -/
def wordBackUptoRow : OpenClaim := { program := "ytefcdcneenjbgab", sum := "a194a22a4a131124d59e80b0a4c2fa2ec6c830f96935b11ea21be63e03369980", func := "drawbridge/drawbridgelaw.WordBack", spec := "wordBack", apart := false, narrowed := true }
def WordBackUptoSaid : Prop := wordBackUptoRow.holds Try.pinned (OpenSpec.upto wordBackSpec)

/-- 'drawbridgelaw.BridgeSays', WHERE WHAT IT READS IS OF BULK AT MOST 1048576: true; the input reads as it did. -/
def bridgeSaysUptoRow : OpenClaim := { program := "ytefcdcneenjbgab", sum := "a194a22a4a131124d59e80b0a4c2fa2ec6c830f96935b11ea21be63e03369980", func := "drawbridge/drawbridgelaw.BridgeSays", spec := "bridgeSays", unfollowed := true, recurses := true, apart := false, narrowed := true }
def BridgeSaysUptoSaid : Prop := bridgeSaysUptoRow.holds Try.pinned (OpenSpec.upto bridgeSaysSpec)

/-- 'drawbridgelaw.BridgeTells', WHERE WHAT IT READS IS OF BULK AT MOST 1048576: true; the input reads as it did. -/
def bridgeTellsUptoRow : OpenClaim := { program := "ytefcdcneenjbgab", sum := "a194a22a4a131124d59e80b0a4c2fa2ec6c830f96935b11ea21be63e03369980", func := "drawbridge/drawbridgelaw.BridgeTells", spec := "bridgeTells", unfollowed := true, recurses := true, apart := false, narrowed := true }
def BridgeTellsUptoSaid : Prop := bridgeTellsUptoRow.holds Try.pinned (OpenSpec.upto bridgeTellsSpec)

/-- 'drawbridgelaw.BridgeRemembers', WHERE WHAT IT READS IS OF BULK AT MOST 1048576: true; the input reads as it did. -/
def bridgeRemembersUptoRow : OpenClaim := { program := "ytefcdcneenjbgab", sum := "a194a22a4a131124d59e80b0a4c2fa2ec6c830f96935b11ea21be63e03369980", func := "drawbridge/drawbridgelaw.BridgeRemembers", spec := "bridgeRemembers", unfollowed := true, recurses := true, apart := false, narrowed := true }
def BridgeRemembersUptoSaid : Prop := bridgeRemembersUptoRow.holds Try.pinned (OpenSpec.upto bridgeRemembersSpec)

/-- 'drawbridgelaw.BridgeShut', WHERE WHAT IT READS IS OF BULK AT MOST 1048576: true; the input reads as it did. -/
def bridgeShutUptoRow : OpenClaim := { program := "ytefcdcneenjbgab", sum := "a194a22a4a131124d59e80b0a4c2fa2ec6c830f96935b11ea21be63e03369980", func := "drawbridge/drawbridgelaw.BridgeShut", spec := "bridgeShut", unfollowed := true, recurses := true, apart := false, narrowed := true }
def BridgeShutUptoSaid : Prop := bridgeShutUptoRow.holds Try.pinned (OpenSpec.upto bridgeShutSpec)

/-- 'drawbridgelaw.BridgeFaults', WHERE WHAT IT READS IS OF BULK AT MOST 1048576: true; the input reads as it did. -/
def bridgeFaultsUptoRow : OpenClaim := { program := "ytefcdcneenjbgab", sum := "a194a22a4a131124d59e80b0a4c2fa2ec6c830f96935b11ea21be63e03369980", func := "drawbridge/drawbridgelaw.BridgeFaults", spec := "bridgeFaults", unfollowed := true, recurses := true, apart := false, narrowed := true }
def BridgeFaultsUptoSaid : Prop := bridgeFaultsUptoRow.holds Try.pinned (OpenSpec.upto bridgeFaultsSpec)

/-- 'drawbridgelaw.BridgeOrders', WHERE WHAT IT READS IS OF BULK AT MOST 1048576: true; the input reads as it did. -/
def bridgeOrdersUptoRow : OpenClaim := { program := "ytefcdcneenjbgab", sum := "a194a22a4a131124d59e80b0a4c2fa2ec6c830f96935b11ea21be63e03369980", func := "drawbridge/drawbridgelaw.BridgeOrders", spec := "bridgeOrders", unfollowed := true, recurses := true, apart := false, narrowed := true }
def BridgeOrdersUptoSaid : Prop := bridgeOrdersUptoRow.holds Try.pinned (OpenSpec.upto bridgeOrdersSpec)

/-- 'drawbridgelaw.DmaSays', WHERE WHAT IT READS IS OF BULK AT MOST 1048576: true; the input reads as it did. -/
def dmaSaysUptoRow : OpenClaim := { program := "ytefcdcneenjbgab", sum := "a194a22a4a131124d59e80b0a4c2fa2ec6c830f96935b11ea21be63e03369980", func := "drawbridge/drawbridgelaw.DmaSays", spec := "dmaSays", unfollowed := true, recurses := true, apart := false, narrowed := true }
def DmaSaysUptoSaid : Prop := dmaSaysUptoRow.holds Try.pinned (OpenSpec.upto dmaSaysSpec)

/-- 'drawbridgelaw.DmaHeld', WHERE WHAT IT READS IS OF BULK AT MOST 1048576: true; the input reads as it did. -/
def dmaHeldUptoRow : OpenClaim := { program := "ytefcdcneenjbgab", sum := "a194a22a4a131124d59e80b0a4c2fa2ec6c830f96935b11ea21be63e03369980", func := "drawbridge/drawbridgelaw.DmaHeld", spec := "dmaHeld", unfollowed := true, recurses := true, apart := false, narrowed := true }
def DmaHeldUptoSaid : Prop := dmaHeldUptoRow.holds Try.pinned (OpenSpec.upto dmaHeldSpec)

/-- 'drawbridgelaw.DmaParts', WHERE WHAT IT READS IS OF BULK AT MOST 1048576: true; the input reads as it did. -/
def dmaPartsUptoRow : OpenClaim := { program := "ytefcdcneenjbgab", sum := "a194a22a4a131124d59e80b0a4c2fa2ec6c830f96935b11ea21be63e03369980", func := "drawbridge/drawbridgelaw.DmaParts", spec := "dmaParts", unfollowed := true, recurses := true, apart := false, narrowed := true }
def DmaPartsUptoSaid : Prop := dmaPartsUptoRow.holds Try.pinned (OpenSpec.upto dmaPartsSpec)

/-- 'drawbridgelaw.DmaBack', WHERE WHAT IT READS IS OF BULK AT MOST 1048576: true; the input reads as it did. -/
def dmaBackUptoRow : OpenClaim := { program := "ytefcdcneenjbgab", sum := "a194a22a4a131124d59e80b0a4c2fa2ec6c830f96935b11ea21be63e03369980", func := "drawbridge/drawbridgelaw.DmaBack", spec := "dmaBack", unfollowed := true, recurses := true, apart := false, narrowed := true }
def DmaBackUptoSaid : Prop := dmaBackUptoRow.holds Try.pinned (OpenSpec.upto dmaBackSpec)

end Rows
end Go.Proofs.Ytefcdcneenjbgab
