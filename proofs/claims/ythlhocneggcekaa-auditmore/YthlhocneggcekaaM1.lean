/-
  AuditMore holds, with no condition: what one of some machines lets be more machines do; the last one that does is told.
  Laid together: Base, CacheMath, BridgeMath, HartMath, DmaMath, HeldMath, MachMath, KeptB.
-/
import Derived.Test.YthlhocneggcekaaRows
import Derived.WalkKit
import Derived.WalkSpells
import Derived.WalkLawsBesides
import Derived.Below
import Derived.WalkSmall
import Derived.Deep.QuietTactic
import Derived.BigQuiet
import Derived.Deep.Draws
import Derived.Deep.RegionHeld3
import Derived.Deep.DrawnRows
import Derived.Deep.CutRange
import Derived.Deep.AppendLies
import Derived.LoopN
import Derived.Deep.RegionWith
import Derived.Laws.CopyOwn
import Derived.Maps.OwnOps
import Derived.Maps.OwnSet
namespace Go.Proofs.Ythlhocneggcekaa
open Go.RowKit
def nth (zs : List Int) (i : Nat) : Int := zs.getD i 0
abbrev Ln := Int × Int × Int × Bool × Bool
structure Br where
  mode : Int
  base : Int
  cache : List Ln
  op : Int
  oh : Int
  ot : Int
  stop : Bool
  fen : Int
  fp : Int
  fh : Int
  ft : Int
  lost : Bool
structure Ht where
  pc : Int
  r : List Int
  done : Bool
abbrev Tc := Int × Int × Int × Bool × Int
def tth (l : List Tc) (i : Nat) : Tc := l.getD i (0, 0, 0, false, 0)
structure St where
  zs : List Int
  b : Br
  dat : List Int
  tch : List Tc
def rep (zs ds : List Int) (T : List Tc) : Nat → List Int
  | 0 => zs
  | j + 1 => if (tth T j).2.2.2.1 = true then (rep zs ds T j).set (tth T j).2.2.1.toNat (nth ds j) else rep zs ds T j
structure HeldI (d : Int) (wr : Bool) (ds : List Int) (o : Nat) (zs : List Int) (s : St) : Prop where
  mem : s.zs = rep zs ds s.tch s.tch.length
  each : ∀ j, j < s.tch.length → ∃ p : Int, (0 ≤ p ∧ p < 512) ∧ tth s.tch j = (d, ((o + j : Nat) : Int), p, wr, nth (rep zs ds s.tch (j + 1)) p.toNat)
  read : wr = false → s.dat.length = s.tch.length ∧ ∀ j, j < s.tch.length → nth s.dat j = (tth s.tch j).2.2.2.2
  writ : wr = true → s.dat = []
structure Mc where
  zs : List Int
  h : Ht
  b : Br
structure Hp where
  kind : Int
  num : Int
  d : Int
  a : Int
  n : Int
  wr : Bool
  ds : List Int
structure To where
  done : Bool
  dat : List Int
  f : Int
  tch : List Tc
structure KeptB (may : Nat → Prop) (w w' : World) : Prop where
  os : w'.os = w.os
  tape : w'.tape = w.tape
  output : w'.output = w.output
  size : w.heap.size ≤ w'.heap.size
  block : ∀ k, k < w.heap.size → ¬ may k → w'.heap[k]? = w.heap[k]?
end Go.Proofs.Ythlhocneggcekaa
