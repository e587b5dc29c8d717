/-
  No cell of these rows narrows 'for every input' (looked for: loops, veiled, ifaces, maps, wideKeys, modest, calm, conditions, laid).
  DERIVED. THE GIVEN ROWS OF THIS SEAT. 8 by the template 'for every input the law returns true; each argument reads behind the call as it read before'; 0 by the template 'total and deterministic' (their statements: YtalncjhldkcmaaaGreatTotals.lean).
  GIVEN WITH THE SEED: the statements are not yours to turn. If you find one false, say at which input.
  Laid BY PROGRAM, IN A SANDBOX (cutbox-rows.mjs): the forced cells as the released guide's own fill.sh prints them over the translation 80e547761eb92c3c… (all of the seat's roots in one cut). By AI agents, Wed Nov 11 2026. No macro, syntax, notation, axiom, sorry.
-/
import Derived.Test.YtalncjhldkcmaaaGreatChecked
import GoSem.Claim
import GoSem.ClaimJoined
import GoSem.ClaimMapViews
import Derived.JoinedTies
import Derived.KernelRfl
namespace Go.Proofs.YtalncjhldkcmaaaGreat
/- THE CELL 'sum', in the pinned program and in every row, IS THE sha256 OF THE DUMP (.gsa) THAT YtalncjhldkcmaaaGreatProg.lean LOADS. Nothing in Lean hashes anything: it is a label: what it is worth is what the hold of that sum in a sandbox is worth. -/
noncomputable def Tryz.pinned : Pinned := { name := "ytalncjhldkcmaaagreat", sum := "80e547761eb92c3c7984e76b0c818116db2144d6b3eff2dc36959970626192ed", checked := Tryz.checked }
namespace Rows
def none {H : Type} : Left H := { results := [], args := [] }

/-- 'firnlaw.Does': WHATEVER THE INPUT: true; the input reads as it did. -/
def doesSpec : ChangeSpec := { name := "does", fn := fun _ => fun
  | [d] => { results := [.lit (.bool true)], args := [d] }
  | _ => none }
def doesRow : OpenClaim := { program := "ytalncjhldkcmaaagreat", sum := "80e547761eb92c3c7984e76b0c818116db2144d6b3eff2dc36959970626192ed", func := "firn/firnlaw.Does", spec := "does", inPlace := ["internal/abi.NoEscape", "internal/bytealg.MakeNoZero"], unfollowed := true, recurses := true, apart := false }
def DoesSaid : Prop := doesRow.holds Tryz.pinned (OpenSpec.ofChange doesSpec)

/-- ITS FALSE NEIGHBOUR: 'it returns false'. Refute it at one input. -/
def doesWrong : ChangeSpec := { name := "does", fn := fun _ => fun
  | [d] => { results := [.lit (.bool false)], args := [d] }
  | _ => none }
def DoesWrongFalsely : Prop := doesRow.holds Tryz.pinned (OpenSpec.ofChange doesWrong)

/-- 'firnkeep.Kept': WHATEVER THE INPUT: true; the input reads as it did. -/
def keptSpec : ChangeSpec := { name := "kept", fn := fun _ => fun
  | [d] => { results := [.lit (.bool true)], args := [d] }
  | _ => none }
def keptRow : OpenClaim := { program := "ytalncjhldkcmaaagreat", sum := "80e547761eb92c3c7984e76b0c818116db2144d6b3eff2dc36959970626192ed", func := "firn/firnkeep.Kept", spec := "kept", inPlace := ["internal/abi.NoEscape", "internal/bytealg.MakeNoZero"], unfollowed := true, recurses := true, apart := false }
def KeptSaid : Prop := keptRow.holds Tryz.pinned (OpenSpec.ofChange keptSpec)

/-- ITS FALSE NEIGHBOUR: 'it returns false'. Refute it at one input. -/
def keptWrong : ChangeSpec := { name := "kept", fn := fun _ => fun
  | [d] => { results := [.lit (.bool false)], args := [d] }
  | _ => none }
def KeptWrongFalsely : Prop := keptRow.holds Tryz.pinned (OpenSpec.ofChange keptWrong)

/-- 'firnkeep.Apart': WHATEVER THE INPUT: true; the input reads as it did. -/
def apartSpec : ChangeSpec := { name := "apart", fn := fun _ => fun
  | [d] => { results := [.lit (.bool true)], args := [d] }
  | _ => none }
def apartRow : OpenClaim := { program := "ytalncjhldkcmaaagreat", sum := "80e547761eb92c3c7984e76b0c818116db2144d6b3eff2dc36959970626192ed", func := "firn/firnkeep.Apart", spec := "apart", inPlace := ["internal/abi.NoEscape", "internal/bytealg.MakeNoZero"], unfollowed := true, recurses := true, apart := false }
def ApartSaid : Prop := apartRow.holds Tryz.pinned (OpenSpec.ofChange apartSpec)

/-- ITS FALSE NEIGHBOUR: 'it returns false'. Refute it at one input. -/
def apartWrong : ChangeSpec := { name := "apart", fn := fun _ => fun
  | [d] => { results := [.lit (.bool false)], args := [d] }
  | _ => none }
def ApartWrongFalsely : Prop := apartRow.holds Tryz.pinned (OpenSpec.ofChange apartWrong)

/-- 'firnkeep.Withdrawn': WHATEVER THE INPUT: true; the input reads as it did. -/
def withdrawnSpec : ChangeSpec := { name := "withdrawn", fn := fun _ => fun
  | [d1, d2] => { results := [.lit (.bool true)], args := [d1, d2] }
  | _ => none }
def withdrawnRow : OpenClaim := { program := "ytalncjhldkcmaaagreat", sum := "80e547761eb92c3c7984e76b0c818116db2144d6b3eff2dc36959970626192ed", func := "firn/firnkeep.Withdrawn", spec := "withdrawn", inPlace := ["internal/abi.NoEscape", "internal/bytealg.MakeNoZero"], unfollowed := true, recurses := true, apart := false }
def WithdrawnSaid : Prop := withdrawnRow.holds Tryz.pinned (OpenSpec.ofChange withdrawnSpec)

/-- ITS FALSE NEIGHBOUR: 'it returns false'. Refute it at one input. -/
def withdrawnWrong : ChangeSpec := { name := "withdrawn", fn := fun _ => fun
  | [d1, d2] => { results := [.lit (.bool false)], args := [d1, d2] }
  | _ => none }
def WithdrawnWrongFalsely : Prop := withdrawnRow.holds Tryz.pinned (OpenSpec.ofChange withdrawnWrong)

/-- 'firnkeep.Turned': WHATEVER THE INPUT: true; the input reads as it did. -/
def turnedSpec : ChangeSpec := { name := "turned", fn := fun _ => fun
  | [d1, d2, d3] => { results := [.lit (.bool true)], args := [d1, d2, d3] }
  | _ => none }
def turnedRow : OpenClaim := { program := "ytalncjhldkcmaaagreat", sum := "80e547761eb92c3c7984e76b0c818116db2144d6b3eff2dc36959970626192ed", func := "firn/firnkeep.Turned", spec := "turned", inPlace := ["internal/abi.NoEscape", "internal/bytealg.MakeNoZero"], unfollowed := true, recurses := true, apart := false }
def TurnedSaid : Prop := turnedRow.holds Tryz.pinned (OpenSpec.ofChange turnedSpec)

/-- ITS FALSE NEIGHBOUR: 'it returns false'. Refute it at one input. -/
def turnedWrong : ChangeSpec := { name := "turned", fn := fun _ => fun
  | [d1, d2, d3] => { results := [.lit (.bool false)], args := [d1, d2, d3] }
  | _ => none }
def TurnedWrongFalsely : Prop := turnedRow.holds Tryz.pinned (OpenSpec.ofChange turnedWrong)

/-- 'firnlaw.Found': WHATEVER THE INPUT: true; the input reads as it did. -/
def foundSpec : ChangeSpec := { name := "found", fn := fun _ => fun
  | [d] => { results := [.lit (.bool true)], args := [d] }
  | _ => none }
def foundRow : OpenClaim := { program := "ytalncjhldkcmaaagreat", sum := "80e547761eb92c3c7984e76b0c818116db2144d6b3eff2dc36959970626192ed", func := "firn/firnlaw.Found", spec := "found", inPlace := ["internal/abi.NoEscape", "internal/bytealg.MakeNoZero"], unfollowed := true, recurses := true, apart := false }
def FoundSaid : Prop := foundRow.holds Tryz.pinned (OpenSpec.ofChange foundSpec)

/-- ITS FALSE NEIGHBOUR: 'it returns false'. Refute it at one input. -/
def foundWrong : ChangeSpec := { name := "found", fn := fun _ => fun
  | [d] => { results := [.lit (.bool false)], args := [d] }
  | _ => none }
def FoundWrongFalsely : Prop := foundRow.holds Tryz.pinned (OpenSpec.ofChange foundWrong)

/-- 'firnlaw.All': WHATEVER THE INPUT: true; the input reads as it did. -/
def allSpec : ChangeSpec := { name := "all", fn := fun _ => fun
  | [d] => { results := [.lit (.bool true)], args := [d] }
  | _ => none }
def allRow : OpenClaim := { program := "ytalncjhldkcmaaagreat", sum := "80e547761eb92c3c7984e76b0c818116db2144d6b3eff2dc36959970626192ed", func := "firn/firnlaw.All", spec := "all", inPlace := ["internal/abi.NoEscape", "internal/bytealg.MakeNoZero"], unfollowed := true, recurses := true, apart := false }
def AllSaid : Prop := allRow.holds Tryz.pinned (OpenSpec.ofChange allSpec)

/-- ITS FALSE NEIGHBOUR: 'it returns false'. Refute it at one input. -/
def allWrong : ChangeSpec := { name := "all", fn := fun _ => fun
  | [d] => { results := [.lit (.bool false)], args := [d] }
  | _ => none }
def AllWrongFalsely : Prop := allRow.holds Tryz.pinned (OpenSpec.ofChange allWrong)

/-- 'firnkeep.Whole': WHATEVER THE INPUT: true; the input reads as it did. -/
def wholeSpec : ChangeSpec := { name := "whole", fn := fun _ => fun
  | [d1, d2, d3, d4] => { results := [.lit (.bool true)], args := [d1, d2, d3, d4] }
  | _ => none }
def wholeRow : OpenClaim := { program := "ytalncjhldkcmaaagreat", sum := "80e547761eb92c3c7984e76b0c818116db2144d6b3eff2dc36959970626192ed", func := "firn/firnkeep.Whole", spec := "whole", inPlace := ["internal/abi.NoEscape", "internal/bytealg.MakeNoZero"], unfollowed := true, recurses := true, apart := false }
def WholeSaid : Prop := wholeRow.holds Tryz.pinned (OpenSpec.ofChange wholeSpec)

/-- ITS FALSE NEIGHBOUR: 'it returns false'. Refute it at one input. -/
def wholeWrong : ChangeSpec := { name := "whole", fn := fun _ => fun
  | [d1, d2, d3, d4] => { results := [.lit (.bool false)], args := [d1, d2, d3, d4] }
  | _ => none }
def WholeWrongFalsely : Prop := wholeRow.holds Tryz.pinned (OpenSpec.ofChange wholeWrong)

/- THE SECOND FORM. 'bulk': how many values and letters a reading holds, each counted each time it is reached (what is shared counts as often as it is met; a slice's spare places count too). A statement '..UptoSaid' is the law's where the arguments, and the package variables that the reading takes, are together of bulk at most 1048576: NARROWER than '..Said'. Prove '..Said' where nothing that the law and all that it calls make is longer than what came in: it says more and counts as full. Else prove '..UptoSaid'. A law counts once. -/
mutual
def uptoBulk {H : Type} : DataW H → Nat
  | .lit (.string bytes) => bytes.length + 1
  | .lit _ => 1
  | .nil => 1
  | .ptr d => uptoBulk d + 1
  | .slice elems spare => uptoBulkAll elems + uptoBulkAll spare + 1
  | .agg parts => uptoBulkAll parts + 1
  | .iface _ d => uptoBulk d + 1
  | .map entries => uptoBulkEntries entries + 1
  | .held _ => 1
def uptoBulkAll {H : Type} : List (DataW H) → Nat
  | [] => 0
  | d :: r => uptoBulk d + uptoBulkAll r
def uptoBulkEntries {H : Type} : List (Lit × DataW H) → Nat
  | [] => 0
  | x :: r => uptoBulkEntry x + uptoBulkEntries r
def uptoBulkEntry {H : Type} : Lit × DataW H → Nat
  | (.string bytes, d) => bytes.length + uptoBulk d + 1
  | (_, d) => uptoBulk d + 1
 end
def uptoSmall : (H : Type) → List (DataW H) → Bool := fun _ ds => decide (uptoBulkAll ds ≤ 1048576)
def OpenSpec.upto (s : _root_.Go.ChangeSpec) : _root_.Go.OpenSpec := { _root_.Go.OpenSpec.ofChange s with cond := some uptoSmall }

/-- 'firnlaw.Does', WHERE WHAT IT READS IS OF BULK AT MOST 1048576: true; the input reads as it did. -/
def doesUptoRow : OpenClaim := { program := "ytalncjhldkcmaaagreat", sum := "80e547761eb92c3c7984e76b0c818116db2144d6b3eff2dc36959970626192ed", func := "firn/firnlaw.Does", spec := "does", inPlace := ["internal/abi.NoEscape", "internal/bytealg.MakeNoZero"], unfollowed := true, recurses := true, apart := false, narrowed := true }
def DoesUptoSaid : Prop := doesUptoRow.holds Tryz.pinned (OpenSpec.upto doesSpec)

/-- 'firnkeep.Kept', WHERE WHAT IT READS IS OF BULK AT MOST 1048576: true; the input reads as it did. -/
def keptUptoRow : OpenClaim := { program := "ytalncjhldkcmaaagreat", sum := "80e547761eb92c3c7984e76b0c818116db2144d6b3eff2dc36959970626192ed", func := "firn/firnkeep.Kept", spec := "kept", inPlace := ["internal/abi.NoEscape", "internal/bytealg.MakeNoZero"], unfollowed := true, recurses := true, apart := false, narrowed := true }
def KeptUptoSaid : Prop := keptUptoRow.holds Tryz.pinned (OpenSpec.upto keptSpec)

/-- 'firnkeep.Apart', WHERE WHAT IT READS IS OF BULK AT MOST 1048576: true; the input reads as it did. -/
def apartUptoRow : OpenClaim := { program := "ytalncjhldkcmaaagreat", sum := "80e547761eb92c3c7984e76b0c818116db2144d6b3eff2dc36959970626192ed", func := "firn/firnkeep.Apart", spec := "apart", inPlace := ["internal/abi.NoEscape", "internal/bytealg.MakeNoZero"], unfollowed := true, recurses := true, apart := false, narrowed := true }
def ApartUptoSaid : Prop := apartUptoRow.holds Tryz.pinned (OpenSpec.upto apartSpec)

/-- 'firnkeep.Withdrawn', WHERE WHAT IT READS IS OF BULK AT MOST 1048576: true; the input reads as it did. -/
def withdrawnUptoRow : OpenClaim := { program := "ytalncjhldkcmaaagreat", sum := "80e547761eb92c3c7984e76b0c818116db2144d6b3eff2dc36959970626192ed", func := "firn/firnkeep.Withdrawn", spec := "withdrawn", inPlace := ["internal/abi.NoEscape", "internal/bytealg.MakeNoZero"], unfollowed := true, recurses := true, apart := false, narrowed := true }
def WithdrawnUptoSaid : Prop := withdrawnUptoRow.holds Tryz.pinned (OpenSpec.upto withdrawnSpec)

/-- 'firnkeep.Turned', WHERE WHAT IT READS IS OF BULK AT MOST 1048576: true; the input reads as it did. -/
def turnedUptoRow : OpenClaim := { program := "ytalncjhldkcmaaagreat", sum := "80e547761eb92c3c7984e76b0c818116db2144d6b3eff2dc36959970626192ed", func := "firn/firnkeep.Turned", spec := "turned", inPlace := ["internal/abi.NoEscape", "internal/bytealg.MakeNoZero"], unfollowed := true, recurses := true, apart := false, narrowed := true }
def TurnedUptoSaid : Prop := turnedUptoRow.holds Tryz.pinned (OpenSpec.upto turnedSpec)

/-- 'firnlaw.Found', WHERE WHAT IT READS IS OF BULK AT MOST 1048576: true; the input reads as it did. -/
def foundUptoRow : OpenClaim := { program := "ytalncjhldkcmaaagreat", sum := "80e547761eb92c3c7984e76b0c818116db2144d6b3eff2dc36959970626192ed", func := "firn/firnlaw.Found", spec := "found", inPlace := ["internal/abi.NoEscape", "internal/bytealg.MakeNoZero"], unfollowed := true, recurses := true, apart := false, narrowed := true }
def FoundUptoSaid : Prop := foundUptoRow.holds Tryz.pinned (OpenSpec.upto foundSpec)

/-- 'firnlaw.All', WHERE WHAT IT READS IS OF BULK AT MOST 1048576: true; the input reads as it did. -/
def allUptoRow : OpenClaim := { program := "ytalncjhldkcmaaagreat", sum := "80e547761eb92c3c7984e76b0c818116db2144d6b3eff2dc36959970626192ed", func := "firn/firnlaw.All", spec := "all", inPlace := ["internal/abi.NoEscape", "internal/bytealg.MakeNoZero"], unfollowed := true, recurses := true, apart := false, narrowed := true }
def AllUptoSaid : Prop := allUptoRow.holds Tryz.pinned (OpenSpec.upto allSpec)

/-- 'firnkeep.Whole', WHERE WHAT IT READS IS OF BULK AT MOST 1048576: true; the input reads as it did. -/
def wholeUptoRow : OpenClaim := { program := "ytalncjhldkcmaaagreat", sum := "80e547761eb92c3c7984e76b0c818116db2144d6b3eff2dc36959970626192ed", func := "firn/firnkeep.Whole", spec := "whole", inPlace := ["internal/abi.NoEscape", "internal/bytealg.MakeNoZero"], unfollowed := true, recurses := true, apart := false, narrowed := true }
def WholeUptoSaid : Prop := wholeUptoRow.holds Tryz.pinned (OpenSpec.upto wholeSpec)

end Rows
end Go.Proofs.YtalncjhldkcmaaaGreat
