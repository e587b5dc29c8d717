/- A world in which the two listed tables are laid: the witness's. -/
import Derived.Test.YtbpnllhhmookcaaGreatDoorRows
import Derived.Test.YtbpnllhhmookcaaGreatDoorTie
import Derived.ProofKit
import Derived.LaidLaws
import Derived.LaidHandle
namespace Go.Proofs.YtbpnllhhmookcaaGreatDoor
open Go.RowKit

def putG (P : Program) (h : Array Obj) (name : String) (cs : Array Value) : Array Obj :=
  match P.globalNamed name with
  | some g => h.modify g fun
    | .cells _ t frozen => .cells cs t frozen
    | o => o
  | none => h
/-- The settled world of a program, its two listed tables of Go's own package laid. -/
def laidW (P : Program) (os : Os) : World :=
  let w0 := World.holding P os ⟨#[], #[], []⟩
  let ns := Rows.keptRow.laid.map Prod.fst
  let h1 := putG P w0.heap (ns.getD 1 default) (Go.Pinned.utf8FirstZ.map fun (z : Nat) => Value.int .u8 z).toArray
  let h2 := putG P h1 (ns.getD 0 default) (([128, 191, 160, 191, 128, 159, 144, 191, 128, 143] ++ List.replicate 22 0).map fun (z : Nat) => Value.int .u8 z).toArray
  { w0 with heap := h2 }

theorem laidW_met (os : Os) (args : Array Value) : laidMetH Tryz.prog Rows.keptRow.laid ((laidW Tryz.prog os).forCall (fun _ _ => 0) ⟨#[], args, []⟩).memory :=
  laidMetH_of_parts3 (fuel := 8) (laidMet_of_run' 8 (by kernel_rfl) (by kernel_rfl)) (by kernel_rfl) (by kernel_rfl)

end Go.Proofs.YtbpnllhhmookcaaGreatDoor
