/- The document's first frame: what Encode answers to it. -/
import Derived.Test.YtalncjhldkcmaaaH
namespace Go.Proofs.Ytalncjhldkcmaaa
open Go.RowKit

def useC : Nat → Int := fun i => [6, 7, 0, 0, 300, 0, 0, 0, 0].getD i 0
theorem use_enc : encS useC = [6, 0, 0, 0, 7, 0, 0, 1, 44] ∧ encE useC = 0 := by decide +kernel
theorem encode_use (w : World) :
    Calls Try.prog 6 #[.agg #[.int .i64 6, .int .i64 7, .int .i64 0, .int .i64 0, .int .i64 300, .int .i64 0, .int .i64 0, .int .i64 0, .int .i64 0]] w fun e w' => e = .returned (.tuple #[.string ⟨#[6, 0, 0, 0, 7, 0, 0, 1, 44]⟩, .int .i64 0]) ∧ Below w.heap.size w w' := by
  refine (encodeF_any useC w).mono ?_
  rintro e w' ⟨rfl, hb⟩
  rw [use_enc.1, use_enc.2]
  exact ⟨rfl, hb⟩

end Go.Proofs.Ytalncjhldkcmaaa
