/- What fieldsOf of package wire returns: the codes of a kind's numbers, in memory of its own; nil for what is no kind. -/
import Derived.Test.YtalncjhldkcmaaaA
namespace Go.Proofs.Ytalncjhldkcmaaa
open Go.RowKit

def flds (k : Int) : List Nat :=
  if k = 1 then [4, 7] else if k = 2 then [0, 2, 3, 4, 5, 6] else if k = 3 ∨ k = 8 then [0, 4, 5, 6] else if k = 4 then [0, 1, 3, 4, 5, 6]
  else if k = 5 then [0, 1, 3] else if k = 6 then [0, 3] else if k = 7 ∨ k = 12 ∨ k = 15 ∨ k = 16 then [0] else if k = 9 ∨ k = 14 then [2]
  else if k = 10 then [4, 8] else if k = 11 ∨ k = 13 then [4] else []

theorem kinds {k : Int} (h1 : 1 ≤ k) (h2 : k ≤ 16) : k = 1 ∨ k = 2 ∨ k = 3 ∨ k = 4 ∨ k = 5 ∨ k = 6 ∨ k = 7 ∨ k = 8 ∨ k = 9 ∨ k = 10 ∨ k = 11 ∨ k = 12 ∨ k = 13 ∨ k = 14 ∨ k = 15 ∨ k = 16 := by omega

def codes (l : List Nat) : List Value := l.map fun (f : Nat) => Value.int .i64 (f : Int)

set_option maxHeartbeats 400000 in
theorem fieldsOf_yes (k : Int) (h1 : 1 ≤ k) (h2 : k ≤ 16) (w : World) :
    Calls Try.prog 25 #[.int .i64 k] w fun e w' => e = .returned (.slice (some ⟨w.heap.size, 0, none⟩) (flds k).length (flds k).length) ∧ w' = w.alloc (.cells (codes (flds k)).toArray 46) := by
  rcases kinds h1 h2 with rfl | rfl | rfl | rfl | rfl | rfl | rfl | rfl | rfl | rfl | rfl | rfl | rfl | rfl | rfl | rfl
  all_goals
    go_enter Try.func25, Try.ntmps25
    go_wp2
    go_ret
    exact ⟨rfl, rfl⟩

set_option maxHeartbeats 400000 in
theorem fieldsOf_no (k : Int) (h : k < 1 ∨ 16 < k) (w : World) :
    Calls Try.prog 25 #[.int .i64 k] w fun e w' => e = .returned (.slice none 0 0) ∧ w' = w := by
  rcases h with h | h
  all_goals
    go_enter Try.func25, Try.ntmps25
    go_wp2
    go_ret
    exact ⟨rfl, rfl⟩

end Go.Proofs.Ytalncjhldkcmaaa
