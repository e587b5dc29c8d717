/- The small functions of package firnref: letters, bounds, get, with, four, number. -/
import Derived.Test.YtalncjhldkcmaaaF0
namespace Go.Proofs.Ytalncjhldkcmaaa
open Go.RowKit

/-- The letter of a field. -/
def ltr (f : Nat) : UInt8 := [116, 111, 100, 118, 98, 120, 121, 110, 113].getD f 0
def ltrs (k : Int) : List UInt8 := (flds k).map ltr

set_option maxHeartbeats 1000000 in
theorem letters_yes (k : Int) (h1 : 1 ≤ k) (h2 : k ≤ 16) (w : World) :
    Calls Try.prog 16 #[.int .i64 k] w fun e w' => e = .returned (.string ⟨(ltrs k).toArray⟩) ∧ Below w.heap.size w w' := by
  rcases kinds h1 h2 with rfl | rfl | rfl | rfl | rfl | rfl | rfl | rfl | rfl | rfl | rfl | rfl | rfl | rfl | rfl | rfl
  all_goals
    go_enter Try.func16, Try.ntmps16
    go_wp2
    go_ret
    exact ⟨rfl, (Below.refl _ _).alloc (Nat.le_refl _) _⟩

set_option maxHeartbeats 1000000 in
theorem letters_no (k : Int) (h : k < 1 ∨ 16 < k) (w : World) :
    Calls Try.prog 16 #[.int .i64 k] w fun e w' => e = .returned (.string ⟨#[]⟩) ∧ Below w.heap.size w w' := by
  rcases h with h | h
  · go_enter Try.func16, Try.ntmps16
    go_wp2
    go_ret
    exact ⟨rfl, (Below.refl _ _).alloc (Nat.le_refl _) _⟩
  · have h' : decide (k < 1) = false := by simp; omega
    go_enter Try.func16, Try.ntmps16
    go_wp2
    go_ret
    exact ⟨rfl, (Below.refl _ _).alloc (Nat.le_refl _) _⟩

set_option maxHeartbeats 400000 in
theorem bounds_any (f : Nat) (hf : f < 9) (w : World) :
    Calls Try.prog 18 #[.int .u8 ((ltr f).toNat : Int)] w fun e w' => e = .returned (.tuple #[.int .i64 (lo f), .int .i64 (hi f)]) ∧ w' = w := by
  rcases lt9 hf with rfl | rfl | rfl | rfl | rfl | rfl | rfl | rfl | rfl
  all_goals
    show Calls Try.prog 18 #[.int .u8 _] w _
    simp only [ltr, List.getD_cons_zero, List.getD_cons_succ]
    go_enter Try.func18, Try.ntmps18
    go_wp2
    go_ret2
    exact ⟨rfl, rfl⟩

end Go.Proofs.Ytalncjhldkcmaaa
