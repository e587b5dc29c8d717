/- The small functions of package wire: limits, allows, of, fieldsOf: what each returns, for every argument that the program hands it. -/
import Derived.Test.YtalncjhldkcmaaaRows
import Derived.WalkKit
import Derived.WalkSpells
import Derived.WalkLawsBesides
namespace Go.Proofs.Ytalncjhldkcmaaa
open Go.RowKit

def lo (f : Nat) : Int := if f = 5 ∨ f = 6 then 0 else 1
def hi (f : Nat) : Int := if f = 0 ∨ f = 1 then 999 else if f = 2 then 99 else if f = 3 then 1000000 else if f = 4 then 9 else if f = 7 then 5 else if f = 8 then 3 else 4
def off (f : Nat) : Nat := if f < 8 then f + 1 else 8

theorem lt9 {f : Nat} (h : f < 9) : f = 0 ∨ f = 1 ∨ f = 2 ∨ f = 3 ∨ f = 4 ∨ f = 5 ∨ f = 6 ∨ f = 7 ∨ f = 8 := by omega

set_option maxHeartbeats 400000 in
theorem limits_any (f : Nat) (hf : f < 9) (w : World) :
    Calls Try.prog 31 #[.int .i64 f] w fun e w' => e = .returned (.tuple #[.int .i64 (lo f), .int .i64 (hi f)]) ∧ w' = w := by
  rcases lt9 hf with rfl | rfl | rfl | rfl | rfl | rfl | rfl | rfl | rfl
  all_goals
    go_enter Try.func31, Try.ntmps31
    go_wp2
    go_ret2
    exact ⟨rfl, rfl⟩

def okB (f : Nat) (n : Int) : Bool := decide (lo f ≤ n) && decide (n ≤ hi f)

set_option maxHeartbeats 400000 in
theorem allows_any (f : Nat) (hf : f < 9) (n : Int) (w : World) :
    Calls Try.prog 27 #[.int .i64 f, .int .i64 n] w fun e w' => e = .returned (.bool (okB f n)) ∧ w' = w := by
  by_cases h1 : lo f ≤ n
  · go_enter Try.func27, Try.ntmps27
    go_wp2_with (go_at_call 31; refine (limits_any f hf _).mono ?_; rintro e w' ⟨rfl, rfl⟩)
    go_ret
    exact ⟨by simp [okB, h1], rfl⟩
  · have h1' : decide (lo f ≤ n) = false := by simpa using h1
    go_enter Try.func27, Try.ntmps27
    go_wp2_with (go_at_call 31; refine (limits_any f hf _).mono ?_; rintro e w' ⟨rfl, rfl⟩)
    go_ret
    exact ⟨by simp [okB, h1'], rfl⟩

set_option maxHeartbeats 400000 in
theorem of_any (f : Nat) (hf : f < 9) (b : Nat) (w : World) :
    Calls Try.prog 26 #[.int .i64 f, .pointer (some ⟨b, 0, none⟩)] w fun e w' => e = .returned (.pointer (some ⟨b, off f, none⟩)) ∧ w' = w := by
  rcases lt9 hf with rfl | rfl | rfl | rfl | rfl | rfl | rfl | rfl | rfl
  all_goals
    go_enter Try.func26, Try.ntmps26
    go_wp2
    go_ret
    exact ⟨rfl, rfl⟩

end Go.Proofs.Ytalncjhldkcmaaa
