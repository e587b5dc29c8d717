/- firnkeep's coding, the document's first example: it is true. -/
import Derived.Test.YtalncjhldkcmaaaU
import Derived.Test.YtalncjhldkcmaaaM
namespace Go.Proofs.Ytalncjhldkcmaaa
open Go.RowKit

theorem use_nums : numsL [0, 0, 2, 0, 0, 0, 5, 0, 0, 0, 6] = [5, 6] ∧ numsT [0, 0, 2, 0, 0, 0, 5, 0, 0, 0, 6] = 0 ∧ numsE [0, 0, 2, 0, 0, 0, 5, 0, 0, 0, 6] = 0 := by decide +kernel

theorem numbers_use (w : World) :
    Calls Try.prog 10 #[.string ⟨#[0, 0, 2, 0, 0, 0, 5, 0, 0, 0, 6]⟩] w fun e w' => ∃ v, e = .returned (.tuple #[v, .int .i64 0, .int .i64 0]) ∧ IntsIn w' v [5, 6] ∧ Below w.heap.size w w' := by
  refine (numbersF_any ⟨#[0, 0, 2, 0, 0, 0, 5, 0, 0, 0, 6]⟩ w (by unfold maxLen; decide)).mono ?_
  rintro e w' ⟨v, rfl, hi, hb⟩
  rw [use_nums.2.1, use_nums.2.2]
  rw [use_nums.1] at hi
  exact ⟨v, rfl, hi, hb⟩

theorem ints_newI (w : World) : IntsIn (w.alloc (.cells #[.int .i64 5, .int .i64 6] 3)) (.slice (some ⟨w.heap.size, 0, none⟩) 2 2) [5, 6] := by
  refine .inl ⟨w.heap.size, 2, rfl, by simp, fun i hi => ?_⟩
  rw [World.cell?_alloc_new]
  match i, hi with
  | 0, _ => rfl
  | 1, _ => rfl
  | n + 2, h => simp at h; omega

set_option maxHeartbeats 400000 in
theorem coding_any (w : World) :
    Calls Try.prog 14 #[] w fun e w' => e = .returned (.bool true) ∧ Below w.heap.size w w' := by
  go_enter Try.func14, Try.ntmps14
  go_wp2_with (first
    | (go_at_call 6; refine (encode_use _).mono ?_; rintro e w1 ⟨rfl, hb1⟩)
    | (go_at_call 10; refine (numbers_use _).mono ?_; rintro e w2 ⟨v, rfl, hi, hb2⟩)
    | (go_at_call 24; refine (same_any _ _ [5, 6] _ (hi.below ((Below.refl _ _).alloc (Nat.le_refl _) _) (Nat.le_refl _)) (ints_newI _) (by simp)).mono ?_; rintro e w3 ⟨rfl, nd, rfl⟩))
  go_ret
  refine ⟨rfl, below_drewN ((hb1.trans (hb2.mono hb1.size)).alloc ?_ _) _⟩
  have := hb1.size
  have := hb2.size
  omega

end Go.Proofs.Ytalncjhldkcmaaa
