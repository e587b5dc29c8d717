/- The program's own calls Encode and Numbers, out of package wire's; and firnkeep's comparison of two lists. -/
import Derived.Test.YtalncjhldkcmaaaF
import Derived.Test.YtalncjhldkcmaaaG
namespace Go.Proofs.Ytalncjhldkcmaaa
open Go.RowKit

set_option maxHeartbeats 400000 in
theorem encodeF_any (c : Nat → Int) (w : World) :
    Calls Try.prog 6 #[.agg #[.int .i64 (c 0), .int .i64 (c 1), .int .i64 (c 2), .int .i64 (c 3), .int .i64 (c 4), .int .i64 (c 5), .int .i64 (c 6), .int .i64 (c 7), .int .i64 (c 8)]] w fun e w' => e = .returned (.tuple #[.string ⟨(encS c).toArray⟩, .int .i64 (encE c)]) ∧ Below w.heap.size w w' := by
  go_enter Try.func6, Try.ntmps6
  go_wp2_with (go_at_call 15; refine (encode_any c _).mono ?_; rintro e w' ⟨rfl, hb⟩)
  go_ret2
  exact ⟨rfl, ((Below.refl _ _).alloc (Nat.le_refl _) _).trans (hb.mono (by simp))⟩

set_option maxHeartbeats 400000 in
theorem numbersF_any (s : ByteArray) (w : World) (hs : s.size ≤ maxLen) :
    Calls Try.prog 10 #[.string s] w fun e w' => ∃ v, e = .returned (.tuple #[v, .int .i64 (numsT s.data.toList), .int .i64 (numsE s.data.toList)]) ∧ IntsIn w' v (numsL s.data.toList) ∧ Below w.heap.size w w' := by
  go_enter Try.func10, Try.ntmps10
  go_wp2_with (go_at_call 23; refine (wnums_any s _ hs).mono ?_; rintro e w' ⟨v, rfl, hi, hb⟩)
  go_ret3
  exact ⟨_, rfl, hi, hb⟩

set_option maxHeartbeats 1000000 in
theorem same_any (a b : Value) (zs : List Int) (w : World) (ha : IntsIn w a zs) (hb : IntsIn w b zs) (hn : zs.length < 1000000) :
    Calls Try.prog 24 #[a, b] w fun e w' => e = .returned (.bool true) ∧ ∃ n, w' = w.drewN n := by
  obtain ⟨oa, ca, rfl, hca⟩ := ha.parts
  obtain ⟨ob, cb, rfl, hcb⟩ := hb.parts
  have HA := hid hca
  have HB := hid hcb
  clear hca hcb ha hb
  go_enter Try.func24, Try.ntmps24
  go_wp2_with fail
  go_loopw [5] (fun i wr => ∃ k nd : Nat, k ≤ zs.length ∧ i = .int .i64 k ∧ wr = w.drewN nd) (fun i _ => zs.length - (intOf i).toNat)
  case atStart => exact ⟨0, 0, Nat.zero_le _, rfl, rfl⟩
  case round =>
    obtain ⟨k, nd, hk, rfl, rfl⟩ := hrel
    by_cases hlt : k < zs.length
    · obtain ⟨pa, rfl, _, hpa⟩ := HA.out k hlt
      obtain ⟨pb, rfl, _, hpb⟩ := HB.out k hlt
      generalize zs[k] = z at *
      have hlt' : (k : Int) < (zs.length : Int) := by omega
      go_wp2_with fail
      go_quiet (fail)
      go_wp2
      go_roundw
      case rel => exact ⟨k + 1, _, by omega, by go_num, rfl⟩
      case measure => simp [intOf]; omega
    · go_wp2
      go_ret
      exact ⟨rfl, _, rfl⟩

end Go.Proofs.Ytalncjhldkcmaaa
