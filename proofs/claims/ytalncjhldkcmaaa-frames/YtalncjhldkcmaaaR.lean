/- firnlaw's Frames, walked: it is true at every command, every frame and every reply. -/
import Derived.Test.YtalncjhldkcmaaaP
import Derived.Test.YtalncjhldkcmaaaQ
import Derived.Test.YtalncjhldkcmaaaU
namespace Go.Proofs.Ytalncjhldkcmaaa
open Go.RowKit

set_option maxHeartbeats 1000000 in
theorem sameInts_any (a b : Value) (zs : List Int) (w : World) (ha : IntsIn w a zs) (hb : IntsIn w b zs) (hn : zs.length < 1000000) :
    Calls Try.prog 12 #[a, b] w fun e w' => e = .returned (.bool true) ∧ ∃ n, w' = w.drewN n := by
  obtain ⟨oa, ca, rfl, hca⟩ := ha.parts
  obtain ⟨ob, cb, rfl, hcb⟩ := hb.parts
  have HA := hid hca
  have HB := hid hcb
  clear hca hcb ha hb
  go_enter Try.func12, Try.ntmps12
  go_wp2_with fail
  go_loopw [5] (fun i wr => ∃ k nd : Nat, k ≤ zs.length ∧ i = .int .i64 k ∧ wr = w.drewN nd) (fun i _ => zs.length - (intOf i).toNat)
  case atStart => exact ⟨0, 0, Nat.zero_le _, rfl, rfl⟩
  case round =>
    obtain ⟨k, nd, hk, rfl, rfl⟩ := hrel
    by_cases hlt : k < zs.length
    · obtain ⟨pa, rfl, _, hpa⟩ := HA.out k hlt
      obtain ⟨pb, rfl, _, hpb⟩ := HB.out k hlt
      generalize zs[k] = z at *
      have hlt' : (k : Int) < (zs.length : Int) := by omega
      go_wp2_with fail
      go_quiet (fail)
      go_wp2
      go_roundw
      case rel => exact ⟨k + 1, _, by omega, by go_num, rfl⟩
      case measure => simp [intOf]; omega
    · go_wp2
      go_ret
      exact ⟨rfl, _, rfl⟩

set_option maxHeartbeats 400000 in
theorem num_any (n : Int) (w : World) : Calls Try.prog 13 #[.int .i64 n] w fun e w' => e = .returned (.int .i64 n) ∧ w' = w := by
  go_enter Try.func13, Try.ntmps13
  go_wp2
  go_ret
  exact ⟨rfl, rfl⟩

set_option maxHeartbeats 400000 in
theorem use_any (w : World) : Calls Try.prog 5 #[] w fun e w' => e = .returned (.bool true) ∧ Below w.heap.size w w' := by
  go_enter Try.func5, Try.ntmps5
  go_wp2_with (go_at_call 6; refine (encode_use _).mono ?_; rintro e w1 ⟨rfl, hb1⟩)
  go_ret
  exact ⟨rfl, hb1⟩

theorem numsL_len (l : List UInt8) : (numsL l).length < 1000000 := by
  unfold numsL
  split
  · rw [List.length_map, List.length_range]
    unfold cnt
    have := byte_lt (l.getD 1 0); have := byte_lt (l.getD 2 0); omega
  · simp

set_option maxHeartbeats 1000000 in
theorem frames_any (c : Nat → Int) (s r : ByteArray) (w : World) (hs : s.size ≤ maxLen) (hr : r.size ≤ maxLen) :
    Calls Try.prog 3 #[.agg #[.int .i64 (c 0), .int .i64 (c 1), .int .i64 (c 2), .int .i64 (c 3), .int .i64 (c 4), .int .i64 (c 5), .int .i64 (c 6), .int .i64 (c 7), .int .i64 (c 8)], .string s, .string r] w fun e w' => e = .returned (.bool true) ∧ Below w.heap.size w w' := by
  have hC0 := Has.new w 23 c
  have hB0 := (Below.refl w.heap.size w).alloc (Nat.le_refl _) (.cells #[.int .i64 (c 0), .int .i64 (c 1), .int .i64 (c 2), .int .i64 (c 3), .int .i64 (c 4), .int .i64 (c 5), .int .i64 (c 6), .int .i64 (c 7), .int .i64 (c 8)] 23)
  go_enter Try.func3, Try.ntmps3
  go_wp2_with fail
  refine (use_any _).mono ?_
  rintro e w1 ⟨rfl, hb1⟩
  have hC1 := hC0.below hb1 (by simp)
  have hB1 := hB0.trans (hb1.mono (by simp))
  have hz1 : w.heap.size < w1.heap.size := by have := hb1.size; simp at this; omega
  clear hC0 hB0 hb1
  have c0 := hC1.1 0 (by omega)
  have c1 := hC1.1 1 (by omega)
  have c2 := hC1.1 2 (by omega)
  have c3 := hC1.1 3 (by omega)
  have c4 := hC1.1 4 (by omega)
  have c5 := hC1.1 5 (by omega)
  have c6 := hC1.1 6 (by omega)
  have c7 := hC1.1 7 (by omega)
  have c8 := hC1.1 8 (by omega)
  go_wp2_with fail
  refine (encodeF_any c _).mono ?_
  rintro e w2 ⟨rfl, hb2⟩
  clear c0 c1 c2 c3 c4 c5 c6 c7 c8
  have hC2 := hC1.below hb2 hz1
  have hB2 := hB1.trans (hb2.mono (Nat.le_of_lt hz1))
  have hz2 : w.heap.size < w2.heap.size := by have := hb2.size; omega
  clear hC1 hB1 hb2 hz1
  have c0 := hC2.1 0 (by omega)
  have c1 := hC2.1 1 (by omega)
  have c2 := hC2.1 2 (by omega)
  have c3 := hC2.1 3 (by omega)
  have c4 := hC2.1 4 (by omega)
  have c5 := hC2.1 5 (by omega)
  have c6 := hC2.1 6 (by omega)
  have c7 := hC2.1 7 (by omega)
  have c8 := hC2.1 8 (by omega)
  go_wp2_with fail
  refine (refEncode_any c _).mono ?_
  rintro e w3 ⟨rfl, hb3⟩
  clear c0 c1 c2 c3 c4 c5 c6 c7 c8
  have hB3 := hB2.trans (hb3.mono (Nat.le_of_lt hz2))
  have hz3 : w.heap.size < w3.heap.size := by have := hb3.size; omega
  clear hC2 hB2 hb3 hz2
  generalize (⟨(encS c).toArray⟩ : ByteArray) = es
  generalize encE c = ee
  go_wp2_with fail
  refine (decodeF_any s _ hs).mono ?_
  rintro e w4 ⟨rfl, hb4⟩
  have hB4 := hB3.trans (hb4.mono (Nat.le_of_lt hz3))
  have hz4 : w.heap.size < w4.heap.size := by have := hb4.size; omega
  clear hB3 hb4 hz3
  generalize hd : decC s.data.toList = d
  generalize he : decE s.data.toList = de
  have HD := hid hd
  have HE := hid he
  clear hd he
  have hDn := Has.new w4 23 d
  have hB5 := hB4.alloc (Nat.le_of_lt hz4) (.cells #[.int .i64 (d 0), .int .i64 (d 1), .int .i64 (d 2), .int .i64 (d 3), .int .i64 (d 4), .int .i64 (d 5), .int .i64 (d 6), .int .i64 (d 7), .int .i64 (d 8)] 23)
  go_wp2_with fail
  refine (refDecode_any s _ hs).mono ?_
  rintro e w5 ⟨rfl, hb5⟩
  rw [HD.out, HE.out]
  have hD5 := hDn.below hb5 (by simp)
  have hB6 := hB5.trans (hb5.mono (by simp; omega))
  have hz5 : w4.heap.size < w5.heap.size := by have := hb5.size; simp at this; omega
  clear hB4 hB5 hb5 hDn
  have hE6 := Has.new w5 23 d
  have hD6 := hD5.alloc hz5 (.cells #[.int .i64 (d 0), .int .i64 (d 1), .int .i64 (d 2), .int .i64 (d 3), .int .i64 (d 4), .int .i64 (d 5), .int .i64 (d 6), .int .i64 (d 7), .int .i64 (d 8)] 23)
  have hB7 := hB6.alloc (by omega) (.cells #[.int .i64 (d 0), .int .i64 (d 1), .int .i64 (d 2), .int .i64 (d 3), .int .i64 (d 4), .int .i64 (d 5), .int .i64 (d 6), .int .i64 (d 7), .int .i64 (d 8)] 23)
  clear hD5 hB6
  go_wp2_with fail
  refine (numbersF_any r _ hr).mono ?_
  rintro e w7 ⟨v1, rfl, hv1, hb7⟩
  have hD7 := hD6.below hb7 (by simp; omega)
  have hE7 := hE6.below hb7 (by simp)
  have hB8 := hB7.trans (hb7.mono (by simp; omega))
  have hz7 : w5.heap.size < w7.heap.size := by have := hb7.size; simp at this; omega
  clear hD6 hE6 hB7 hb7
  have hNL := numsL_len r.data.toList
  generalize hnl : numsL r.data.toList = zl at *
  generalize hnt : numsT r.data.toList = zt at *
  generalize hne : numsE r.data.toList = ze at *
  have HN := hid (And.intro hnl (And.intro hnt hne))
  clear hnl hnt hne
  go_wp2_with fail
  refine (refNumbers_any r _ hr).mono ?_
  rintro e w8 ⟨v2, rfl, hv2, hb8⟩
  rw [HN.out.1] at hv2
  rw [HN.out.2.1, HN.out.2.2]
  have hD8 := hD7.below hb8 (by omega)
  have hE8 := hE7.below hb8 hz7
  have hB9 := hB8.trans (hb8.mono (by omega))
  have hv1' := hv1.below hb8 (Nat.le_refl _)
  clear hD7 hE7 hB8 hb8 hv1
  go_wp2_with fail
  refine (sameInts_any v1 v2 zl _ hv1' hv2 hNL).mono ?_
  rintro e w9 ⟨rfl, nd, rfl⟩
  have a0 := hD8.1 0 (by omega)
  have a1 := hD8.1 1 (by omega)
  have a2 := hD8.1 2 (by omega)
  have a3 := hD8.1 3 (by omega)
  have a4 := hD8.1 4 (by omega)
  have a5 := hD8.1 5 (by omega)
  have a6 := hD8.1 6 (by omega)
  have a7 := hD8.1 7 (by omega)
  have a8 := hD8.1 8 (by omega)
  have b0 := hE8.1 0 (by omega)
  have b1 := hE8.1 1 (by omega)
  have b2 := hE8.1 2 (by omega)
  have b3 := hE8.1 3 (by omega)
  have b4 := hE8.1 4 (by omega)
  have b5 := hE8.1 5 (by omega)
  have b6 := hE8.1 6 (by omega)
  have b7 := hE8.1 7 (by omega)
  have b8 := hE8.1 8 (by omega)
  go_wp2_with (go_at_call 13; refine (num_any _ _).mono ?_; rintro e w' ⟨rfl, rfl⟩)
  go_ret
  exact ⟨rfl, below_drewN hB9 _⟩

end Go.Proofs.Ytalncjhldkcmaaa
