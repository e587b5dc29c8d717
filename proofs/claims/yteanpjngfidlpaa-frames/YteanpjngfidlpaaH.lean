/- The program's own calls Encode, Decode and Numbers, out of package wire's; and firnkeep's comparison of two lists. -/
import Derived.Test.YteanpjngfidlpaaG
namespace Go.Proofs.Yteanpjngfidlpaa
open Go.RowKit

theorem IntsIn.parts {w : World} {v : Value} {zs : List Int} (h : IntsIn w v zs) : ∃ oa cap, v = .slice oa zs.length cap ∧ ∀ i (h : i < zs.length), ∃ b, oa = some ⟨b, 0, none⟩ ∧ b < w.heap.size ∧ w.cell? ⟨b, i, none⟩ = some (.int .i64 zs[i]) := by
  rcases h with ⟨b, cap, rfl, hb, hc⟩ | ⟨rfl, rfl⟩
  · exact ⟨_, cap, rfl, fun i hi => ⟨b, rfl, hb, hc i hi⟩⟩
  · exact ⟨none, 0, rfl, fun i hi => by simp at hi⟩

theorem IntsIn.below {w w' : World} {B : Nat} {v : Value} {zs : List Int} (h : IntsIn w v zs) (hb : Below B w w') (hB : w.heap.size ≤ B) : IntsIn w' v zs := by
  rcases h with ⟨b, cap, rfl, hl, hc⟩ | ⟨rfl, rfl⟩
  · exact .inl ⟨b, cap, rfl, by have := hb.size; omega, fun i hi => (hb.cell (by show b < B; omega)).trans (hc i hi)⟩
  · exact .inr ⟨rfl, rfl⟩

set_option maxHeartbeats 400000 in
theorem encodeF_any (c : Nat → Int) (w : World) :
    Calls Try.prog 6 #[.agg #[.int .i64 (c 0), .int .i64 (c 1), .int .i64 (c 2), .int .i64 (c 3), .int .i64 (c 4), .int .i64 (c 5), .int .i64 (c 6), .int .i64 (c 7), .int .i64 (c 8)]] w fun e w' => e = .returned (.tuple #[.string ⟨(encS c).toArray⟩, .int .i64 (encE c)]) ∧ Below w.heap.size w w' := by
  go_enter Try.func6, Try.ntmps6
  go_wp2_with (go_at_call 15; refine (encode_any c _).mono ?_; rintro e w' ⟨rfl, hb⟩)
  go_ret2
  exact ⟨rfl, ((Below.refl _ _).alloc (Nat.le_refl _) _).trans (hb.mono (by simp))⟩

set_option maxHeartbeats 400000 in
theorem numbersF_any (s : ByteArray) (w : World) (hs : s.size ≤ maxLen) :
    Calls Try.prog 10 #[.string s] w fun e w' => ∃ v, e = .returned (.tuple #[v, .int .i64 (numsT s.data.toList), .int .i64 (numsE s.data.toList)]) ∧ IntsIn w' v (numsL s.data.toList) ∧ Below w.heap.size w w' := by
  go_enter Try.func10, Try.ntmps10
  go_wp2_with (go_at_call 23; refine (numbers_any s _ hs).mono ?_; rintro e w' ⟨v, rfl, hi, hb⟩)
  go_ret3
  exact ⟨_, rfl, hi, hb⟩

set_option maxHeartbeats 400000 in
theorem decodeF_any (s : ByteArray) (w : World) (hs : s.size ≤ maxLen) :
    Calls Try.prog 8 #[.string s] w fun e w' => e = .returned (.tuple #[.agg #[.int .i64 (decC s.data.toList 0), .int .i64 (decC s.data.toList 1), .int .i64 (decC s.data.toList 2), .int .i64 (decC s.data.toList 3), .int .i64 (decC s.data.toList 4), .int .i64 (decC s.data.toList 5), .int .i64 (decC s.data.toList 6), .int .i64 (decC s.data.toList 7), .int .i64 (decC s.data.toList 8)], .int .i64 (decE s.data.toList)]) ∧ Below w.heap.size w w' := by
  have hZ := (Has.newK w 23 0).congr (d := zero9) (fun j _ => by simp [base, zero9])
  have hB0 := (Below.refl w.heap.size w).alloc (Nat.le_refl _) (.cells #[.int .i64 0, .int .i64 0, .int .i64 0, .int .i64 0, .int .i64 0, .int .i64 0, .int .i64 0, .int .i64 0, .int .i64 0] 23)
  go_enter Try.func8, Try.ntmps8
  go_wp2_with fail
  refine (decode_any s _ hs).mono ?_
  rintro e w' ⟨rfl, hb⟩
  have hZ2 := hZ.below hb (by simp)
  have hB2 := hB0.trans (hb.mono (by simp))
  clear hZ hB0 hb
  generalize hd : decC s.data.toList = d at *
  generalize he : decE s.data.toList = de at *
  have HE := hid (And.intro hd he)
  clear hd he
  have z0 := hZ2.1 0 (by omega)
  have z1 := hZ2.1 1 (by omega)
  have z2 := hZ2.1 2 (by omega)
  have z3 := hZ2.1 3 (by omega)
  have z4 := hZ2.1 4 (by omega)
  have z5 := hZ2.1 5 (by omega)
  have z6 := hZ2.1 6 (by omega)
  have z7 := hZ2.1 7 (by omega)
  have z8 := hZ2.1 8 (by omega)
  have zf := hZ2.2
  simp only [zero9] at z0 z1 z2 z3 z4 z5 z6 z7 z8
  go_wp2
  have hZ' := hZ2.put9 d
  have hB' := Below.put9 hB2 (Nat.le_refl _) d
  change bodyPost _ _ _ _ _ (put9 w' w.heap.size d)
  generalize put9 w' w.heap.size d = w9 at hZ' hB' ⊢
  have y0 := hZ'.1 0 (by omega)
  have y1 := hZ'.1 1 (by omega)
  have y2 := hZ'.1 2 (by omega)
  have y3 := hZ'.1 3 (by omega)
  have y4 := hZ'.1 4 (by omega)
  have y5 := hZ'.1 5 (by omega)
  have y6 := hZ'.1 6 (by omega)
  have y7 := hZ'.1 7 (by omega)
  have y8 := hZ'.1 8 (by omega)
  exact bodyPost_ret (v := .tuple #[.agg #[.int .i64 (d 0), .int .i64 (d 1), .int .i64 (d 2), .int .i64 (d 3), .int .i64 (d 4), .int .i64 (d 5), .int .i64 (d 6), .int .i64 (d 7), .int .i64 (d 8)], .int .i64 de]) (by simp [results, Try.results8, go_sem, y0, y1, y2, y3, y4, y5, y6, y7, y8]) rfl ⟨ret_dec HE.out, hB'⟩

set_option maxHeartbeats 1000000 in
theorem same_any (a b : Value) (zs : List Int) (w : World) (ha : IntsIn w a zs) (hb : IntsIn w b zs) (hn : zs.length < 1000000) :
    Calls Try.prog 24 #[a, b] w fun e w' => e = .returned (.bool true) ∧ ∃ n, w' = w.drewN n := by
  obtain ⟨oa, ca, rfl, hca⟩ := ha.parts
  obtain ⟨ob, cb, rfl, hcb⟩ := hb.parts
  have HA := hid hca
  have HB := hid hcb
  clear hca hcb ha hb
  go_enter Try.func24, Try.ntmps24
  go_wp2_with fail
  go_loopw [5] (fun i wr => ∃ k nd : Nat, k ≤ zs.length ∧ i = .int .i64 k ∧ wr = w.drewN nd) (fun i _ => zs.length - (intOf i).toNat)
  case atStart => exact ⟨0, 0, Nat.zero_le _, rfl, rfl⟩
  case round =>
    obtain ⟨k, nd, hk, rfl, rfl⟩ := hrel
    by_cases hlt : k < zs.length
    · obtain ⟨pa, rfl, _, hpa⟩ := HA.out k hlt
      obtain ⟨pb, rfl, _, hpb⟩ := HB.out k hlt
      generalize zs[k] = z at *
      have hlt' : (k : Int) < (zs.length : Int) := by omega
      go_wp2_with fail
      go_quiet (fail)
      go_wp2
      go_roundw
      case rel => exact ⟨k + 1, _, by omega, by go_num, rfl⟩
      case measure => simp [intOf]; omega
    · go_wp2
      go_ret
      exact ⟨rfl, _, rfl⟩

end Go.Proofs.Yteanpjngfidlpaa
