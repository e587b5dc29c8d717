/- What Numbers of package wire returns. -/
import Derived.Test.YtalncjhldkcmaaaG0
namespace Go.Proofs.Ytalncjhldkcmaaa
open Go.RowKit

set_option maxHeartbeats 400000 in
theorem numbers_short (s : ByteArray) (w : World) (h3 : s.size < 3) :
    Calls Try.prog 23 #[.string s] w fun e w' => ∃ v, e = .returned (.tuple #[v, .int .i64 (numsT s.data.toList), .int .i64 (numsE s.data.toList)]) ∧ IntsIn w' v (numsL s.data.toList) ∧ Below w.heap.size w w' := by
  have hE := hid (nums_bad s.data.toList (by unfold numsB; simp [show ¬ 3 ≤ s.size by omega]))
  go_enter Try.func23, Try.ntmps23
  go_wp2
  go_ret3
  exact ⟨_, ret_nums hE.out.2, .inr ⟨rfl, hE.out.1⟩, Below.refl _ _⟩

set_option maxRecDepth 8000 in
set_option maxHeartbeats 1000000 in
theorem numbers_long (s : ByteArray) (w : World) (hs : s.size ≤ maxLen) (h3 : 3 ≤ s.size) (n0 n1 n2 c : Nat) (e0 : s[0].toNat = n0) (e1 : s[1].toNat = n1) (e2 : s[2].toNat = n2)
    (b0 : n0 < 256) (b1 : n1 < 256) (b2 : n2 < 256) (hc : bits BinOp.or IntKind.i64 ((n1 : Int) * 256) (n2 : Int) = (c : Int)) (hcb : c < 65536)
    (hbad : (¬ n0 ≤ 10 ∨ ¬ s.size = 3 + 4 * c ∨ okN (s.extract 3 s.size).data.toList c = false) → numsL s.data.toList = [] ∧ numsT s.data.toList = 0 ∧ numsE s.data.toList = 1)
    (hgood : n0 ≤ 10 → s.size = 3 + 4 * c → okN (s.extract 3 s.size).data.toList c = true → numsL s.data.toList = (List.range c).map (fun i => ((numB (s.extract 3 s.size).data.toList (4 * i) : Nat) : Int)) ∧ numsT s.data.toList = n0 ∧ numsE s.data.toList = 0) :
    Calls Try.prog 23 #[.string s] w fun e w' => ∃ v, e = .returned (.tuple #[v, .int .i64 (numsT s.data.toList), .int .i64 (numsE s.data.toList)]) ∧ IntsIn w' v (numsL s.data.toList) ∧ Below w.heap.size w w' := by
  unfold maxLen at hs
  obtain ⟨i0, hi, hz0, hz1, hz2⟩ := info_parts Try.infoInt
  have HBad := hid hbad
  have HGood := hid hgood
  clear hbad hgood
  have g0 : 0 < s.size := by omega
  have g1 : (1 : Int) < (s.size : Int) := by omega
  have g2 : (2 : Int) < (s.size : Int) := by omega
  have g3 : (3 : Int) ≤ (s.size : Int) := by omega
  have g13 : decide ((s.size : Int) < 3) = false := by simp; omega
  by_cases h10 : n0 ≤ 10
  · have h10' : (n0 : Int) ≤ 10 := by omega
    have g10 : decide ((10 : Int) < (n0 : Int)) = false := by simp; omega
    by_cases hlen : s.size = 3 + 4 * c
    · have hlt : (((s.size - 3 : Nat) : Int) != (c : Int) * 4) = false := by rw [bne_eq_false_iff_eq]; omega
      have HBad2 := hid (fun h => HBad.out (.inr (.inr h)))
      have HGood2 := hid (HGood.out h10 hlen)
      have hsz : (s.extract 3 s.size).size + 3 = s.size := by simp; omega
      have hsz4 : 4 * c ≤ (s.extract 3 s.size).size := by omega
      have hsz5 : (s.extract 3 s.size).size < 300000 := by omega
      clear HBad HGood hlen hsz
      go_enter Try.func23, Try.ntmps23
      go_wp2_with fail
      go_quiet (fail)
      go_wp2_with fail
      go_quiet (fail)
      go_wp2_with (at_make; refine wpList_make_full _ rfl _ _ 30 rfl w.heap.size 3 i0 (.int .i64 0) 1 Try.underlying30 hi hz0 hz1 .i64 .i64 _ _ c rfl rfl rfl rfl (by rw [hz2]; omega) (by unfold maxLen; omega) (by simp) ?_; intro w0 hown0 hgrow0)
      generalize s.extract 3 s.size = t at *
      have hN := (own_hasN hown0).congr (fun j => numsG_zero t.data.toList j)
      have hsz0 : w.heap.size < w0.heap.size := by have := hown0.lt w.heap.size rfl; omega
      have hB0 : Below w.heap.size w w0 := Below.grown (below_drewN (Below.refl _ _) _) hgrow0 (by simp) (fun k hk => by cases hk)
      clear hown0 hgrow0
      go_wp2_with fail
      go_loopw [40] (fun i wr => ∃ m : Nat, m ≤ c ∧ i = .int .i64 m ∧ HasN wr w.heap.size c (numsG t.data.toList m) ∧ Below w.heap.size w wr ∧ okN t.data.toList m = true ∧ w.heap.size < wr.heap.size)
        (fun i _ => c - (intOf i).toNat)
      case atStart => exact ⟨0, Nat.zero_le _, rfl, hN, hB0, rfl, hsz0⟩
      case round =>
        clear hN hB0 hsz0
        obtain ⟨m, hm, rfl, hN, hbel, hok, hsz⟩ := hrel
        have HOK := hid hok
        clear hok
        by_cases hlt : m < c
        · have hnl := numB_lt t.data.toList (4 * m)
          have hco := hN.1 m hlt
          have hfz := hN.2 m
          by_cases hb : numB t.data.toList (4 * m) ≤ 1000000
          · have hst := hid (okN_step t.data.toList m HOK.out hb)
            have HS := hid (fun j => numsG_step t.data.toList m j)
            have hb' : ((numB t.data.toList (4 * m) : Nat) : Int) ≤ 1000000 := by omega
            go_wp2_with (go_at_call 30; refine (numberAt_any t m _ (by unfold maxLen; omega) (by omega)).mono ?_; rintro e w' ⟨rfl, nd, rfl⟩)
            go_roundw
            case rel => exact ⟨m + 1, by omega, by go_num, ((hN.drewN nd).set hlt _).congr HS.out, (below_drewN hbel nd).setCell (by simp) _, hst.out, by simpa using hsz⟩
            case measure => simp [intOf]; omega
          · have hE := hid (HBad2.out (okN_bad t.data.toList m c hlt hb))
            have hb' : (1000000 : Int) < ((numB t.data.toList (4 * m) : Nat) : Int) := by omega
            go_wp2_with (go_at_call 30; refine (numberAt_any t m _ (by unfold maxLen; omega) (by omega)).mono ?_; rintro e w' ⟨rfl, nd, rfl⟩)
            go_ret3
            exact ⟨_, ret_nums hE.out.2, .inr ⟨rfl, hE.out.1⟩, below_drewN hbel nd⟩
        · have hme : m = c := by omega
          subst hme
          have hE := hid (HGood2.out HOK.out)
          go_wp2
          go_ret3
          exact ⟨_, ret_nums hE.out.2, ints_of_hasN hN hsz hE.out.1, hbel⟩
    · have hlt : (((s.size - 3 : Nat) : Int) != (c : Int) * 4) = true := by rw [bne_iff_ne]; omega
      have hE := hid (HBad.out (.inr (.inl hlen)))
      clear hlen
      go_enter Try.func23, Try.ntmps23
      go_wp2_with fail
      go_quiet (fail)
      go_wp2_with fail
      go_quiet (fail)
      go_wp2
      go_ret3
      exact ⟨_, ret_nums hE.out.2, .inr ⟨rfl, hE.out.1⟩, below_drewN (Below.refl _ _) _⟩
  · have h10' : (10 : Int) < (n0 : Int) := by omega
    have hE := hid (HBad.out (.inl h10))
    clear h10
    go_enter Try.func23, Try.ntmps23
    go_wp2_with fail
    go_quiet (fail)
    go_wp2_with fail
    go_quiet (fail)
    go_wp2
    go_ret3
    exact ⟨_, ret_nums hE.out.2, .inr ⟨rfl, hE.out.1⟩, below_drewN (Below.refl _ _) _⟩

theorem drop3 (s : ByteArray) : (s.extract 3 s.size).data.toList = s.data.toList.drop 3 := by
  simp [ByteArray.data_extract, List.take_of_length_le]

theorem wnums_any (s : ByteArray) (w : World) (hs : s.size ≤ maxLen) :
    Calls Try.prog 23 #[.string s] w fun e w' => ∃ v, e = .returned (.tuple #[v, .int .i64 (numsT s.data.toList), .int .i64 (numsE s.data.toList)]) ∧ IntsIn w' v (numsL s.data.toList) ∧ Below w.heap.size w w' := by
  by_cases h3 : 3 ≤ s.size
  · have e1 := getD_bytes s 1 (by omega)
    have e2 := getD_bytes s 2 (by omega)
    have e0 := getD_bytes s 0 (by omega)
    have hl : s.data.toList.length = s.size := by simp
    have hcn : cnt s.data.toList = s[1].toNat * 256 + s[2].toNat := by unfold cnt; rw [e1, e2]
    have q1 := byte_lt s[1]
    have q2 := byte_lt s[2]
    refine numbers_long s w hs h3 s[0].toNat s[1].toNat s[2].toNat (s[1].toNat * 256 + s[2].toNat) rfl rfl rfl (byte_lt _) q1 q2 (or2 _ _ q1 q2) (by omega) ?_ ?_
    · intro h
      refine nums_bad _ ?_
      unfold numsB
      rw [hcn, hl, e0, ← drop3 s]
      rcases h with h | h | h
      · simp [h]
      · simp [h]
      · rw [h]; simp
    · intro h1 h2 h4
      have := nums_good s.data.toList (by
        unfold numsB
        rw [hcn, hl, e0, ← drop3 s, h4, ← h2]; simp [h1, h3])
      rw [hcn, e0, ← drop3 s] at this
      exact this
  · exact numbers_short s w (by omega)

end Go.Proofs.Ytalncjhldkcmaaa
