/- What firnref's Numbers returns: the same as the program's own. -/
import Derived.Test.YtalncjhldkcmaaaO
import Derived.Test.YtalncjhldkcmaaaH
import Derived.Test.YtalncjhldkcmaaaV
namespace Go.Proofs.Ytalncjhldkcmaaa
open Go.RowKit

def zsTo (t : List UInt8) (m : Nat) : List Int := (List.range m).map fun i => ((numB t (4 * i) : Nat) : Int)
theorem zsTo_len (t : List UInt8) (m : Nat) : (zsTo t m).length = m := by simp [zsTo]
theorem zsTo_step (t : List UInt8) (m : Nat) : zsTo t (m + 1) = zsTo t m ++ [((numB t (4 * m) : Nat) : Int)] := by simp [zsTo, List.range_succ]
theorem numB_drop (l : List UInt8) (i j : Nat) : numB (l.drop i) j = numB l (i + j) := by
  simp [numB, List.getD_eq_getElem?_getD, List.getElem?_drop, Nat.add_assoc]

set_option maxHeartbeats 400000 in
theorem refNumbers_short (s : ByteArray) (w : World) (h3 : s.size < 3) :
    Calls Try.prog 11 #[.string s] w fun e w' => ∃ v, e = .returned (.tuple #[v, .int .i64 (numsT s.data.toList), .int .i64 (numsE s.data.toList)]) ∧ IntsIn w' v (numsL s.data.toList) ∧ Below w.heap.size w w' := by
  have hE := hid (nums_bad s.data.toList (by unfold numsB; simp [show ¬ 3 ≤ s.size by omega]))
  have h3' : (s.size : Int) < 3 := by omega
  go_enter Try.func11, Try.ntmps11
  go_wp2
  go_ret3
  exact ⟨_, ret_nums hE.out.2, .inr ⟨rfl, hE.out.1⟩, Below.refl _ _⟩

set_option maxHeartbeats 1000000 in
theorem refNumbers_long (s : ByteArray) (w : World) (hs : s.size ≤ maxLen) (h3 : 3 ≤ s.size) (n0 c : Nat) (e0 : s[0].toNat = n0)
    (b0 : n0 < 256) (hc : natOf (s.extract 1 3).data.toList = c) (hcb : c < 65536) (tl : List UInt8) (htl : ∀ m, 3 + 4 * m + 4 ≤ s.size → natOf (s.extract (3 + 4 * m) (3 + 4 * m + 4)).data.toList = numB tl (4 * m))
    (hbad : (¬ n0 ≤ 10 ∨ ¬ s.size = 3 + 4 * c ∨ okN tl c = false) → numsL s.data.toList = [] ∧ numsT s.data.toList = 0 ∧ numsE s.data.toList = 1)
    (hgood : n0 ≤ 10 → s.size = 3 + 4 * c → okN tl c = true → numsL s.data.toList = zsTo tl c ∧ numsT s.data.toList = n0 ∧ numsE s.data.toList = 0) :
    Calls Try.prog 11 #[.string s] w fun e w' => ∃ v, e = .returned (.tuple #[v, .int .i64 (numsT s.data.toList), .int .i64 (numsE s.data.toList)]) ∧ IntsIn w' v (numsL s.data.toList) ∧ Below w.heap.size w w' := by
  unfold maxLen at hs
  obtain ⟨i0, hi, hz0, hz1, hz2⟩ := info_parts Try.infoInt
  have HBad := hid hbad
  have HGood := hid hgood
  have HTl := hid htl
  clear hbad hgood htl
  have g0 : 0 < s.size := by omega
  have g3 : (3 : Int) ≤ (s.size : Int) := by omega
  have g13 : decide ((s.size : Int) < 3) = false := by simp; omega
  by_cases h10 : n0 ≤ 10
  · have h10' : (n0 : Int) ≤ 10 := by omega
    have g10 : decide ((10 : Int) < (n0 : Int)) = false := by simp; omega
    by_cases hlen : s.size = 3 + 4 * c
    · have hlt : ((s.size : Int) != 3 + 4 * (c : Int)) = false := by rw [bne_eq_false_iff_eq]; omega
      have HBad2 := hid (fun h => HBad.out (.inr (.inr h)))
      have HGood2 := hid (HGood.out h10 hlen)
      have HLEN := hid hlen
      have hsz9 : s.size < 300000 := by omega
      clear HBad HGood hlen
      go_enter Try.func11, Try.ntmps11
      go_wp2_with (go_at_call 22; refine (number_any _ _ (by simp; omega)).mono ?_; rintro e w ⟨rfl, rfl⟩; rw [hc])
      go_loopg [5, 6] c (fun gk v i wr => ∃ m : Nat, m + gk = c ∧ i = .int .i64 ((3 + 4 * m : Nat) : Int) ∧ wr.ownsRow w.heap.size 3 1 v m (intCells (zsTo tl m)) ∧ Below w.heap.size w wr ∧ okN tl m = true)
      case atStart => exact ⟨0, by omega, rfl, World.ownsRow_nil _ _ _ _, Below.refl _ _, rfl⟩
      case round =>
        obtain ⟨m, hm, rfl, hown, hbel, hok⟩ := hrel
        have HOK := hid hok
        have HM := hid hm
        have hmle : m ≤ c := by omega
        clear hok hm
        have hsz := hbel.size
        by_cases hlt2 : m < c
        · have hs7 : 3 + 4 * m + 4 ≤ s.size := by have := HLEN.out; omega
          have hnum := HTl.out m hs7
          have hlt3 : (3 : Int) + 4 * (m : Int) < (s.size : Int) := by omega
          have hcast : ((3 + 4 * m : Nat) : Int) = 3 + 4 * (m : Int) := by omega
          have hnl := numB_lt tl (4 * m)
          rw [hcast]
          have HCAST := hid hcast
          clear hcast
          by_cases hb : numB tl (4 * m) ≤ 1000000
          · have hst := hid (okN_step tl m HOK.out hb)
            have hb' : ((numB tl (4 * m) : Nat) : Int) ≤ 1000000 := by omega
            go_wp2_with (first
              | (go_at_call 22; refine (number_any _ _ (by simp; omega)).mono ?_; rintro e wr ⟨rfl, rfl⟩; rw [hnum])
              | (at_builtin; refine wpList_append_own _ rfl _ _ 30 rfl w.heap.size 3 i0 (.int .i64 0) 1 8 Try.underlying30 hi hz0 hz1 hz2 rfl (by decide) _ _ _ rfl (hown.alloc _) ⟨wr.heap.size, 0, none⟩ 1 1 [.int .i64 ((numB tl (4 * m) : Nat) : Int)] rfl rfl (app_cell wr _) (by intro u hu; simp at hu; subst hu; rfl) (by unfold maxLen; omega) (by omega) (by simp; omega) ?_; intro v' w2 hown' hgrow' _))
            go_roundg (gk - 1)
            case measure => have := HM.out; omega
            case rel =>
              refine ⟨m + 1, by have := HM.out; omega, by go_num, ?_, ?_, hst.out⟩
              · rw [zsTo_step]; simpa [intCells] using hown'
              · exact (hbel.alloc (by omega) _).grown hgrow' (by simp; omega) (fun k hk => (hown.lt k hk).1)
          · have hE := hid (HBad2.out (okN_bad tl m c hlt2 hb))
            have hb' : (1000000 : Int) < ((numB tl (4 * m) : Nat) : Int) := by omega
            go_wp2_with (go_at_call 22; refine (number_any _ _ (by simp; omega)).mono ?_; rintro e wr ⟨rfl, rfl⟩; rw [hnum])
            go_ret3
            exact ⟨_, ret_nums hE.out.2, .inr ⟨rfl, hE.out.1⟩, hbel⟩
        · have hme : m = c := by omega
          subst hme
          have hE := hid (HGood2.out HOK.out)
          have hlt3 : ¬ ((3 + 4 * m : Nat) : Int) < (s.size : Int) := by have := HLEN.out; omega
          go_wp2_with fail
          go_quiet (fail)
          go_wp2
          go_ret3
          refine ⟨_, ret_nums hE.out.2, ?_, below_drewN hbel _⟩
          rw [hE.out.1]
          exact own_intsIn (w := wr) hown (zsTo_len tl m).symm
    · have hlt : ((s.size : Int) != 3 + 4 * (c : Int)) = true := by rw [bne_iff_ne]; omega
      have hE := hid (HBad.out (.inr (.inl hlen)))
      clear hlen
      go_enter Try.func11, Try.ntmps11
      go_wp2_with (go_at_call 22; refine (number_any _ _ (by simp; omega)).mono ?_; rintro e w ⟨rfl, rfl⟩; rw [hc])
      go_ret3
      exact ⟨_, ret_nums hE.out.2, .inr ⟨rfl, hE.out.1⟩, Below.refl _ _⟩
  · have h10' : (10 : Int) < (n0 : Int) := by omega
    have hE := hid (HBad.out (.inl h10))
    clear h10
    go_enter Try.func11, Try.ntmps11
    go_wp2
    go_ret3
    exact ⟨_, ret_nums hE.out.2, .inr ⟨rfl, hE.out.1⟩, Below.refl _ _⟩

theorem refNumbers_any (s : ByteArray) (w : World) (hs : s.size ≤ maxLen) :
    Calls Try.prog 11 #[.string s] w fun e w' => ∃ v, e = .returned (.tuple #[v, .int .i64 (numsT s.data.toList), .int .i64 (numsE s.data.toList)]) ∧ IntsIn w' v (numsL s.data.toList) ∧ Below w.heap.size w w' := by
  by_cases h3 : 3 ≤ s.size
  · have e0 := getD_bytes s 0 (by omega)
    have hl : s.data.toList.length = s.size := by simp
    have hcn : natOf (s.extract 1 3).data.toList = cnt s.data.toList := by
      rw [ext_list]
      have e : (s.data.toList.drop 1).take (3 - 1) = [s.data.toList.getD 1 0, s.data.toList.getD 2 0] := by
        match hm : s.data.toList, (show 3 ≤ s.data.toList.length by omega) with
        | a :: b :: d :: r, _ => rfl
      rw [e, natOf2]; rfl
    have hcb : cnt s.data.toList < 65536 := by
      unfold cnt
      have := byte_lt (s.data.toList.getD 1 0); have := byte_lt (s.data.toList.getD 2 0); omega
    refine refNumbers_long s w hs h3 s[0].toNat (cnt s.data.toList) rfl (byte_lt _) hcn hcb (s.data.toList.drop 3) ?_ ?_ ?_
    · intro m hm
      rw [ext_num s (3 + 4 * m) (by omega), numB_drop]
    · intro h
      refine nums_bad _ ?_
      unfold numsB
      rw [hl, e0]
      rcases h with h | h | h
      · simp [h]
      · simp [h]
      · rw [h]; simp
    · intro h1 h2 h4
      have := nums_good s.data.toList (by
        unfold numsB
        rw [hl, e0, h4, ← h2]; simp [h1, h3])
      rw [e0] at this
      exact this
  · exact refNumbers_short s w (by omega)

end Go.Proofs.Ytalncjhldkcmaaa
