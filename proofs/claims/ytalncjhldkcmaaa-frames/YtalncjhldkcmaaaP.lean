/- What firnref's Decode returns at what is no frame by its kind or its length, and at all others: the same as the program's own. -/
import Derived.Test.YtalncjhldkcmaaaO
namespace Go.Proofs.Ytalncjhldkcmaaa
open Go.RowKit

set_option maxHeartbeats 1000000 in
theorem refDecode_no (s : ByteArray) (w : World) (h0 : 0 < s.size) (k : Nat) (hk : s[0].toNat = k) (h : (k : Int) < 1 ∨ 16 < (k : Int)) :
    Calls Try.prog 9 #[.string s] w fun e w' => e = .returned (.tuple #[.agg #[.int .i64 (decC s.data.toList 0), .int .i64 (decC s.data.toList 1), .int .i64 (decC s.data.toList 2), .int .i64 (decC s.data.toList 3), .int .i64 (decC s.data.toList 4), .int .i64 (decC s.data.toList 5), .int .i64 (decC s.data.toList 6), .int .i64 (decC s.data.toList 7), .int .i64 (decC s.data.toList 8)], .int .i64 (decE s.data.toList)]) ∧ Below w.heap.size w w' := by
  have hne := isEmpty_no s h0
  have hE : Hid (decC s.data.toList = zero9 ∧ decE s.data.toList = 1) := by
    rw [cons_of s h0]; exact dec_kind s[0] _ (by rw [hk]; omega)
  have hk256 : k < 256 := by rw [← hk]; exact byte_lt _
  have hZ0 := ((Has.newK w 23 0).congr (d := zero9) (fun j _ => by simp [base, zero9])).alloc (by simp) (.cells #[.int .i64 k, .int .i64 0, .int .i64 0, .int .i64 0, .int .i64 0, .int .i64 0, .int .i64 0, .int .i64 0, .int .i64 0] 23)
  have hC0 : Has ((w.alloc (.cells #[.int .i64 0, .int .i64 0, .int .i64 0, .int .i64 0, .int .i64 0, .int .i64 0, .int .i64 0, .int .i64 0, .int .i64 0] 23)).alloc (.cells #[.int .i64 k, .int .i64 0, .int .i64 0, .int .i64 0, .int .i64 0, .int .i64 0, .int .i64 0, .int .i64 0, .int .i64 0] 23)) (w.heap.size + 1) (base k) := by simpa using Has.newK (w.alloc (.cells #[.int .i64 0, .int .i64 0, .int .i64 0, .int .i64 0, .int .i64 0, .int .i64 0, .int .i64 0, .int .i64 0, .int .i64 0] 23)) 23 k
  have hB0 := ((Below.refl w.heap.size w).alloc (Nat.le_refl _) (.cells #[.int .i64 0, .int .i64 0, .int .i64 0, .int .i64 0, .int .i64 0, .int .i64 0, .int .i64 0, .int .i64 0, .int .i64 0] 23)).alloc (by simp) (.cells #[.int .i64 k, .int .i64 0, .int .i64 0, .int .i64 0, .int .i64 0, .int .i64 0, .int .i64 0, .int .i64 0, .int .i64 0] 23)
  go_enter Try.func9, Try.ntmps9
  go_wp2_with fail
  refine (letters_no k h _).mono ?_
  rintro e w1 ⟨rfl, hb1⟩
  have hZ := hZ0.below hb1 (by simp; omega)
  have hbel := hB0.trans (hb1.mono (by simp; omega))
  clear hZ0 hC0 hB0 hb1
  have z0 := hZ.1 0 (by omega)
  have z1 := hZ.1 1 (by omega)
  have z2 := hZ.1 2 (by omega)
  have z3 := hZ.1 3 (by omega)
  have z4 := hZ.1 4 (by omega)
  have z5 := hZ.1 5 (by omega)
  have z6 := hZ.1 6 (by omega)
  have z7 := hZ.1 7 (by omega)
  have z8 := hZ.1 8 (by omega)
  have zf := hZ.2
  simp only [zero9] at z0 z1 z2 z3 z4 z5 z6 z7 z8
  go_wp2
  have hZ' := hZ.put9 zero9
  have hB' := Below.put9 hbel (Nat.le_refl _) zero9
  change bodyPost _ _ _ _ _ (put9 w1 w.heap.size zero9)
  generalize put9 w1 w.heap.size zero9 = w9 at hZ' hB' ⊢
  have y0 := hZ'.1 0 (by omega)
  have y1 := hZ'.1 1 (by omega)
  have y2 := hZ'.1 2 (by omega)
  have y3 := hZ'.1 3 (by omega)
  have y4 := hZ'.1 4 (by omega)
  have y5 := hZ'.1 5 (by omega)
  have y6 := hZ'.1 6 (by omega)
  have y7 := hZ'.1 7 (by omega)
  have y8 := hZ'.1 8 (by omega)
  exact bodyPost_ret (v := .tuple #[.agg #[.int .i64 (zero9 0), .int .i64 (zero9 1), .int .i64 (zero9 2), .int .i64 (zero9 3), .int .i64 (zero9 4), .int .i64 (zero9 5), .int .i64 (zero9 6), .int .i64 (zero9 7), .int .i64 (zero9 8)], .int .i64 1]) (by simp [results, Try.results9, go_sem, y0, y1, y2, y3, y4, y5, y6, y7, y8]) rfl ⟨ret_dec hE.out, hB'⟩

set_option maxHeartbeats 1000000 in
theorem refDecode_yes (s : ByteArray) (w : World) (hs : s.size ≤ maxLen) (h0 : 0 < s.size) (k : Nat) (hk : s[0].toNat = k) (h1 : 1 ≤ (k : Int)) (h2 : (k : Int) ≤ 16) :
    Calls Try.prog 9 #[.string s] w fun e w' => e = .returned (.tuple #[.agg #[.int .i64 (decC s.data.toList 0), .int .i64 (decC s.data.toList 1), .int .i64 (decC s.data.toList 2), .int .i64 (decC s.data.toList 3), .int .i64 (decC s.data.toList 4), .int .i64 (decC s.data.toList 5), .int .i64 (decC s.data.toList 6), .int .i64 (decC s.data.toList 7), .int .i64 (decC s.data.toList 8)], .int .i64 (decE s.data.toList)]) ∧ Below w.heap.size w w' := by
  unfold maxLen at hs
  have hne := isEmpty_no s h0
  have HL := hid (cons_of s h0)
  have hl := flds_len k
  have hlp := flds_pos k h1 h2
  have HF := hid (flds_lt k)
  have hZ0 := ((Has.newK w 23 0).congr (d := zero9) (fun j _ => by simp [base, zero9])).alloc (by simp) (.cells #[.int .i64 k, .int .i64 0, .int .i64 0, .int .i64 0, .int .i64 0, .int .i64 0, .int .i64 0, .int .i64 0, .int .i64 0] 23)
  have hC0 : Has ((w.alloc (.cells #[.int .i64 0, .int .i64 0, .int .i64 0, .int .i64 0, .int .i64 0, .int .i64 0, .int .i64 0, .int .i64 0, .int .i64 0] 23)).alloc (.cells #[.int .i64 k, .int .i64 0, .int .i64 0, .int .i64 0, .int .i64 0, .int .i64 0, .int .i64 0, .int .i64 0, .int .i64 0] 23)) (w.heap.size + 1) (base k) := by simpa using Has.newK (w.alloc (.cells #[.int .i64 0, .int .i64 0, .int .i64 0, .int .i64 0, .int .i64 0, .int .i64 0, .int .i64 0, .int .i64 0, .int .i64 0] 23)) 23 k
  have hB0 := ((Below.refl w.heap.size w).alloc (Nat.le_refl _) (.cells #[.int .i64 0, .int .i64 0, .int .i64 0, .int .i64 0, .int .i64 0, .int .i64 0, .int .i64 0, .int .i64 0, .int .i64 0] 23)).alloc (by simp) (.cells #[.int .i64 k, .int .i64 0, .int .i64 0, .int .i64 0, .int .i64 0, .int .i64 0, .int .i64 0, .int .i64 0, .int .i64 0] 23)
  go_enter Try.func9, Try.ntmps9
  go_wp2_with fail
  refine (letters_yes k h1 h2 _).mono ?_
  rintro e w1 ⟨rfl, hb1⟩
  have hZ := hZ0.below hb1 (by simp; omega)
  have hC := hC0.below hb1 (by simp)
  have hbel := hB0.trans (hb1.mono (by simp; omega))
  have hsz : w.heap.size + 1 < w1.heap.size := by have := hb1.size; simp at this; omega
  clear hZ0 hC0 hB0 hb1
  have HT := hid (show (s.extract 1 s.size).size + 1 = s.size by simp; omega)
  have HTL := hid (show (s.extract 1 s.size).data.toList.length = (s.extract 1 s.size).size by simp)
  have HNum : Hid (∀ m, 5 + 4 * m ≤ s.size → natOf (s.extract (1 + 4 * m) (5 + 4 * m)).data.toList = numB (s.extract 1 s.size).data.toList (4 * m)) := by
    intro m hm
    have e : 5 + 4 * m = (1 + 4 * m) + 4 := by omega
    rw [e, ext_num s (1 + 4 * m) (by omega), HL.out, Nat.add_comm 1 (4 * m), numB_tail]
  generalize (s.extract 1 s.size).data.toList = tl at *
  generalize (s.extract 1 s.size).size = tn at *
  have hSs : (⟨(ltrs k).toArray⟩ : ByteArray).size = (flds k).length := ltrs_len k
  have hSat : Hid (∀ m (h : m < (⟨(ltrs k).toArray⟩ : ByteArray).size) (h' : m < (flds k).length), (⟨(ltrs k).toArray⟩ : ByteArray)[m].toNat = (ltr (flds k)[m]).toNat) := by
    intro m h h'
    rw [str_at _ m h (by rw [ltrs_len]; exact h')]
    simp [ltrs]
  have hSe : (⟨(ltrs k).toArray⟩ : ByteArray).toList.isEmpty = false := by
    simp only [ByteArray.toList_mk]; rw [List.isEmpty_eq_false_iff]; intro h; have := ltrs_len k; rw [h] at this; simp at this; omega
  generalize (⟨(ltrs k).toArray⟩ : ByteArray) = S at *
  by_cases hd : s.size = 1 + 4 * (flds k).length
  · have HBad : Hid (okTo (flds k) tl (flds k).length = false → (decC s.data.toList = zero9 ∧ decE s.data.toList = 1) ∧ encE (decTo k (flds k) tl (flds k).length) = 1) := by
      intro h; rw [HL.out]; exact ⟨dec_bad s[0] tl (by rw [hk]; exact h), dec_enc_no k tl h⟩
    have HGood : Hid (okTo (flds k) tl (flds k).length = true → (decC s.data.toList = decTo k (flds k) tl (flds k).length ∧ decE s.data.toList = 0) ∧ encE (decTo k (flds k) tl (flds k).length) = 0) := by
      intro h; rw [HL.out]
      have h3 : tl.length = 4 * (flds k).length := by have := HT.out; rw [HTL.out]; omega
      have g1 := dec_good s[0] tl (by rw [hk]; omega) (by rw [hk]; omega) (by rw [hk]; exact h3) (by rw [hk]; exact h)
      have g2 := dec_enc_yes s[0] tl (by rw [hk]; omega) (by rw [hk]; omega) (by rw [hk]; exact h3) (by rw [hk]; exact h)
      rw [hk] at g1 g2; exact ⟨g1, g2⟩
    have htest : ((s.size : Int) != 1 + 4 * ((flds k).length : Int)) = false := by rw [bne_eq_false_iff_eq]; omega
    have hd1 : 1 + 4 * (flds k).length ≤ s.size := by omega
    clear hd HT HTL HL
    generalize flds k = fs at *
    go_wp2_with fail
    go_loopg [6] fs.length (fun gk i wr => ∃ m : Nat, m + gk = fs.length ∧ i = .int .i64 m ∧ Has wr w.heap.size zero9 ∧ Has wr (w.heap.size + 1) (decTo k fs tl m) ∧ Below w.heap.size w wr ∧ w.heap.size + 1 < wr.heap.size)
    case atStart => exact ⟨0, by omega, rfl, hZ, hC, hbel, hsz⟩
    case round =>
      clear hZ hC hbel hsz
      obtain ⟨m, hm, rfl, hZ, hC, hbel, hsz⟩ := hrel
      have HM := hid hm
      have hmle : m ≤ fs.length := by omega
      clear hm
      by_cases hlt : m < fs.length
      · have hf9 := HF.out (fs[m]) (List.getElem_mem hlt)
        have hlt' : (m : Int) < (S.size : Int) := by omega
        have hSm := hSat.out m (by omega) hlt
        have HST : Hid (∀ j, upd (decTo k fs tl m) (off fs[m]) (numB tl (4 * m) : Nat) j = decTo k fs tl (m + 1) j) := by
          intro j; rw [← getD_lt hlt]; rfl
        have hnum := HNum.out m (by omega)
        have hs5 : 5 + 4 * m ≤ s.size := by omega
        have hs5' : (5 : Int) + 4 * (m : Int) ≤ (s.size : Int) := by omega
        have hs6 : (0 : Int) ≤ 1 + 4 * (m : Int) := by omega
        have hs7 : (1 : Int) + 4 * (m : Int) ≤ 5 + 4 * (m : Int) := by omega
        have hs8 : (0 : Int) ≤ 5 + 4 * (m : Int) := by omega
        have hsl : ∀ wx : World, (Instr.slice 9 (.string s) (some (.int .i64 (1 + 4 * (m : Int)))) (some (.int .i64 (5 + 4 * (m : Int)))) none).run Try.prog wx = .ok (.string (s.extract (1 + 4 * m) (5 + 4 * m))) wx := by
          intro wx
          rw [run_slice_string_if wx 9 s .i64 .i64 _ _ Try.underlying9, if_pos ⟨hs8, hs5'⟩, if_pos ⟨hs6, hs7⟩]
          have e1 : (1 + 4 * (m : Int)).toNat = 1 + 4 * m := by omega
          have e2 : (5 + 4 * (m : Int)).toNat = 5 + 4 * m := by omega
          rw [e1, e2]
        clear hs6 hs7 hs8
        have hw1 : IntKind.i64.wrap (4 * (m : Int)) = 4 * (m : Int) := wraps63 _ (by omega) (by omega)
        have hw2 : IntKind.i64.wrap (1 + 4 * (m : Int)) = 1 + 4 * (m : Int) := wraps63 _ (by omega) (by omega)
        have hw3 : IntKind.i64.wrap (5 + 4 * (m : Int)) = 5 + 4 * (m : Int) := wraps63 _ (by omega) (by omega)
        generalize fs[m] = f at *
        have q0 := hC.1 0 (by omega)
        have q1 := hC.1 1 (by omega)
        have q2 := hC.1 2 (by omega)
        have q3 := hC.1 3 (by omega)
        have q4 := hC.1 4 (by omega)
        have q5 := hC.1 5 (by omega)
        have q6 := hC.1 6 (by omega)
        have q7 := hC.1 7 (by omega)
        have q8 := hC.1 8 (by omega)
        go_wp2_with fail
        go_region_with (first | (go_at_call 22; refine (number_any _ _ (by simp; omega)).mono ?_; rintro e w' ⟨rfl, rfl⟩; rw [hnum]) | (go_at_call 20; refine (with_any (decTo k fs tl m) f hf9 _ _).mono ?_; rintro e w5 ⟨rfl, hb5⟩; have hC5 := hC.drew.below hb5 (by show _ < wr.heap.size; omega); have r0 := hC5.1 0 (by omega); have r1 := hC5.1 1 (by omega); have r2 := hC5.1 2 (by omega); have r3 := hC5.1 3 (by omega); have r4 := hC5.1 4 (by omega); have r5 := hC5.1 5 (by omega); have r6 := hC5.1 6 (by omega); have r7 := hC5.1 7 (by omega); have r8 := hC5.1 8 (by omega); have rf := hC5.2))
        all_goals
          go_wp2
          go_roundg (gk - 1)
          case measure => have := HM.out; omega
          case rel =>
            have hz5 : wr.heap.size ≤ w5.heap.size := hb5.size
            have hZ5 := hZ.drew.below hb5 (by show _ < wr.heap.size; omega)
            have hB5 : Below w.heap.size w w5 := hbel.drew.trans (hb5.mono (by show _ ≤ wr.heap.size; omega))
            have p1 := hZ5.below (B := w.heap.size + 1) (Below.put9 (Below.refl _ _) (Nat.le_refl _) (upd (decTo k fs tl m) (off f) (numB tl (4 * m) : Nat))) (by omega)
            have p2 := (hC5.put9 (upd (decTo k fs tl m) (off f) (numB tl (4 * m) : Nat))).congr (fun j _ => HST.out j)
            have p3 := Below.put9 hB5 (Nat.le_succ _) (upd (decTo k fs tl m) (off f) (numB tl (4 * m) : Nat))
            have p4 := put9_size w5 (w.heap.size + 1) (upd (decTo k fs tl m) (off f) (numB tl (4 * m) : Nat))
            exact ⟨m + 1, by have := HM.out; omega, by go_num, p1, p2, p3, by show _ < (put9 w5 (w.heap.size + 1) (upd (decTo k fs tl m) (off f) (numB tl (4 * m) : Nat))).heap.size; omega⟩
      · have hme : m = fs.length := by omega
        rw [hme] at hC
        clear hme
        generalize decTo k fs tl fs.length = d at *
        have c0 := hC.1 0 (by omega)
        have c1 := hC.1 1 (by omega)
        have c2 := hC.1 2 (by omega)
        have c3 := hC.1 3 (by omega)
        have c4 := hC.1 4 (by omega)
        have c5 := hC.1 5 (by omega)
        have c6 := hC.1 6 (by omega)
        have c7 := hC.1 7 (by omega)
        have c8 := hC.1 8 (by omega)
        go_wp2_with fail
        refine (refEncode_any d _).mono ?_
        rintro e w6 ⟨rfl, hb6⟩
        have hZ6 := hZ.below hb6 (by omega)
        have hC6 := hC.below hb6 (by omega)
        have hB6 := hbel.trans (hb6.mono (by omega))
        clear c0 c1 c2 c3 c4 c5 c6 c7 c8 hZ hC hbel hb6
        have z0 := hZ6.1 0 (by omega)
        have z1 := hZ6.1 1 (by omega)
        have z2 := hZ6.1 2 (by omega)
        have z3 := hZ6.1 3 (by omega)
        have z4 := hZ6.1 4 (by omega)
        have z5 := hZ6.1 5 (by omega)
        have z6 := hZ6.1 6 (by omega)
        have z7 := hZ6.1 7 (by omega)
        have z8 := hZ6.1 8 (by omega)
        have c0 := hC6.1 0 (by omega)
        have c1 := hC6.1 1 (by omega)
        have c2 := hC6.1 2 (by omega)
        have c3 := hC6.1 3 (by omega)
        have c4 := hC6.1 4 (by omega)
        have c5 := hC6.1 5 (by omega)
        have c6 := hC6.1 6 (by omega)
        have c7 := hC6.1 7 (by omega)
        have c8 := hC6.1 8 (by omega)
        have zf := hZ6.2
        simp only [zero9] at z0 z1 z2 z3 z4 z5 z6 z7 z8
        cases hok : okTo fs tl fs.length with
        | false =>
          have hE := hid (HBad.out hok).1
          rw [(HBad.out hok).2]
          go_wp2
          have hZ' := hZ6.put9 zero9
          have hB' := Below.put9 hB6 (Nat.le_refl _) zero9
          change bodyPost _ _ _ _ _ (put9 w6 w.heap.size zero9)
          generalize put9 w6 w.heap.size zero9 = w9 at hZ' hB' ⊢
          have y0 := hZ'.1 0 (by omega)
          have y1 := hZ'.1 1 (by omega)
          have y2 := hZ'.1 2 (by omega)
          have y3 := hZ'.1 3 (by omega)
          have y4 := hZ'.1 4 (by omega)
          have y5 := hZ'.1 5 (by omega)
          have y6 := hZ'.1 6 (by omega)
          have y7 := hZ'.1 7 (by omega)
          have y8 := hZ'.1 8 (by omega)
          exact bodyPost_ret (v := .tuple #[.agg #[.int .i64 (zero9 0), .int .i64 (zero9 1), .int .i64 (zero9 2), .int .i64 (zero9 3), .int .i64 (zero9 4), .int .i64 (zero9 5), .int .i64 (zero9 6), .int .i64 (zero9 7), .int .i64 (zero9 8)], .int .i64 1]) (by simp [results, Try.results9, go_sem, y0, y1, y2, y3, y4, y5, y6, y7, y8]) rfl ⟨ret_dec hE.out, hB'⟩
        | true =>
          have hE := hid (HGood.out hok).1
          rw [(HGood.out hok).2]
          go_wp2
          have hZ' := hZ6.put9 d
          have hB' := Below.put9 hB6 (Nat.le_refl _) d
          change bodyPost _ _ _ _ _ (put9 w6 w.heap.size d)
          generalize put9 w6 w.heap.size d = w9 at hZ' hB' ⊢
          have y0 := hZ'.1 0 (by omega)
          have y1 := hZ'.1 1 (by omega)
          have y2 := hZ'.1 2 (by omega)
          have y3 := hZ'.1 3 (by omega)
          have y4 := hZ'.1 4 (by omega)
          have y5 := hZ'.1 5 (by omega)
          have y6 := hZ'.1 6 (by omega)
          have y7 := hZ'.1 7 (by omega)
          have y8 := hZ'.1 8 (by omega)
          exact bodyPost_ret (v := .tuple #[.agg #[.int .i64 (d 0), .int .i64 (d 1), .int .i64 (d 2), .int .i64 (d 3), .int .i64 (d 4), .int .i64 (d 5), .int .i64 (d 6), .int .i64 (d 7), .int .i64 (d 8)], .int .i64 0]) (by simp [results, Try.results9, go_sem, y0, y1, y2, y3, y4, y5, y6, y7, y8]) rfl ⟨ret_dec hE.out, hB'⟩
  · have hE : Hid (decC s.data.toList = zero9 ∧ decE s.data.toList = 1) := by
      rw [HL.out]; exact dec_len s[0] tl (by rw [HTL.out, hk]; have := HT.out; omega)
    have htest : ((s.size : Int) != 1 + 4 * ((flds k).length : Int)) = true := by rw [bne_iff_ne]; omega
    clear hd
    have z0 := hZ.1 0 (by omega)
    have z1 := hZ.1 1 (by omega)
    have z2 := hZ.1 2 (by omega)
    have z3 := hZ.1 3 (by omega)
    have z4 := hZ.1 4 (by omega)
    have z5 := hZ.1 5 (by omega)
    have z6 := hZ.1 6 (by omega)
    have z7 := hZ.1 7 (by omega)
    have z8 := hZ.1 8 (by omega)
    have zf := hZ.2
    simp only [zero9] at z0 z1 z2 z3 z4 z5 z6 z7 z8
    go_wp2
    have hZ' := hZ.put9 zero9
    have hB' := Below.put9 hbel (Nat.le_refl _) zero9
    change bodyPost _ _ _ _ _ (put9 w1 w.heap.size zero9)
    generalize put9 w1 w.heap.size zero9 = w9 at hZ' hB' ⊢
    have y0 := hZ'.1 0 (by omega)
    have y1 := hZ'.1 1 (by omega)
    have y2 := hZ'.1 2 (by omega)
    have y3 := hZ'.1 3 (by omega)
    have y4 := hZ'.1 4 (by omega)
    have y5 := hZ'.1 5 (by omega)
    have y6 := hZ'.1 6 (by omega)
    have y7 := hZ'.1 7 (by omega)
    have y8 := hZ'.1 8 (by omega)
    exact bodyPost_ret (v := .tuple #[.agg #[.int .i64 (zero9 0), .int .i64 (zero9 1), .int .i64 (zero9 2), .int .i64 (zero9 3), .int .i64 (zero9 4), .int .i64 (zero9 5), .int .i64 (zero9 6), .int .i64 (zero9 7), .int .i64 (zero9 8)], .int .i64 1]) (by simp [results, Try.results9, go_sem, y0, y1, y2, y3, y4, y5, y6, y7, y8]) rfl ⟨ret_dec hE.out, hB'⟩

theorem refDecode_any (s : ByteArray) (w : World) (hs : s.size ≤ maxLen) :
    Calls Try.prog 9 #[.string s] w fun e w' => e = .returned (.tuple #[.agg #[.int .i64 (decC s.data.toList 0), .int .i64 (decC s.data.toList 1), .int .i64 (decC s.data.toList 2), .int .i64 (decC s.data.toList 3), .int .i64 (decC s.data.toList 4), .int .i64 (decC s.data.toList 5), .int .i64 (decC s.data.toList 6), .int .i64 (decC s.data.toList 7), .int .i64 (decC s.data.toList 8)], .int .i64 (decE s.data.toList)]) ∧ Below w.heap.size w w' := by
  by_cases h0 : 0 < s.size
  · by_cases h : 1 ≤ (s[0].toNat : Int) ∧ (s[0].toNat : Int) ≤ 16
    · exact refDecode_yes s w hs h0 _ rfl h.1 h.2
    · exact refDecode_no s w h0 _ rfl (by omega)
  · have e : s = ByteArray.empty := by
      apply ByteArray.ext
      apply Array.eq_empty_of_size_eq_zero
      show s.size = 0
      omega
    subst e
    exact refDecode_nil w

end Go.Proofs.Ytalncjhldkcmaaa
