/- What Decode of package wire returns. -/
import Derived.Test.YtalncjhldkcmaaaF0
namespace Go.Proofs.Ytalncjhldkcmaaa
open Go.RowKit
attribute [local go_sem] Try.eqlNilF

set_option maxHeartbeats 1000000 in
theorem decode_yes (s : ByteArray) (w : World) (hs : s.size ≤ maxLen) (h0 : 0 < s.size) (k : Nat) (hk : s[0].toNat = k) (h1 : 1 ≤ (k : Int)) (h2 : (k : Int) ≤ 16) :
    Calls Try.prog 21 #[.string s] w fun e w' => e = .returned (.tuple #[.agg #[.int .i64 (decC s.data.toList 0), .int .i64 (decC s.data.toList 1), .int .i64 (decC s.data.toList 2), .int .i64 (decC s.data.toList 3), .int .i64 (decC s.data.toList 4), .int .i64 (decC s.data.toList 5), .int .i64 (decC s.data.toList 6), .int .i64 (decC s.data.toList 7), .int .i64 (decC s.data.toList 8)], .int .i64 (decE s.data.toList)]) ∧ Below w.heap.size w w' := by
  unfold maxLen at hs
  have hne := isEmpty_no s h0
  have HL := hid (cons_of s h0)
  have hl := flds_len k
  have HF := hid (flds_lt k)
  have hZ := (((Has.newK w 23 0).congr (d := zero9) (fun j _ => by simp [base, zero9])).alloc (by simp) (.cells #[.int .i64 k, .int .i64 0, .int .i64 0, .int .i64 0, .int .i64 0, .int .i64 0, .int .i64 0, .int .i64 0, .int .i64 0] 23)).alloc (by simp; omega) (.cells (codes (flds k)).toArray 46)
  have hC := (Has.newK (w.alloc (.cells #[.int .i64 0, .int .i64 0, .int .i64 0, .int .i64 0, .int .i64 0, .int .i64 0, .int .i64 0, .int .i64 0, .int .i64 0] 23)) 23 k).alloc (by simp) (.cells (codes (flds k)).toArray 46)
  have hFs := HasF.new ((w.alloc (.cells #[.int .i64 0, .int .i64 0, .int .i64 0, .int .i64 0, .int .i64 0, .int .i64 0, .int .i64 0, .int .i64 0, .int .i64 0] 23)).alloc (.cells #[.int .i64 k, .int .i64 0, .int .i64 0, .int .i64 0, .int .i64 0, .int .i64 0, .int .i64 0, .int .i64 0, .int .i64 0] 23)) 46 (flds k)
  go_enter Try.func21, Try.ntmps21
  go_upto_region 4 with fail
  go_cut [5, 6] from 17 to 21 (fun a b wc => a = .slice (some ⟨w.heap.size + 2, 0, none⟩) (flds k).length (flds k).length ∧ b = .string (s.extract 1 s.size) ∧ Has wc w.heap.size zero9 ∧ Has wc (w.heap.size + 1) (base k) ∧ HasF wc (w.heap.size + 2) (flds k) ∧ Below w.heap.size w wc ∧ w.heap.size + 2 < wc.heap.size)
  case first =>
    go_region_with (go_at_call 25; refine (fieldsOf_yes _ h1 h2 _).mono ?_; rintro e w' ⟨rfl, rfl⟩)
    all_goals
      go_wp2_with fail
      go_meet
      refine ⟨rfl, rfl, hZ.drew, by simpa using hC.drew, by simpa using hFs.drew, ?_, by simp⟩
      exact ((((Below.refl _ _).alloc (Nat.le_refl _) _).alloc (by simp) _).alloc (by simp; omega) _).drew
  case rest =>
    clear hZ hC hFs
    obtain ⟨rfl, rfl, hZ, hC, hFs, hbel, hsz⟩ := hcut
    have HT := hid (show (s.extract 1 s.size).size + 1 = s.size by simp; omega)
    generalize s.extract 1 s.size = t at *
    have ht63 : t.size < 2 ^ 63 - 1 := by have := HT.out; omega
    have htl : t.data.toList.length = t.size := by simp
    have HTL := hid htl
    clear htl
    have z0 := hZ.1 0 (by omega)
    have z1 := hZ.1 1 (by omega)
    have z2 := hZ.1 2 (by omega)
    have z3 := hZ.1 3 (by omega)
    have z4 := hZ.1 4 (by omega)
    have z5 := hZ.1 5 (by omega)
    have z6 := hZ.1 6 (by omega)
    have z7 := hZ.1 7 (by omega)
    have z8 := hZ.1 8 (by omega)
    have zf := hZ.2
    simp only [zero9] at z0 z1 z2 z3 z4 z5 z6 z7 z8
    by_cases hd : t.size = 4 * (flds k).length
    · have HBad : Hid (okTo (flds k) t.data.toList (flds k).length = false → decC s.data.toList = zero9 ∧ decE s.data.toList = 1) := by
        intro h; rw [HL.out]; exact dec_bad s[0] t.data.toList (by rw [hk]; exact h)
      have HGood : Hid (okTo (flds k) t.data.toList (flds k).length = true → decC s.data.toList = decTo k (flds k) t.data.toList (flds k).length ∧ decE s.data.toList = 0) := by
        intro h; rw [HL.out]; have := dec_good s[0] t.data.toList (by rw [hk]; omega) (by rw [hk]; omega) (by rw [HTL.out, hk]; exact hd) (by rw [hk]; exact h); rw [hk] at this; exact this
      have htest : ((t.size : Int) != ((flds k).length : Int) * 4) = false := by rw [bne_eq_false_iff_eq]; omega
      have hd1 : 4 * (flds k).length ≤ t.size := by omega
      clear hd
      generalize flds k = fs at *
      clear HT HTL HL z0 z1 z2 z3 z4 z5 z6 z7 z8 zf
      go_wp2_with fail
      go_loopw [35] (fun i wr => ∃ m : Nat, m ≤ fs.length ∧ i = .int .i64 m ∧ Has wr w.heap.size zero9 ∧ Has wr (w.heap.size + 1) (decTo k fs t.data.toList m) ∧ HasF wr (w.heap.size + 2) fs ∧ Below w.heap.size w wr ∧ okTo fs t.data.toList m = true ∧ w.heap.size + 2 < wr.heap.size)
        (fun i _ => fs.length - (intOf i).toNat)
      case atStart => exact ⟨0, Nat.zero_le _, rfl, hZ, hC, hFs, hbel, rfl, hsz⟩
      case round =>
        clear hZ hC hFs hbel hsz
        obtain ⟨m, hm, rfl, hZ, hC, hFs, hbel, hok, hsz⟩ := hrel
        have HOK := hid hok
        clear hok
        by_cases hlt : m < fs.length
        · have hcx := hFs m hlt
          have hf9 := HF.out (fs[m]) (List.getElem_mem hlt)
          have hfd : fs.getD m 0 = fs[m] := by rw [List.getD_eq_getElem?_getD, List.getElem?_eq_getElem hlt]; rfl
          have hnl := numB_lt t.data.toList (4 * m)
          have hco := hC.1 (off fs[m]) (off_lt _)
          have hfz := hC.2 (off fs[m])
          have HS : Hid (∀ j, upd (decTo k fs t.data.toList m) (off fs[m]) (numB t.data.toList (4 * m) : Nat) j = decTo k fs t.data.toList (m + 1) j) := by
            intro j; rw [← hfd]; rfl
          cases hb : okB fs[m] (numB t.data.toList (4 * m) : Nat) with
          | false =>
            have hE := hid (HBad.out (okTo_bad fs t.data.toList m fs.length hlt (by rw [hfd]; exact hb)))
            clear hfd HS hco hfz
            have z0 := hZ.1 0 (by omega)
            have z1 := hZ.1 1 (by omega)
            have z2 := hZ.1 2 (by omega)
            have z3 := hZ.1 3 (by omega)
            have z4 := hZ.1 4 (by omega)
            have z5 := hZ.1 5 (by omega)
            have z6 := hZ.1 6 (by omega)
            have z7 := hZ.1 7 (by omega)
            have z8 := hZ.1 8 (by omega)
            have zf := hZ.2
            simp only [zero9] at z0 z1 z2 z3 z4 z5 z6 z7 z8
            generalize fs[m] = f at *
            go_wp2_with (first | (go_at_call 30; refine (numberAt_any t m _ (by unfold maxLen; omega) (by omega)).mono ?_; rintro e w' ⟨rfl, nd, rfl⟩) | (go_at_call 27; refine (allows_any f hf9 _ _).mono ?_; rintro e w' ⟨rfl, rfl⟩))
            have hZ' := (hZ.drewN nd).put9 zero9
            have hB' := Below.put9 (below_drewN hbel nd) (Nat.le_refl _) zero9
            change bodyPost _ _ _ _ _ (put9 (wr.drewN nd) w.heap.size zero9)
            generalize put9 (wr.drewN nd) w.heap.size zero9 = w9 at hZ' hB' ⊢
            have y0 := hZ'.1 0 (by omega)
            have y1 := hZ'.1 1 (by omega)
            have y2 := hZ'.1 2 (by omega)
            have y3 := hZ'.1 3 (by omega)
            have y4 := hZ'.1 4 (by omega)
            have y5 := hZ'.1 5 (by omega)
            have y6 := hZ'.1 6 (by omega)
            have y7 := hZ'.1 7 (by omega)
            have y8 := hZ'.1 8 (by omega)
            exact bodyPost_ret (v := .tuple #[.agg #[.int .i64 (zero9 0), .int .i64 (zero9 1), .int .i64 (zero9 2), .int .i64 (zero9 3), .int .i64 (zero9 4), .int .i64 (zero9 5), .int .i64 (zero9 6), .int .i64 (zero9 7), .int .i64 (zero9 8)], .int .i64 1]) (by simp [results, Try.results21, go_sem, y0, y1, y2, y3, y4, y5, y6, y7, y8]) rfl ⟨ret_dec hE.out, hB'⟩
          | true =>
            have hst := hid (okTo_step fs t.data.toList m HOK.out (by rw [hfd]; exact hb))
            clear hfd
            generalize fs[m] = f at *
            go_wp2_with (first | (go_at_call 30; refine (numberAt_any t m _ (by unfold maxLen; omega) (by omega)).mono ?_; rintro e w' ⟨rfl, nd, rfl⟩) | (go_at_call 27; refine (allows_any f hf9 _ _).mono ?_; rintro e w' ⟨rfl, rfl⟩) | (go_at_call 26; refine (of_any f hf9 _ _).mono ?_; rintro e w' ⟨rfl, rfl⟩))
            go_roundw
            case rel =>
              have r1 : Has ((wr.drewN nd).setCell ⟨w.heap.size + 1, off f, none⟩ (.int .i64 (numB t.data.toList (4 * m) : Nat))) w.heap.size zero9 := (hZ.drewN nd).below (B := w.heap.size + 1) ((Below.refl (w.heap.size + 1) _).setCell (by simp) _) (by omega)
              have r2 := ((hC.drewN nd).set (off_lt f) (numB t.data.toList (4 * m) : Nat)).congr (fun j _ => HS.out j)
              have r3 : HasF ((wr.drewN nd).setCell ⟨w.heap.size + 1, off f, none⟩ (.int .i64 (numB t.data.toList (4 * m) : Nat))) (w.heap.size + 2) fs := (hFs.drewN nd).setOther (by omega)
              have r4 : Below w.heap.size w ((wr.drewN nd).setCell ⟨w.heap.size + 1, off f, none⟩ (.int .i64 (numB t.data.toList (4 * m) : Nat))) := (below_drewN hbel nd).setCell (by simp) _
              have r5 : w.heap.size + 2 < ((wr.drewN nd).setCell ⟨w.heap.size + 1, off f, none⟩ (.int .i64 (numB t.data.toList (4 * m) : Nat))).heap.size := by simpa using hsz
              exact ⟨m + 1, by omega, by go_num, r1, r2, r3, r4, hst.out, r5⟩
            case measure => simp [intOf]; omega
        · have hme : m = fs.length := by omega
          rw [hme] at hC
          have hE := HGood.out (by rw [← hme]; exact HOK.out)
          have hE' := hid hE
          clear hE hme
          generalize decTo k fs t.data.toList fs.length = d at *
          have z0 := hZ.1 0 (by omega)
          have z1 := hZ.1 1 (by omega)
          have z2 := hZ.1 2 (by omega)
          have z3 := hZ.1 3 (by omega)
          have z4 := hZ.1 4 (by omega)
          have z5 := hZ.1 5 (by omega)
          have z6 := hZ.1 6 (by omega)
          have z7 := hZ.1 7 (by omega)
          have z8 := hZ.1 8 (by omega)
          have c0 := hC.1 0 (by omega)
          have c1 := hC.1 1 (by omega)
          have c2 := hC.1 2 (by omega)
          have c3 := hC.1 3 (by omega)
          have c4 := hC.1 4 (by omega)
          have c5 := hC.1 5 (by omega)
          have c6 := hC.1 6 (by omega)
          have c7 := hC.1 7 (by omega)
          have c8 := hC.1 8 (by omega)
          have zf := hZ.2
          simp only [zero9] at z0 z1 z2 z3 z4 z5 z6 z7 z8
          go_wp2
          have hZ' := hZ.put9 d
          have hB' := Below.put9 hbel (Nat.le_refl _) d
          change bodyPost _ _ _ _ _ (put9 wr w.heap.size d)
          generalize put9 wr w.heap.size d = w9 at hZ' hB' ⊢
          have y0 := hZ'.1 0 (by omega)
          have y1 := hZ'.1 1 (by omega)
          have y2 := hZ'.1 2 (by omega)
          have y3 := hZ'.1 3 (by omega)
          have y4 := hZ'.1 4 (by omega)
          have y5 := hZ'.1 5 (by omega)
          have y6 := hZ'.1 6 (by omega)
          have y7 := hZ'.1 7 (by omega)
          have y8 := hZ'.1 8 (by omega)
          exact bodyPost_ret (v := .tuple #[.agg #[.int .i64 (d 0), .int .i64 (d 1), .int .i64 (d 2), .int .i64 (d 3), .int .i64 (d 4), .int .i64 (d 5), .int .i64 (d 6), .int .i64 (d 7), .int .i64 (d 8)], .int .i64 0]) (by simp [results, Try.results21, go_sem, y0, y1, y2, y3, y4, y5, y6, y7, y8]) rfl ⟨ret_dec hE'.out, hB'⟩
    · have hE : Hid (decC s.data.toList = zero9 ∧ decE s.data.toList = 1) := by
        rw [HL.out]; exact dec_len s[0] t.data.toList (by rw [HTL.out, hk]; exact hd)
      go_wp2
      have hZ' := hZ.put9 zero9
      have hB' := Below.put9 hbel (Nat.le_refl _) zero9
      change bodyPost _ _ _ _ _ (put9 wc w.heap.size zero9)
      generalize put9 wc w.heap.size zero9 = w9 at hZ' hB' ⊢
      have y0 := hZ'.1 0 (by omega)
      have y1 := hZ'.1 1 (by omega)
      have y2 := hZ'.1 2 (by omega)
      have y3 := hZ'.1 3 (by omega)
      have y4 := hZ'.1 4 (by omega)
      have y5 := hZ'.1 5 (by omega)
      have y6 := hZ'.1 6 (by omega)
      have y7 := hZ'.1 7 (by omega)
      have y8 := hZ'.1 8 (by omega)
      exact bodyPost_ret (v := .tuple #[.agg #[.int .i64 (zero9 0), .int .i64 (zero9 1), .int .i64 (zero9 2), .int .i64 (zero9 3), .int .i64 (zero9 4), .int .i64 (zero9 5), .int .i64 (zero9 6), .int .i64 (zero9 7), .int .i64 (zero9 8)], .int .i64 1]) (by simp [results, Try.results21, go_sem, y0, y1, y2, y3, y4, y5, y6, y7, y8]) rfl ⟨ret_dec hE.out, hB'⟩

set_option maxHeartbeats 400000 in
theorem decode_nil (w : World) :
    Calls Try.prog 21 #[.string ByteArray.empty] w fun e w' => e = .returned (.tuple #[.agg #[.int .i64 (decC [] 0), .int .i64 (decC [] 1), .int .i64 (decC [] 2), .int .i64 (decC [] 3), .int .i64 (decC [] 4), .int .i64 (decC [] 5), .int .i64 (decC [] 6), .int .i64 (decC [] 7), .int .i64 (decC [] 8)], .int .i64 (decE [])]) ∧ Below w.heap.size w w' := by
  go_enter Try.func21, Try.ntmps21
  go_wp2
  exact bodyPost_ret (v := .tuple #[.agg #[.int .i64 (zero9 0), .int .i64 (zero9 1), .int .i64 (zero9 2), .int .i64 (zero9 3), .int .i64 (zero9 4), .int .i64 (zero9 5), .int .i64 (zero9 6), .int .i64 (zero9 7), .int .i64 (zero9 8)], .int .i64 1]) (by simp [results, Try.results21, go_sem, zero9]) rfl ⟨ret_dec dec_nil, (Below.refl _ _).alloc (Nat.le_refl _) _⟩

set_option maxHeartbeats 1000000 in
theorem decode_no (s : ByteArray) (w : World) (hs : s.size ≤ maxLen) (h0 : 0 < s.size) (k : Nat) (hk : s[0].toNat = k) (h : (k : Int) < 1 ∨ 16 < (k : Int)) :
    Calls Try.prog 21 #[.string s] w fun e w' => e = .returned (.tuple #[.agg #[.int .i64 (decC s.data.toList 0), .int .i64 (decC s.data.toList 1), .int .i64 (decC s.data.toList 2), .int .i64 (decC s.data.toList 3), .int .i64 (decC s.data.toList 4), .int .i64 (decC s.data.toList 5), .int .i64 (decC s.data.toList 6), .int .i64 (decC s.data.toList 7), .int .i64 (decC s.data.toList 8)], .int .i64 (decE s.data.toList)]) ∧ Below w.heap.size w w' := by
  unfold maxLen at hs
  have hne := isEmpty_no s h0
  have hE : Hid (decC s.data.toList = zero9 ∧ decE s.data.toList = 1) := by
    rw [cons_of s h0]; exact dec_kind s[0] _ (by rw [hk]; omega)
  have hk256 : k < 256 := by rw [← hk]; exact byte_lt _
  have hZ := ((Has.newK w 23 0).congr (d := zero9) (fun j _ => by simp [base, zero9])).alloc (by simp) (.cells #[.int .i64 k, .int .i64 0, .int .i64 0, .int .i64 0, .int .i64 0, .int .i64 0, .int .i64 0, .int .i64 0, .int .i64 0] 23)
  go_enter Try.func21, Try.ntmps21
  go_upto_region 4 with fail
  go_cut [5, 6] from 17 to 21 (fun a b wc => a = .slice none 0 0 ∧ b = .string (s.extract 1 s.size) ∧ Has wc w.heap.size zero9 ∧ Below w.heap.size w wc)
  case first =>
    go_region_with (go_at_call 25; refine (fieldsOf_no _ h _).mono ?_; rintro e w' ⟨rfl, rfl⟩)
    all_goals
      go_wp2_with fail
      go_meet
      refine ⟨rfl, rfl, hZ.drew, ?_⟩
      exact (((Below.refl _ _).alloc (Nat.le_refl _) _).alloc (by simp) _).drew
  case rest =>
    clear hZ
    obtain ⟨rfl, rfl, hZ, hbel⟩ := hcut
    have z0 := hZ.1 0 (by omega)
    have z1 := hZ.1 1 (by omega)
    have z2 := hZ.1 2 (by omega)
    have z3 := hZ.1 3 (by omega)
    have z4 := hZ.1 4 (by omega)
    have z5 := hZ.1 5 (by omega)
    have z6 := hZ.1 6 (by omega)
    have z7 := hZ.1 7 (by omega)
    have z8 := hZ.1 8 (by omega)
    have zf := hZ.2
    simp only [zero9] at z0 z1 z2 z3 z4 z5 z6 z7 z8
    go_wp2
    have hZ' := hZ.put9 zero9
    have hB' := Below.put9 hbel (Nat.le_refl _) zero9
    change bodyPost _ _ _ _ _ (put9 wc w.heap.size zero9)
    generalize put9 wc w.heap.size zero9 = w9 at hZ' hB' ⊢
    have y0 := hZ'.1 0 (by omega)
    have y1 := hZ'.1 1 (by omega)
    have y2 := hZ'.1 2 (by omega)
    have y3 := hZ'.1 3 (by omega)
    have y4 := hZ'.1 4 (by omega)
    have y5 := hZ'.1 5 (by omega)
    have y6 := hZ'.1 6 (by omega)
    have y7 := hZ'.1 7 (by omega)
    have y8 := hZ'.1 8 (by omega)
    exact bodyPost_ret (v := .tuple #[.agg #[.int .i64 (zero9 0), .int .i64 (zero9 1), .int .i64 (zero9 2), .int .i64 (zero9 3), .int .i64 (zero9 4), .int .i64 (zero9 5), .int .i64 (zero9 6), .int .i64 (zero9 7), .int .i64 (zero9 8)], .int .i64 1]) (by simp [results, Try.results21, go_sem, y0, y1, y2, y3, y4, y5, y6, y7, y8]) rfl ⟨ret_dec hE.out, hB'⟩

theorem decode_any (s : ByteArray) (w : World) (hs : s.size ≤ maxLen) :
    Calls Try.prog 21 #[.string s] w fun e w' => e = .returned (.tuple #[.agg #[.int .i64 (decC s.data.toList 0), .int .i64 (decC s.data.toList 1), .int .i64 (decC s.data.toList 2), .int .i64 (decC s.data.toList 3), .int .i64 (decC s.data.toList 4), .int .i64 (decC s.data.toList 5), .int .i64 (decC s.data.toList 6), .int .i64 (decC s.data.toList 7), .int .i64 (decC s.data.toList 8)], .int .i64 (decE s.data.toList)]) ∧ Below w.heap.size w w' := by
  by_cases h0 : 0 < s.size
  · by_cases h : 1 ≤ (s[0].toNat : Int) ∧ (s[0].toNat : Int) ≤ 16
    · exact decode_yes s w hs h0 _ rfl h.1 h.2
    · exact decode_no s w hs h0 _ rfl (by omega)
  · have e : s = ByteArray.empty := by
      apply ByteArray.ext
      apply Array.eq_empty_of_size_eq_zero
      show s.size = 0
      omega
    subst e
    exact decode_nil w

end Go.Proofs.Ytalncjhldkcmaaa
