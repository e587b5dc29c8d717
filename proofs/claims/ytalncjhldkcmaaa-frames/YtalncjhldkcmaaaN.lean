/- What firnref's Encode returns: the same as the program's own. -/
import Derived.Test.YtalncjhldkcmaaaL2
import Derived.Deep.LoopGhost
namespace Go.Proofs.Ytalncjhldkcmaaa
open Go.RowKit

def onlyTo (c : Nat → Int) (fs : List Nat) : Nat → Nat → Int
  | 0 => base (c 0)
  | m + 1 => upd (onlyTo c fs m) (off (fs.getD m 0)) (c (off (fs.getD m 0)))

theorem ltrs_len (k : Int) : (ltrs k).length = (flds k).length := by simp [ltrs]
theorem str_app (a b : List UInt8) : ((⟨a.toArray⟩ : ByteArray) ++ ⟨b.toArray⟩) = ⟨(a ++ b).toArray⟩ := by
  apply ByteArray.ext; simp
theorem str_at (l : List UInt8) (m : Nat) (h : m < (⟨l.toArray⟩ : ByteArray).size) (h' : m < l.length) : (⟨l.toArray⟩ : ByteArray)[m]'h = l[m]'h' := rfl

set_option maxHeartbeats 400000 in
theorem refEncode_no (c : Nat → Int) (w : World) (h : c 0 < 1 ∨ 16 < c 0) :
    Calls Try.prog 7 #[.agg #[.int .i64 (c 0), .int .i64 (c 1), .int .i64 (c 2), .int .i64 (c 3), .int .i64 (c 4), .int .i64 (c 5), .int .i64 (c 6), .int .i64 (c 7), .int .i64 (c 8)]] w fun e w' => e = .returned (.tuple #[.string ⟨(encS c).toArray⟩, .int .i64 (encE c)]) ∧ Below w.heap.size w w' := by
  have HE := hid (enc_none c h)
  go_enter Try.func7, Try.ntmps7
  go_wp2_with (go_at_call 16; refine (letters_no (c 0) h _).mono ?_; rintro e w' ⟨rfl, hb⟩)
  go_ret2
  exact ⟨ret_enc HE.out, ((Below.refl _ _).alloc (Nat.le_refl _) _).trans (hb.mono (by simp))⟩

theorem only_at (c : Nat → Int) (fs : List Nat) : ∀ (n : Nat), n ≤ fs.length → ∀ j, onlyTo c fs n j = if j = 0 ∨ j ∈ (fs.take n).map off then c j else 0
  | 0, _, j => by
    show base (c 0) j = _
    unfold base
    by_cases h : j = 0 <;> simp [h]
  | n + 1, h, j => by
    have hn : n < fs.length := by omega
    show upd (onlyTo c fs n) (off (fs.getD n 0)) (c (off (fs.getD n 0))) j = _
    rw [getD_lt hn]
    have e : (fs.take (n + 1)).map off = (fs.take n).map off ++ [off fs[n]] := by rw [List.take_succ_eq_append_getElem hn, List.map_append]; rfl
    unfold upd
    rw [e, only_at c fs n (by omega) j]
    by_cases h1 : j = off fs[n]
    · simp [h1]
    · simp [h1]
theorem only_iff (c : Nat → Int) (fs : List Nat) (j : Nat) : onlyTo c fs fs.length j = c j ↔ clr c fs j = 0 := by
  rw [only_at c fs fs.length (Nat.le_refl _) j, List.take_length]
  unfold clr
  by_cases h : j = 0 ∨ j ∈ fs.map off
  · rw [if_pos h, if_pos h]; simp
  · rw [if_neg h, if_neg h]; exact ⟨fun h => h.symm, fun h => h.symm⟩
theorem only_zero (c : Nat → Int) (fs : List Nat) : onlyTo c fs fs.length 0 = c 0 := by
  rw [only_at c fs fs.length (Nat.le_refl _) 0]; simp

set_option maxHeartbeats 1000000 in
theorem refEncode_yes (c : Nat → Int) (w : World) (h1 : 1 ≤ c 0) (h2 : c 0 ≤ 16) :
    Calls Try.prog 7 #[.agg #[.int .i64 (c 0), .int .i64 (c 1), .int .i64 (c 2), .int .i64 (c 3), .int .i64 (c 4), .int .i64 (c 5), .int .i64 (c 6), .int .i64 (c 7), .int .i64 (c 8)]] w fun e w' => e = .returned (.tuple #[.string ⟨(encS c).toArray⟩, .int .i64 (encE c)]) ∧ Below w.heap.size w w' := by
  have hl := flds_len (c 0)
  have hlp := flds_pos (c 0) h1 h2
  have HF := hid (flds_lt (c 0))
  have HB := hid (byte_small (c 0) h1 h2)
  have HBad := hid (enc_bad c)
  have HMore := hid (enc_more c)
  have HGood := hid (enc_good c h1 h2)
  have hC0 := Has.new w 23 c
  have hB0 := (Below.refl w.heap.size w).alloc (Nat.le_refl _) (.cells #[.int .i64 (c 0), .int .i64 (c 1), .int .i64 (c 2), .int .i64 (c 3), .int .i64 (c 4), .int .i64 (c 5), .int .i64 (c 6), .int .i64 (c 7), .int .i64 (c 8)] 23)
  go_enter Try.func7, Try.ntmps7
  go_wp2_with fail
  refine (letters_yes (c 0) h1 h2 _).mono ?_
  rintro e w1 ⟨rfl, hb1⟩
  have hC1 := hC0.below hb1 (by simp)
  have hB1 := hB0.trans (hb1.mono (by simp))
  have hz1 : w.heap.size < w1.heap.size := by have := hb1.size; simp at this; omega
  clear hC0 hB0 hb1
  have hSs : (⟨(ltrs (c 0)).toArray⟩ : ByteArray).size = (flds (c 0)).length := ltrs_len (c 0)
  have hSat : Hid (∀ m (h : m < (⟨(ltrs (c 0)).toArray⟩ : ByteArray).size) (h' : m < (flds (c 0)).length), (⟨(ltrs (c 0)).toArray⟩ : ByteArray)[m].toNat = (ltr (flds (c 0))[m]).toNat) := by
    intro m h h'
    rw [str_at _ m h (by rw [ltrs_len]; exact h')]
    simp [ltrs]
  have hSe : (⟨(ltrs (c 0)).toArray⟩ : ByteArray).toList.isEmpty = false := by
    simp only [ByteArray.toList_mk]; rw [List.isEmpty_eq_false_iff]; intro h; have := ltrs_len (c 0); rw [h] at this; simp at this; omega
  generalize (⟨(ltrs (c 0)).toArray⟩ : ByteArray) = S at *
  generalize flds (c 0) = fs at *
  have c0 := hC1.1 0 (by omega)
  have hconv := own_conv (w := w1.alloc (.cells #[.int .u8 (c 0)] 5)) (g := w1.heap.size) (cap := 1) (l := frameL c []) (by
    intro j hj
    have hj0 : j = 0 := by simp [frameL] at hj; omega
    subst hj0
    have e : ((⟨w1.heap.size, 0, none⟩ : Addr).add 0) = ⟨w1.heap.size, 0, none⟩ := rfl
    rw [e, World.cell?_alloc_new]
    show some (Value.int .u8 (c 0)) = some (Value.int .u8 ((UInt8.ofNat (c 0).toNat).toNat : Int))
    rw [HB.out])
  have hl1 : (frameL c []).length = 1 := rfl
  rw [hl1] at hconv
  clear hl1
  go_wp2_with fail
  have hO := Has.newK (w1.alloc (.cells #[.int .u8 (c 0)] 5)) 23 (c 0)
  have hC2 := (hC1.alloc hz1 (.cells #[.int .u8 (c 0)] 5)).alloc (by simp; omega) (.cells #[.int .i64 (c 0), .int .i64 0, .int .i64 0, .int .i64 0, .int .i64 0, .int .i64 0, .int .i64 0, .int .i64 0, .int .i64 0] 23)
  have hB2 := (hB1.alloc (Nat.le_of_lt hz1) (.cells #[.int .u8 (c 0)] 5)).alloc (by simp; omega) (.cells #[.int .i64 (c 0), .int .i64 0, .int .i64 0, .int .i64 0, .int .i64 0, .int .i64 0, .int .i64 0, .int .i64 0, .int .i64 0] 23)
  have hO' : Has ((w1.alloc (.cells #[.int .u8 (c 0)] 5)).alloc (.cells #[.int .i64 (c 0), .int .i64 0, .int .i64 0, .int .i64 0, .int .i64 0, .int .i64 0, .int .i64 0, .int .i64 0, .int .i64 0] 23)) (w1.heap.size + 1) (onlyTo c fs 0) := by show Has _ _ (base (c 0)); simpa using hO
  clear hC1 hB1 hO hconv c0
  go_loopg [5, 7] fs.length (fun gk sv i wr => ∃ m : Nat, m + gk = fs.length ∧ i = .int .i64 m ∧ sv = .string ⟨(frameL c (fs.take m)).toArray⟩ ∧ Has wr w.heap.size c ∧ Has wr (w1.heap.size + 1) (onlyTo c fs m) ∧ Below w.heap.size w wr ∧ w1.heap.size + 1 < wr.heap.size ∧ okAll c (fs.take m) = true ∧ (frameL c (fs.take m)).length ≤ 4 * m + 1)
  case atStart => exact ⟨0, by omega, rfl, rfl, hC2, hO', hB2, by simp, rfl, by simp [frameL]⟩
  case round =>
    clear hC2 hB2 hO'
    obtain ⟨m, hm, rfl, rfl, hC, hO, hB, hz, hok, hfl⟩ := hrel
    have HOK := hid hok
    have HM := hid hm
    clear hok hm
    have hmle : m ≤ fs.length := by have := HM.out; omega
    by_cases hlt : m < fs.length
    · have hf9 := HF.out (fs[m]) (List.getElem_mem hlt)
      have hlt' : (m : Int) < (S.size : Int) := by omega
      have hSm := hSat.out m (by omega) hlt
      have hb6 : w.heap.size < w1.heap.size + 1 := by omega
      have HST : Hid (∀ j, upd (onlyTo c fs m) (off fs[m]) (c (off fs[m])) j = onlyTo c fs (m + 1) j) := by
        intro j; rw [← getD_lt hlt]; rfl
      have HBad' := hid (fun hb => HBad.out (okAll_bad c fs m hlt hb))
      have HOKs := hid (fun hb => okAll_step c fs m hlt HOK.out hb)
      have HFS := hid (frameL_step c fs m hlt)
      generalize fs[m] = f at *
      have c0 := hC.1 0 (by omega)
      have c1 := hC.1 1 (by omega)
      have c2 := hC.1 2 (by omega)
      have c3 := hC.1 3 (by omega)
      have c4 := hC.1 4 (by omega)
      have c5 := hC.1 5 (by omega)
      have c6 := hC.1 6 (by omega)
      have c7 := hC.1 7 (by omega)
      have c8 := hC.1 8 (by omega)
      go_upto_region 9 with fail
      go_cut [8] from 24 to 59 (fun a wc => a = .int .i64 (c (off f)) ∧ Has wc w.heap.size c ∧ Has wc (w1.heap.size + 1) (onlyTo c fs m) ∧ Below w.heap.size w wc ∧ w1.heap.size + 1 < wc.heap.size)
      case first =>
        go_region_with (go_at_call 17; refine (rget_any c f hf9 _).mono ?_; rintro e w' ⟨rfl, hbg⟩)
        all_goals
          go_wp2_with fail
          go_meet
          have hs := hbg.size
          simp at hs
          exact ⟨rfl, hC.drew.below hbg (by show _ < wr.heap.size; omega), hO.drew.below hbg (by show _ < wr.heap.size; omega), hB.drew.trans (hbg.mono (by show _ ≤ wr.heap.size; omega)), by omega⟩
      case rest =>
        clear c0 c1 c2 c3 c4 c5 c6 c7 c8 hC hO hB hz
        obtain ⟨rfl, hC, hO, hB, hz⟩ := hcut
        cases hb : okB f (c (off f)) with
        | false =>
          have hE := hid (HBad'.out hb)
          have hb2 : c (off f) < lo f ∨ hi f < c (off f) := by
            simp only [okB, Bool.and_eq_false_iff, decide_eq_false_iff_not] at hb; omega
          clear hb
          by_cases hlo : c (off f) < lo f
          · go_wp2_with (go_at_call 18; refine (bounds_any f hf9 _).mono ?_; rintro e w' ⟨rfl, rfl⟩)
            go_ret2
            exact ⟨ret_enc hE.out, hB⟩
          · have hhi : hi f < c (off f) := by omega
            have hlo' : decide (c (off f) < lo f) = false := by simpa using hlo
            go_wp2_with (go_at_call 18; refine (bounds_any f hf9 _).mono ?_; rintro e w' ⟨rfl, rfl⟩)
            go_ret2
            exact ⟨ret_enc hE.out, hB⟩
        | true =>
          have hst := hid (HOKs.out hb)
          have hbd := okB_bounds hb
          have hlo' : decide (c (off f) < lo f) = false := by simp only [okB, Bool.and_eq_true, decide_eq_true_eq] at hb; simp; omega
          have hhi' : decide (hi f < c (off f)) = false := by simp only [okB, Bool.and_eq_true, decide_eq_true_eq] at hb; simp; omega
          obtain ⟨n, hn⟩ := Int.eq_ofNat_of_zero_le hbd.1
          have HFS2 : Hid (frameL c (List.take (m + 1) fs) = frameL c (List.take m fs) ++ be4 n) := by
            show _ = _; rw [HFS.out, hn]; simp
          have HST2 : Hid (∀ j, upd (onlyTo c fs m) (off f) (n : Int) j = onlyTo c fs (m + 1) j) := by
            show ∀ j, _; intro j; rw [← HST.out j, hn]
          rw [hn] at hbd hlo' hhi'
          obtain ⟨hn0, hn1⟩ := hbd
          rw [hn]
          clear hb HFS HST HOKs HBad' hn
          have hcat := str_app (frameL c (List.take m fs)) (be4 n)
          have hnl : ¬ 9223372036854775807 < (frameL c (List.take m fs)).length + (be4 n).length := by rw [be4_len]; omega
          go_wp2_with (first | (go_at_call 18; refine (bounds_any f hf9 _).mono ?_; rintro e w' ⟨rfl, rfl⟩) | (go_at_call 19; refine (four_any n (by omega) _).mono ?_; rintro e w4 ⟨rfl, hb4⟩))
          have hC4 := hC.below hb4 (by omega)
          have hO4 := hO.below hb4 (by omega)
          have hB4 := hB.trans (hb4.mono (by omega))
          have hz4 := hb4.size
          clear hC hO hB hb4
          have q0 := hO4.1 0 (by omega)
          have q1 := hO4.1 1 (by omega)
          have q2 := hO4.1 2 (by omega)
          have q3 := hO4.1 3 (by omega)
          have q4 := hO4.1 4 (by omega)
          have q5 := hO4.1 5 (by omega)
          have q6 := hO4.1 6 (by omega)
          have q7 := hO4.1 7 (by omega)
          have q8 := hO4.1 8 (by omega)
          go_region_with (go_at_call 20; refine (with_any (onlyTo c fs m) f hf9 n _).mono ?_; rintro e w5 ⟨rfl, hb5⟩; have hO5 := hO4.drew.below hb5 (by show _ < w4.heap.size; omega); have r0 := hO5.1 0 (by omega); have r1 := hO5.1 1 (by omega); have r2 := hO5.1 2 (by omega); have r3 := hO5.1 3 (by omega); have r4 := hO5.1 4 (by omega); have r5 := hO5.1 5 (by omega); have r6 := hO5.1 6 (by omega); have r7 := hO5.1 7 (by omega); have r8 := hO5.1 8 (by omega); have rf := hO5.2)
          all_goals
            go_wp2
            go_roundg (gk - 1)
            case measure => have := HM.out; omega
            case rel =>
              have hz5 := hb5.size
              have hz5' : w4.heap.size ≤ w5.heap.size := hz5
              have hC5 := hC4.drew.below hb5 (by show _ < w4.heap.size; omega)
              have hB5 : Below w.heap.size w w5 := hB4.drew.trans (hb5.mono (by show _ ≤ w4.heap.size; omega))
              have p1 := hC5.below (B := w1.heap.size + 1) (Below.put9 (Below.refl _ _) (Nat.le_refl _) (upd (onlyTo c fs m) (off f) n)) (by omega)
              have p2 := (hO5.put9 (upd (onlyTo c fs m) (off f) n)).congr (fun j _ => HST2.out j)
              have p3 := Below.put9 hB5 (Nat.le_of_lt hb6) (upd (onlyTo c fs m) (off f) n)
              have p4 := put9_size w5 (w1.heap.size + 1) (upd (onlyTo c fs m) (off f) n)
              exact ⟨m + 1, by have := HM.out; omega, by go_num, by rw [HFS2.out], p1, p2, p3, by show _ < (put9 w5 (w1.heap.size + 1) (upd (onlyTo c fs m) (off f) n)).heap.size; omega, hst.out, by rw [HFS2.out, List.length_append, be4_len]; omega⟩
    · have hme : m = fs.length := by omega
      rw [hme] at hO
      have hokf := HOK.out
      rw [hme, List.take_length] at hokf
      have HOKF := hid hokf
      have HT : Hid (fs.take m = fs) := by rw [hme, List.take_length]; exact hid rfl
      clear hokf HOK hme
      have Ho := hid (fun j => only_iff c fs j)
      have ho0 := only_zero c fs
      generalize onlyTo c fs fs.length = o at *
      have c0 := hC.1 0 (by omega)
      have c1 := hC.1 1 (by omega)
      have c2 := hC.1 2 (by omega)
      have c3 := hC.1 3 (by omega)
      have c4 := hC.1 4 (by omega)
      have c5 := hC.1 5 (by omega)
      have c6 := hC.1 6 (by omega)
      have c7 := hC.1 7 (by omega)
      have c8 := hC.1 8 (by omega)
      have q0 := hO.1 0 (by omega)
      have q1 := hO.1 1 (by omega)
      have q2 := hO.1 2 (by omega)
      have q3 := hO.1 3 (by omega)
      have q4 := hO.1 4 (by omega)
      have q5 := hO.1 5 (by omega)
      have q6 := hO.1 6 (by omega)
      have q7 := hO.1 7 (by omega)
      have q8 := hO.1 8 (by omega)
      go_wp2
      all_goals
        go_ret2
        refine ⟨?_, hB⟩
        try rw [HT.out]
        first
          | exact ret_enc (HMore.out (more_t 1 (by omega) (fun h => absurd ((Ho.out 1).2 h) (by assumption))))
          | exact ret_enc (HMore.out (more_t 2 (by omega) (fun h => absurd ((Ho.out 2).2 h) (by assumption))))
          | exact ret_enc (HMore.out (more_t 3 (by omega) (fun h => absurd ((Ho.out 3).2 h) (by assumption))))
          | exact ret_enc (HMore.out (more_t 4 (by omega) (fun h => absurd ((Ho.out 4).2 h) (by assumption))))
          | exact ret_enc (HMore.out (more_t 5 (by omega) (fun h => absurd ((Ho.out 5).2 h) (by assumption))))
          | exact ret_enc (HMore.out (more_t 6 (by omega) (fun h => absurd ((Ho.out 6).2 h) (by assumption))))
          | exact ret_enc (HMore.out (more_t 7 (by omega) (fun h => absurd ((Ho.out 7).2 h) (by assumption))))
          | exact ret_enc (HMore.out (more_t 8 (by omega) (fun h => absurd ((Ho.out 8).2 h) (by assumption))))
          | exact ret_enc (HGood.out HOKF.out (more_f (all9.2 ⟨(Ho.out 0).1 ho0, (Ho.out 1).1 (by assumption), (Ho.out 2).1 (by assumption), (Ho.out 3).1 (by assumption), (Ho.out 4).1 (by assumption), (Ho.out 5).1 (by assumption), (Ho.out 6).1 (by assumption), (Ho.out 7).1 (by assumption), (Ho.out 8).1 (by assumption)⟩)))

theorem refEncode_any (c : Nat → Int) (w : World) :
    Calls Try.prog 7 #[.agg #[.int .i64 (c 0), .int .i64 (c 1), .int .i64 (c 2), .int .i64 (c 3), .int .i64 (c 4), .int .i64 (c 5), .int .i64 (c 6), .int .i64 (c 7), .int .i64 (c 8)]] w fun e w' => e = .returned (.tuple #[.string ⟨(encS c).toArray⟩, .int .i64 (encE c)]) ∧ Below w.heap.size w w' := by
  by_cases h : 1 ≤ c 0 ∧ c 0 ≤ 16
  · exact refEncode_yes c w h.1 h.2
  · exact refEncode_no c w (by omega)

end Go.Proofs.Ytalncjhldkcmaaa
