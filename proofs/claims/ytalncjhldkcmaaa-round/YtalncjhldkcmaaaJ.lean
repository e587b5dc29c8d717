/- firnkeep's Round: it is true at every command and every frame. -/
import Derived.Test.YtalncjhldkcmaaaI
namespace Go.Proofs.Ytalncjhldkcmaaa
open Go.RowKit

theorem decode_yes2 (s : ByteArray) (w : World) (hs : s.size ≤ maxLen) {d : Nat → Int} {e : Int} (hd : ∀ i, i < 9 → decC s.data.toList i = d i) (he : decE s.data.toList = e) :
    Calls Try.prog 8 #[.string s] w fun r w' => r = .returned (.tuple #[.agg #[.int .i64 (d 0), .int .i64 (d 1), .int .i64 (d 2), .int .i64 (d 3), .int .i64 (d 4), .int .i64 (d 5), .int .i64 (d 6), .int .i64 (d 7), .int .i64 (d 8)], .int .i64 e]) ∧ Below w.heap.size w w' := by
  refine (decodeF_any s w hs).mono ?_
  rintro r w' ⟨rfl, hb⟩
  rw [hd 0 (by omega), hd 1 (by omega), hd 2 (by omega), hd 3 (by omega), hd 4 (by omega), hd 5 (by omega), hd 6 (by omega), hd 7 (by omega), hd 8 (by omega), he]
  exact ⟨rfl, hb⟩

theorem bytes_eta (s : ByteArray) : (⟨s.data.toList.toArray⟩ : ByteArray) = s := rfl

theorem app_list (S : ByteArray) : (S ++ (⟨#[0]⟩ : ByteArray)).data.toList = S.data.toList ++ [0] := by simp
theorem app_size (S : ByteArray) : (S ++ (⟨#[0]⟩ : ByteArray)).size = S.size + 1 := by rw [ByteArray.size_append]; rfl
theorem cut_list (S : ByteArray) : (S.extract 0 (S.size - 1)).data.toList = S.data.toList.take (S.data.toList.length - 1) := by
  simp [ByteArray.data_extract]
  rw [List.dropLast_eq_take]; rfl
theorem cut_size (S : ByteArray) : (S.extract 0 (S.size - 1)).size ≤ S.size := by simp

set_option maxHeartbeats 1000000 in
theorem round_any (c : Nat → Int) (s : ByteArray) (w : World) (hs : s.size ≤ maxLen) :
    Calls Try.prog 4 #[.agg #[.int .i64 (c 0), .int .i64 (c 1), .int .i64 (c 2), .int .i64 (c 3), .int .i64 (c 4), .int .i64 (c 5), .int .i64 (c 6), .int .i64 (c 7), .int .i64 (c 8)], .string s] w fun e w' => e = .returned (.bool true) ∧ Below w.heap.size w w' := by
  have hC0 := Has.new w 23 c
  have hB0 := (Below.refl w.heap.size w).alloc (Nat.le_refl _) (.cells #[.int .i64 (c 0), .int .i64 (c 1), .int .i64 (c 2), .int .i64 (c 3), .int .i64 (c 4), .int .i64 (c 5), .int .i64 (c 6), .int .i64 (c 7), .int .i64 (c 8)] 23)
  go_enter Try.func4, Try.ntmps4
  go_wp2_with fail
  refine (coding_any _).mono ?_
  rintro e w1 ⟨rfl, hb1⟩
  have hC1 := hC0.below hb1 (by simp)
  have hB1 := hB0.trans (hb1.mono (by simp))
  have hz1 : w.heap.size < w1.heap.size := by have := hb1.size; simp at this; omega
  clear hC0 hB0 hb1
  go_wp2_with fail
  refine (decodeF_any s _ hs).mono ?_
  rintro e w2 ⟨rfl, hb2⟩
  have hC2 := hC1.below hb2 hz1
  have hB2 := hB1.trans (hb2.mono (Nat.le_of_lt hz1))
  have hz2 : w.heap.size < w2.heap.size := by have := hb2.size; omega
  clear hC1 hB1 hb2 hz1
  generalize hd : decC s.data.toList = d
  generalize he : decE s.data.toList = de
  have HD := hid hd
  have HE := hid he
  clear hd he
  go_upto_if 23 with fail
  go_cut [5, 8, 9] from 24 to 44 (fun ok _ _ wc => ok = .bool true ∧ Has wc w.heap.size c ∧ Has wc w2.heap.size d ∧ Below w.heap.size w wc ∧ w2.heap.size < wc.heap.size)
  case first =>
    have hDn := Has.new w2 23 d
    have hCn := hC2.alloc hz2 (.cells #[.int .i64 (d 0), .int .i64 (d 1), .int .i64 (d 2), .int .i64 (d 3), .int .i64 (d 4), .int .i64 (d 5), .int .i64 (d 6), .int .i64 (d 7), .int .i64 (d 8)] 23)
    have hBn := hB2.alloc (Nat.le_of_lt hz2) (.cells #[.int .i64 (d 0), .int .i64 (d 1), .int .i64 (d 2), .int .i64 (d 3), .int .i64 (d 4), .int .i64 (d 5), .int .i64 (d 6), .int .i64 (d 7), .int .i64 (d 8)] 23)
    cases hB : decB s.data.toList with
    | true =>
      have h1 := dec_enc s.data.toList hB
      rw [HD.out] at h1
      have h2 : encE d = 0 := by unfold encE; rw [h1.1]; rfl
      have h3 : de = 0 := by rw [← HE.out]; unfold decE; rw [hB]; rfl
      subst h3
      have H1 := hid (And.intro h1.2 h2)
      clear h1 h2
      go_wp2_with fail
      refine (encodeF_any d _).mono ?_
      rintro e w3 ⟨rfl, hb3⟩
      rw [H1.out.1, H1.out.2, bytes_eta]
      have r1 := hCn.below hb3 (by simp; omega)
      have r2 := hDn.below hb3 (by simp)
      have r3 := hBn.trans (hb3.mono (by simp; omega))
      have r4 := hb3.size
      simp at r4
      clear hCn hDn hBn
      go_wp2
      go_meet
      exact ⟨rfl, r1, r2, r3, r4⟩
    | false =>
      have h1 : d = zero9 := by rw [← HD.out]; unfold decC; rw [hB]; rfl
      have h3 : de = 1 := by rw [← HE.out]; unfold decE; rw [hB]; rfl
      subst h1 h3
      have z0 : zero9 0 = 0 := rfl
      have z1 : zero9 1 = 0 := rfl
      have z2 : zero9 2 = 0 := rfl
      have z3 : zero9 3 = 0 := rfl
      have z4 : zero9 4 = 0 := rfl
      have z5 : zero9 5 = 0 := rfl
      have z6 : zero9 6 = 0 := rfl
      have z7 : zero9 7 = 0 := rfl
      have z8 : zero9 8 = 0 := rfl
      go_wp2
      go_meet
      exact ⟨rfl, hCn, hDn, hBn, by simp⟩
  case rest =>
    clear hC2 hB2 HD HE
    obtain ⟨rfl, hC, hD, hB, hz⟩ := hcut
    have c0 := hC.1 0 (by omega)
    have c1 := hC.1 1 (by omega)
    have c2 := hC.1 2 (by omega)
    have c3 := hC.1 3 (by omega)
    have c4 := hC.1 4 (by omega)
    have c5 := hC.1 5 (by omega)
    have c6 := hC.1 6 (by omega)
    have c7 := hC.1 7 (by omega)
    have c8 := hC.1 8 (by omega)
    go_wp2_with fail
    refine (encodeF_any c _).mono ?_
    rintro e w4 ⟨rfl, hb4⟩
    clear c0 c1 c2 c3 c4 c5 c6 c7 c8
    have hC4 := hC.below hb4 (by omega)
    have hD4 := hD.below hb4 hz
    have hB4 := hB.trans (hb4.mono (by omega))
    have hz4 := hb4.size
    clear hC hD hB hb4
    cases hE : encB c with
    | false =>
      have h1 : encS c = [] := by unfold encS; rw [hE]; rfl
      have h2 : encE c = 1 := by unfold encE; rw [hE]; rfl
      rw [h1, h2]
      clear h1 h2
      go_wp2
      go_ret
      exact ⟨rfl, hB4⟩
    | true =>
      have h1 := enc_dec c hE
      have h2 : encE c = 0 := by unfold encE; rw [hE]; rfl
      have h3 := enc_more_byte c hE
      have h4 := enc_less_byte c hE
      have h5 := enc_len c hE
      rw [h2]
      have H1 := hid h1
      have H3 := hid h3
      have H4 := hid h4
      clear h1 h2 h3 h4
      generalize encS c = l at *
      have hne : (⟨l.toArray⟩ : ByteArray).toList.isEmpty = false := by simp; intro h; rw [h] at h5; simp at h5
      have hsz : (⟨l.toArray⟩ : ByteArray).size = l.length := rfl
      have hsl : (⟨l.toArray⟩ : ByteArray).data.toList = l := rfl
      generalize hS : (⟨l.toArray⟩ : ByteArray) = S at *
      have HS := hid hS
      have HSL := hid hsl
      have hs1 : 0 < S.size := by omega
      have hs2 : S.size ≤ 25 := by omega
      clear hS hsl hsz h5
      go_wp2_with fail
      refine (decode_yes2 S _ (by unfold maxLen; omega) (d := c) (e := 0) (by rw [HSL.out]; exact H1.out.2) (by rw [HSL.out]; exact H1.out.1)).mono ?_
      rintro e w5 ⟨rfl, hb5⟩
      have hC5 := hC4.below hb5 (by omega)
      have hD5 := hD4.below hb5 (by omega)
      have hB5 := hB4.trans (hb5.mono (by omega))
      have hz5 := hb5.size
      clear hC4 hD4 hB4 hb5
      have q0 := hD5.1 0 (by omega)
      have q1 := hD5.1 1 (by omega)
      have q2 := hD5.1 2 (by omega)
      have q3 := hD5.1 3 (by omega)
      have q4 := hD5.1 4 (by omega)
      have q5 := hD5.1 5 (by omega)
      have q6 := hD5.1 6 (by omega)
      have q7 := hD5.1 7 (by omega)
      have q8 := hD5.1 8 (by omega)
      have qf := hD5.2
      go_wp2_with fail
      clear q0 q1 q2 q3 q4 q5 q6 q7 q8 qf
      have hC6 := hC5.below (B := w2.heap.size) (Below.put9 (Below.refl _ _) (Nat.le_refl _) c) hz2
      have hD6 := hD5.put9 c
      have hB6 := Below.put9 hB5 (Nat.le_of_lt hz2) c
      have hz6 := put9_size w5 w2.heap.size c
      change Calls Try.prog 8 _ (put9 w5 w2.heap.size c) _
      generalize put9 w5 w2.heap.size c = w6 at *
      have hz6' : w5.heap.size ≤ w6.heap.size := by omega
      clear hC5 hD5 hB5 hz6
      refine (decode_yes2 _ _ (by rw [app_size]; unfold maxLen; omega) (fun _ _ => rfl) (e := 1) (by rw [app_list, HSL.out]; exact H3.out)).mono ?_
      rintro e w7 ⟨rfl, hb7⟩
      have hC7 := hC6.below hb7 (by omega)
      have hD7 := hD6.below hb7 (by omega)
      have hB7 := hB6.trans (hb7.mono (by omega))
      have hz7 := hb7.size
      clear hC6 hD6 hB6 hb7
      generalize decC (S ++ ⟨#[0]⟩).data.toList = d7
      go_wp2_with fail
      have hC7 := hC7.alloc (by omega) (.cells #[.int .i64 (d7 0), .int .i64 (d7 1), .int .i64 (d7 2), .int .i64 (d7 3), .int .i64 (d7 4), .int .i64 (d7 5), .int .i64 (d7 6), .int .i64 (d7 7), .int .i64 (d7 8)] 23)
      have hD7 := hD7.alloc (by omega) (.cells #[.int .i64 (d7 0), .int .i64 (d7 1), .int .i64 (d7 2), .int .i64 (d7 3), .int .i64 (d7 4), .int .i64 (d7 5), .int .i64 (d7 6), .int .i64 (d7 7), .int .i64 (d7 8)] 23)
      have hB7 := hB7.alloc (by omega) (.cells #[.int .i64 (d7 0), .int .i64 (d7 1), .int .i64 (d7 2), .int .i64 (d7 3), .int .i64 (d7 4), .int .i64 (d7 5), .int .i64 (d7 6), .int .i64 (d7 7), .int .i64 (d7 8)] 23)
      have hz8 : w7.heap.size < (w7.alloc (.cells #[.int .i64 (d7 0), .int .i64 (d7 1), .int .i64 (d7 2), .int .i64 (d7 3), .int .i64 (d7 4), .int .i64 (d7 5), .int .i64 (d7 6), .int .i64 (d7 7), .int .i64 (d7 8)] 23)).heap.size := by simp
      generalize w7.alloc (.cells #[.int .i64 (d7 0), .int .i64 (d7 1), .int .i64 (d7 2), .int .i64 (d7 3), .int .i64 (d7 4), .int .i64 (d7 5), .int .i64 (d7 6), .int .i64 (d7 7), .int .i64 (d7 8)] 23) = w8 at *
      refine (decode_yes2 _ _ (by have := cut_size S; unfold maxLen; omega) (fun _ _ => rfl) (e := 1) (by rw [cut_list, HSL.out]; exact H4.out)).mono ?_
      rintro e w9 ⟨rfl, hb9⟩
      have hC9 := hC7.below hb9 (by omega)
      have hD9 := hD7.below hb9 (by omega)
      have hB9 := hB7.trans (hb9.mono (by omega))
      have hz9 := hb9.size
      clear hC7 hD7 hB7 hb9
      generalize decC (S.extract 0 (S.size - 1)).data.toList = d9
      have c0 := hC9.1 0 (by omega)
      have c1 := hC9.1 1 (by omega)
      have c2 := hC9.1 2 (by omega)
      have c3 := hC9.1 3 (by omega)
      have c4 := hC9.1 4 (by omega)
      have c5 := hC9.1 5 (by omega)
      have c6 := hC9.1 6 (by omega)
      have c7 := hC9.1 7 (by omega)
      have c8 := hC9.1 8 (by omega)
      have q0 := hD9.1 0 (by omega)
      have q1 := hD9.1 1 (by omega)
      have q2 := hD9.1 2 (by omega)
      have q3 := hD9.1 3 (by omega)
      have q4 := hD9.1 4 (by omega)
      have q5 := hD9.1 5 (by omega)
      have q6 := hD9.1 6 (by omega)
      have q7 := hD9.1 7 (by omega)
      have q8 := hD9.1 8 (by omega)
      have hp1 : w2.heap.size < w9.heap.size := by omega
      have hp2 : w.heap.size < w9.heap.size := by omega
      go_wp2
      go_ret
      exact ⟨rfl, hB9.alloc (by omega) _⟩

end Go.Proofs.Ytalncjhldkcmaaa
