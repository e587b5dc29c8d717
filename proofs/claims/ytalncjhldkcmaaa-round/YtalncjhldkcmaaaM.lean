/- Plain mathematics: what is decoded encodes to what it was, and what is encoded decodes to what it was, but not with a byte more or less. -/
import Derived.Test.YtalncjhldkcmaaaG0
namespace Go.Proofs.Ytalncjhldkcmaaa
open Go.RowKit

theorem flds_nodup (k : Int) : ((flds k).map off).Nodup := by
  unfold flds
  repeat (first | (split; · decide) | decide)
theorem flds_pos (k : Int) (h1 : 1 ≤ k) (h2 : k ≤ 16) : 0 < (flds k).length := by
  rcases kinds h1 h2 with rfl | rfl | rfl | rfl | rfl | rfl | rfl | rfl | rfl | rfl | rfl | rfl | rfl | rfl | rfl | rfl <;> decide

theorem getD_lt {fs : List Nat} {j : Nat} (h : j < fs.length) : fs.getD j 0 = fs[j] := by
  rw [List.getD_eq_getElem?_getD, List.getElem?_eq_getElem h]; rfl

theorem off_inj {fs : List Nat} (hn : (fs.map off).Nodup) {i j : Nat} (hi : i < fs.length) (hj : j < fs.length) (h : off fs[i] = off fs[j]) : i = j := by
  have hi' : i < (fs.map off).length := by simpa using hi
  have hj' : j < (fs.map off).length := by simpa using hj
  have hp := List.pairwise_iff_getElem.1 hn
  rcases Nat.lt_trichotomy i j with h' | h' | h'
  · exact absurd (by simpa using h) (hp i j hi' hj' h')
  · exact h'
  · exact absurd (by simpa using h.symm) (hp j i hj' hi' h')

/-- What lies at a field's place behind n rounds. -/
theorem decTo_at (k : Int) (fs : List Nat) (t : List UInt8) (hn : (fs.map off).Nodup) : ∀ (n : Nat), n ≤ fs.length → ∀ j, j < n → (hj' : j < fs.length) → decTo k fs t n (off fs[j]) = (numB t (4 * j) : Nat)
  | 0, _, j, hj, _ => by omega
  | n + 1, hle, j, hj, hj' => by
    show upd (decTo k fs t n) (off (fs.getD n 0)) (numB t (4 * n) : Nat) (off fs[j]) = _
    rw [getD_lt (show n < fs.length by omega)]
    unfold upd
    by_cases e : j = n
    · subst e; simp
    · have : ¬ off fs[j] = off fs[n] := fun h => e (off_inj hn hj' (by omega) h)
      rw [if_neg this]
      exact decTo_at k fs t hn n (by omega) j (by omega) hj'

/-- What lies elsewhere. -/
theorem decTo_else (k : Int) (fs : List Nat) (t : List UInt8) (x : Nat) (hx : x ∉ fs.map off) : ∀ (n : Nat), n ≤ fs.length → decTo k fs t n x = base k x
  | 0, _ => rfl
  | n + 1, hle => by
    show upd (decTo k fs t n) (off (fs.getD n 0)) (numB t (4 * n) : Nat) x = _
    rw [getD_lt (show n < fs.length by omega)]
    unfold upd
    have : ¬ x = off fs[n] := fun h => hx (by rw [h]; exact List.mem_map_of_mem (List.getElem_mem _))
    rw [if_neg this]
    exact decTo_else k fs t x hx n (by omega)

theorem be4_numB (t : List UInt8) (j : Nat) : be4 (numB t j) = [t.getD j 0, t.getD (j + 1) 0, t.getD (j + 2) 0, t.getD (j + 3) 0] := by
  unfold be4 numB
  generalize t.getD j 0 = a
  generalize t.getD (j + 1) 0 = b
  generalize t.getD (j + 2) 0 = c
  generalize t.getD (j + 3) 0 = d
  have := byte_lt a; have := byte_lt b; have := byte_lt c; have := byte_lt d
  have e : ∀ (n : Nat) (u : UInt8), n % 2 ^ 8 = u.toNat → UInt8.ofNat n = u := fun n u h => by
    apply UInt8.toNat_inj.1; rw [UInt8.toNat_ofNat']; exact h
  rw [e _ a (by omega), e _ b (by omega), e _ c (by omega), e _ d (by omega)]

theorem take4 (t : List UInt8) (n : Nat) (h : n + 4 ≤ t.length) : t.take (n + 4) = t.take n ++ [t.getD n 0, t.getD (n + 1) 0, t.getD (n + 2) 0, t.getD (n + 3) 0] := by
  have g : ∀ i, (hi : i < t.length) → t.getD i 0 = t[i] := fun i hi => by rw [List.getD_eq_getElem?_getD, List.getElem?_eq_getElem hi]; rfl
  rw [g n (by omega), g (n + 1) (by omega), g (n + 2) (by omega), g (n + 3) (by omega)]
  rw [List.take_succ_eq_append_getElem (show n + 3 < t.length by omega), List.take_succ_eq_append_getElem (show n + 2 < t.length by omega), List.take_succ_eq_append_getElem (show n + 1 < t.length by omega), List.take_succ_eq_append_getElem (show n < t.length by omega)]
  simp only [List.append_assoc, List.cons_append, List.nil_append]

theorem flat_takeM (d : Nat → Int) (fs : List Nat) (t : List UInt8) (hd : ∀ j (h : j < fs.length), d (off fs[j]) = (numB t (4 * j) : Nat)) : ∀ n, n ≤ fs.length → 4 * n ≤ t.length → (fs.take n).flatMap (fun f => be4 (d (off f)).toNat) = t.take (4 * n)
  | 0, _, _ => by simp
  | n + 1, h1, h2 => by
    rw [List.take_succ_eq_append_getElem (show n < fs.length by omega), List.flatMap_append, flat_takeM d fs t hd n (by omega) (by omega)]
    have : 4 * (n + 1) = 4 * n + 4 := by omega
    rw [this, take4 t (4 * n) (by omega), ← be4_numB]
    simp [hd n (by omega)]

theorem dec_enc (l : List UInt8) (h : decB l = true) : encB (decC l) = true ∧ encS (decC l) = l := by
  match l, h with
  | k :: t, h =>
    have hh := h
    unfold decB at h
    simp only [Bool.and_eq_true, decide_eq_true_eq] at h
    obtain ⟨⟨⟨h1, h2⟩, h3⟩, h4⟩ := h
    have hdc : decC (k :: t) = decTo k.toNat (flds k.toNat) t (flds k.toNat).length := by unfold decC; rw [hh]; rfl
    rw [hdc]
    have hn := flds_nodup k.toNat
    have hat := decTo_at k.toNat (flds k.toNat) t hn (flds k.toNat).length (Nat.le_refl _)
    have hel := fun x hx => decTo_else k.toNat (flds k.toNat) t x hx (flds k.toNat).length (Nat.le_refl _)
    generalize hd : decTo k.toNat (flds k.toNat) t (flds k.toNat).length = d at *
    have h0 : d 0 = (k.toNat : Int) := by
      rw [hel 0 (by simp only [List.mem_map, not_exists, not_and]; intro f _ h; have := off_pos f; omega)]; simp [base]
    have hfl : flds (d 0) = flds k.toNat := by rw [h0]
    have hok : okAll d (flds (d 0)) = true := by
      rw [hfl]
      unfold okAll
      rw [List.all_eq_true]
      intro f hf
      obtain ⟨j, hj, rfl⟩ := List.getElem_of_mem hf
      unfold okTo at h4
      rw [List.all_eq_true] at h4
      have := h4 j (List.mem_range.2 hj)
      rw [getD_lt hj] at this
      rw [hat j hj hj]; exact this
    have hmore : moreB d (flds (d 0)) = false := by
      rw [hfl]
      refine more_f fun i _ => ?_
      unfold clr
      by_cases hi : i = 0 ∨ i ∈ (flds k.toNat).map off
      · rw [if_pos hi]
      · rw [if_neg hi, hel i (fun h => hi (.inr h))]
        simp only [base]
        rw [if_neg (fun h => hi (.inl h))]
    have hB : encB d = true := by
      unfold encB
      rw [hok, hmore, h0]
      simp only [Bool.and_eq_true, decide_eq_true_eq, Bool.not_false, and_true]
      omega
    refine ⟨hB, ?_⟩
    unfold encS
    rw [hB, if_pos rfl]
    unfold frameL
    rw [hfl, h0]
    have := flat_takeM d (flds k.toNat) t (fun j hj => hat j hj hj) (flds k.toNat).length (Nat.le_refl _) (by omega)
    rw [List.take_length, ← h3, List.take_length] at this
    rw [this]
    simp

theorem flat_getD (g : Nat → Nat) : ∀ (fs : List Nat) (j r : Nat), r < 4 → (hj : j < fs.length) → (fs.flatMap fun f => be4 (g f)).getD (4 * j + r) 0 = (be4 (g fs[j])).getD r 0
  | f :: fs, 0, r, hr, _ => by
    simp only [List.flatMap_cons, List.getElem_cons_zero]
    rw [List.getD_eq_getElem?_getD, List.getElem?_append_left (by rw [be4_len]; omega), List.getD_eq_getElem?_getD]
    simp
  | f :: fs, j + 1, r, hr, hj => by
    simp only [List.flatMap_cons, List.getElem_cons_succ]
    rw [List.getD_eq_getElem?_getD, List.getElem?_append_right (by rw [be4_len]; omega), be4_len, ← List.getD_eq_getElem?_getD]
    have : 4 * (j + 1) + r - 4 = 4 * j + r := by omega
    rw [this]
    exact flat_getD g fs j r hr (by simpa using hj)

theorem numB_be4 (v : Nat) (h : v < 4294967296) : ((be4 v).getD 0 0).toNat * 16777216 + ((be4 v).getD 1 0).toNat * 65536 + ((be4 v).getD 2 0).toNat * 256 + ((be4 v).getD 3 0).toNat = v := by
  show (UInt8.ofNat (v / 16777216)).toNat * 16777216 + (UInt8.ofNat (v / 65536)).toNat * 65536 + (UInt8.ofNat (v / 256)).toNat * 256 + (UInt8.ofNat v).toNat = v
  rw [UInt8.toNat_ofNat', UInt8.toNat_ofNat', UInt8.toNat_ofNat', UInt8.toNat_ofNat']
  omega

theorem flat_numB (g : Nat → Nat) (fs : List Nat) (j : Nat) (hj : j < fs.length) (h : g fs[j] < 4294967296) : numB (fs.flatMap fun f => be4 (g f)) (4 * j) = g fs[j] := by
  have e0 := flat_getD g fs j 0 (by omega) hj
  have e1 := flat_getD g fs j 1 (by omega) hj
  have e2 := flat_getD g fs j 2 (by omega) hj
  have e3 := flat_getD g fs j 3 (by omega) hj
  rw [Nat.add_zero] at e0
  unfold numB
  rw [e0, e1, e2, e3]
  exact numB_be4 _ h

theorem flat_len (g : Nat → Nat) (fs : List Nat) : (fs.flatMap fun f => be4 (g f)).length = 4 * fs.length := by
  induction fs with
  | nil => rfl
  | cons f fs ih => rw [List.flatMap_cons, List.length_append, be4_len, ih, List.length_cons]; omega

structure EncParts (c : Nat → Int) (k : UInt8) (t : List UInt8) : Prop where
  k0 : (k.toNat : Int) = c 0
  k1 : 1 ≤ k.toNat
  k16 : k.toNat ≤ 16
  eq : encS c = k :: t
  len : t.length = 4 * (flds k.toNat).length
  ok : okTo (flds k.toNat) t (flds k.toNat).length = true
  num : ∀ j (h : j < (flds k.toNat).length), ((numB t (4 * j) : Nat) : Int) = c (off (flds k.toNat)[j])
  more : ∀ i, i < 9 → clr c (flds k.toNat) i = 0

theorem moreB_false {c : Nat → Int} {fs : List Nat} (h : moreB c fs = false) : ∀ i, i < 9 → clr c fs i = 0 := by
  intro i hi
  unfold moreB at h
  rw [Bool.not_eq_false', List.all_eq_true] at h
  simpa using h i (List.mem_range.2 hi)

theorem enc_parts (c : Nat → Int) (h : encB c = true) : ∃ k t, EncParts c k t := by
  have hh := h
  unfold encB at h
  simp only [Bool.and_eq_true, decide_eq_true_eq, Bool.not_eq_true'] at h
  obtain ⟨⟨⟨h1, h2⟩, h3⟩, h4⟩ := h
  have hk := byte_small (c 0) h1 h2
  have hfl : flds ((UInt8.ofNat (c 0).toNat).toNat : Int) = flds (c 0) := by rw [hk]
  have hb : ∀ f ∈ flds (c 0), okB f (c (off f)) = true := by
    unfold okAll at h3; rw [List.all_eq_true] at h3; exact h3
  have hnum : ∀ j (h : j < (flds (c 0)).length), numB ((flds (c 0)).flatMap fun f => be4 (c (off f)).toNat) (4 * j) = (c (off (flds (c 0))[j])).toNat := by
    intro j hj
    have := okB_bounds (hb _ (List.getElem_mem hj))
    exact flat_numB (fun f => (c (off f)).toNat) (flds (c 0)) j hj (by omega)
  have hnum' : ∀ j (h : j < (flds (c 0)).length), ((numB ((flds (c 0)).flatMap fun f => be4 (c (off f)).toNat) (4 * j) : Nat) : Int) = c (off (flds (c 0))[j]) := by
    intro j hj
    have := okB_bounds (hb _ (List.getElem_mem hj))
    rw [hnum j hj]; omega
  refine ⟨UInt8.ofNat (c 0).toNat, (flds (c 0)).flatMap fun f => be4 (c (off f)).toNat, hk, by omega, by omega, ?_, ?_, ?_, ?_, ?_⟩
  · unfold encS; rw [hh, if_pos rfl]; rfl
  · rw [hfl]; exact flat_len (fun f => (c (off f)).toNat) (flds (c 0))
  · rw [hfl]
    unfold okTo
    rw [List.all_eq_true]
    intro j hj
    have hj' := List.mem_range.1 hj
    rw [getD_lt hj', hnum' j hj']
    exact hb _ (List.getElem_mem hj')
  · rw [hfl]; exact hnum'
  · rw [hfl]; exact moreB_false h4

theorem enc_dec (c : Nat → Int) (h : encB c = true) : decE (encS c) = 0 ∧ (∀ i, i < 9 → decC (encS c) i = c i) := by
  obtain ⟨k, t, P⟩ := enc_parts c h
  have hg := dec_good k t P.k1 P.k16 P.len P.ok
  rw [P.eq, hg.1]
  refine ⟨hg.2, fun i hi => ?_⟩
  by_cases hm : i ∈ (flds k.toNat).map off
  · obtain ⟨f, hf, rfl⟩ := List.mem_map.1 hm
    obtain ⟨j, hj, rfl⟩ := List.getElem_of_mem hf
    rw [decTo_at _ _ _ (flds_nodup _) _ (Nat.le_refl _) j hj hj]
    exact P.num j hj
  · rw [decTo_else _ _ _ i hm _ (Nat.le_refl _)]
    unfold base
    by_cases h0 : i = 0
    · rw [if_pos h0, h0]; exact P.k0
    · rw [if_neg h0]
      have := P.more i hi
      unfold clr at this
      rw [if_neg (by simp [h0, hm])] at this
      exact this.symm

theorem enc_more_byte (c : Nat → Int) (h : encB c = true) : decE (encS c ++ [0]) = 1 := by
  obtain ⟨k, t, P⟩ := enc_parts c h
  rw [P.eq]
  exact (dec_len k (t ++ [0]) (by rw [List.length_append, P.len]; simp)).2

theorem enc_less_byte (c : Nat → Int) (h : encB c = true) : decE ((encS c).take ((encS c).length - 1)) = 1 := by
  obtain ⟨k, t, P⟩ := enc_parts c h
  have hp := flds_pos k.toNat (by have := P.k1; omega) (by have := P.k16; omega)
  rw [P.eq]
  have e : (k :: t).take ((k :: t).length - 1) = k :: t.take (t.length - 1) := by
    have hl := P.len
    rw [List.length_cons, Nat.add_sub_cancel]
    obtain ⟨n, hn⟩ : ∃ n, t.length = n + 1 := ⟨t.length - 1, by omega⟩
    rw [hn]; rfl
  rw [e]
  exact (dec_len k _ (by rw [List.length_take, P.len]; omega)).2

theorem enc_ne (c : Nat → Int) (h : encB c = true) : encS c ≠ [] := by
  obtain ⟨k, t, P⟩ := enc_parts c h
  rw [P.eq]; simp
theorem enc_len (c : Nat → Int) (h : encB c = true) : 0 < (encS c).length ∧ (encS c).length ≤ 25 := by
  obtain ⟨k, t, P⟩ := enc_parts c h
  have := flds_len k.toNat
  rw [P.eq, List.length_cons, P.len]; omega

end Go.Proofs.Ytalncjhldkcmaaa
