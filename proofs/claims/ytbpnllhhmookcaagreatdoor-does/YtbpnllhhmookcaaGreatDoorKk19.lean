/- Plain mathematics: what is decoded encodes to what it was, and what is encoded decodes to what it was, but not with a byte more or less. -/
import Derived.Test.YtbpnllhhmookcaaGreatDoorKk02
import Derived.Test.YtbpnllhhmookcaaGreatDoorKk16
namespace Go.Proofs.YtbpnllhhmookcaaGreatDoor
open Go.RowKit

theorem flds_nodup (k : Int) : ((flds k).map off).Nodup := by
  unfold flds
  repeat (first | (split; · decide) | decide)
theorem flds_pos (k : Int) (h1 : 1 ≤ k) (h2 : k ≤ 16) : 0 < (flds k).length := by
  rcases kinds h1 h2 with rfl | rfl | rfl | rfl | rfl | rfl | rfl | rfl | rfl | rfl | rfl | rfl | rfl | rfl | rfl | rfl <;> decide

theorem getD_lt {fs : List Nat} {j : Nat} (h : j < fs.length) : fs.getD j 0 = fs[j] := by
  rw [List.getD_eq_getElem?_getD, List.getElem?_eq_getElem h]; rfl

theorem off_inj {fs : List Nat} (hn : (fs.map off).Nodup) {i j : Nat} (hi : i < fs.length) (hj : j < fs.length) (h : off fs[i] = off fs[j]) : i = j := by
  have hi' : i < (fs.map off).length := by simpa using hi
  have hj' : j < (fs.map off).length := by simpa using hj
  have hp := List.pairwise_iff_getElem.1 hn
  rcases Nat.lt_trichotomy i j with h' | h' | h'
  · exact absurd (by simpa using h) (hp i j hi' hj' h')
  · exact h'
  · exact absurd (by simpa using h.symm) (hp j i hj' hi' h')

/-- What lies at a field's place behind n rounds. -/
theorem decTo_at (k : Int) (fs : List Nat) (t : List UInt8) (hn : (fs.map off).Nodup) : ∀ (n : Nat), n ≤ fs.length → ∀ j, j < n → (hj' : j < fs.length) → decTo k fs t n (off fs[j]) = (numB t (4 * j) : Nat)
  | 0, _, j, hj, _ => by omega
  | n + 1, hle, j, hj, hj' => by
    show upd (decTo k fs t n) (off (fs.getD n 0)) (numB t (4 * n) : Nat) (off fs[j]) = _
    rw [getD_lt (show n < fs.length by omega)]
    unfold upd
    by_cases e : j = n
    · subst e; simp
    · have : ¬ off fs[j] = off fs[n] := fun h => e (off_inj hn hj' (by omega) h)
      rw [if_neg this]
      exact decTo_at k fs t hn n (by omega) j (by omega) hj'

/-- What lies elsewhere. -/
theorem decTo_else (k : Int) (fs : List Nat) (t : List UInt8) (x : Nat) (hx : x ∉ fs.map off) : ∀ (n : Nat), n ≤ fs.length → decTo k fs t n x = base k x
  | 0, _ => rfl
  | n + 1, hle => by
    show upd (decTo k fs t n) (off (fs.getD n 0)) (numB t (4 * n) : Nat) x = _
    rw [getD_lt (show n < fs.length by omega)]
    unfold upd
    have : ¬ x = off fs[n] := fun h => hx (by rw [h]; exact List.mem_map_of_mem (List.getElem_mem _))
    rw [if_neg this]
    exact decTo_else k fs t x hx n (by omega)

theorem be4_numB (t : List UInt8) (j : Nat) : be4 (numB t j) = [t.getD j 0, t.getD (j + 1) 0, t.getD (j + 2) 0, t.getD (j + 3) 0] := by
  unfold be4 numB
  generalize t.getD j 0 = a
  generalize t.getD (j + 1) 0 = b
  generalize t.getD (j + 2) 0 = c
  generalize t.getD (j + 3) 0 = d
  have := byte_lt a; have := byte_lt b; have := byte_lt c; have := byte_lt d
  have e : ∀ (n : Nat) (u : UInt8), n % 2 ^ 8 = u.toNat → UInt8.ofNat n = u := fun n u h => by
    apply UInt8.toNat_inj.1; rw [UInt8.toNat_ofNat']; exact h
  rw [e _ a (by omega), e _ b (by omega), e _ c (by omega), e _ d (by omega)]

theorem take4 (t : List UInt8) (n : Nat) (h : n + 4 ≤ t.length) : t.take (n + 4) = t.take n ++ [t.getD n 0, t.getD (n + 1) 0, t.getD (n + 2) 0, t.getD (n + 3) 0] := by
  have g : ∀ i, (hi : i < t.length) → t.getD i 0 = t[i] := fun i hi => by rw [List.getD_eq_getElem?_getD, List.getElem?_eq_getElem hi]; rfl
  rw [g n (by omega), g (n + 1) (by omega), g (n + 2) (by omega), g (n + 3) (by omega)]
  rw [List.take_succ_eq_append_getElem (show n + 3 < t.length by omega), List.take_succ_eq_append_getElem (show n + 2 < t.length by omega), List.take_succ_eq_append_getElem (show n + 1 < t.length by omega), List.take_succ_eq_append_getElem (show n < t.length by omega)]
  simp only [List.append_assoc, List.cons_append, List.nil_append]

theorem flat_takeM (d : Nat → Int) (fs : List Nat) (t : List UInt8) (hd : ∀ j (h : j < fs.length), d (off fs[j]) = (numB t (4 * j) : Nat)) : ∀ n, n ≤ fs.length → 4 * n ≤ t.length → (fs.take n).flatMap (fun f => be4 (d (off f)).toNat) = t.take (4 * n)
  | 0, _, _ => by simp
  | n + 1, h1, h2 => by
    rw [List.take_succ_eq_append_getElem (show n < fs.length by omega), List.flatMap_append, flat_takeM d fs t hd n (by omega) (by omega)]
    have : 4 * (n + 1) = 4 * n + 4 := by omega
    rw [this, take4 t (4 * n) (by omega), ← be4_numB]
    simp [hd n (by omega)]

theorem dec_enc (l : List UInt8) (h : decB l = true) : encB (decC l) = true ∧ encS (decC l) = l := by
  match l, h with
  | k :: t, h =>
    have hh := h
    unfold decB at h
    simp only [Bool.and_eq_true, decide_eq_true_eq] at h
    obtain ⟨⟨⟨h1, h2⟩, h3⟩, h4⟩ := h
    have hdc : decC (k :: t) = decTo k.toNat (flds k.toNat) t (flds k.toNat).length := by unfold decC; rw [hh]; rfl
    rw [hdc]
    have hn := flds_nodup k.toNat
    have hat := decTo_at k.toNat (flds k.toNat) t hn (flds k.toNat).length (Nat.le_refl _)
    have hel := fun x hx => decTo_else k.toNat (flds k.toNat) t x hx (flds k.toNat).length (Nat.le_refl _)
    generalize hd : decTo k.toNat (flds k.toNat) t (flds k.toNat).length = d at *
    have h0 : d 0 = (k.toNat : Int) := by
      rw [hel 0 (by simp only [List.mem_map, not_exists, not_and]; intro f _ h; have := off_pos f; omega)]; simp [base]
    have hfl : flds (d 0) = flds k.toNat := by rw [h0]
    have hok : okAll d (flds (d 0)) = true := by
      rw [hfl]
      unfold okAll
      rw [List.all_eq_true]
      intro f hf
      obtain ⟨j, hj, rfl⟩ := List.getElem_of_mem hf
      unfold okTo at h4
      rw [List.all_eq_true] at h4
      have := h4 j (List.mem_range.2 hj)
      rw [getD_lt hj] at this
      rw [hat j hj hj]; exact this
    have hmore : moreB d (flds (d 0)) = false := by
      rw [hfl]
      refine more_f fun i _ => ?_
      unfold clr
      by_cases hi : i = 0 ∨ i ∈ (flds k.toNat).map off
      · rw [if_pos hi]
      · rw [if_neg hi, hel i (fun h => hi (.inr h))]
        simp only [base]
        rw [if_neg (fun h => hi (.inl h))]
    have hB : encB d = true := by
      unfold encB
      rw [hok, hmore, h0]
      simp only [Bool.and_eq_true, decide_eq_true_eq, Bool.not_false, and_true]
      omega
    refine ⟨hB, ?_⟩
    unfold encS
    rw [hB, if_pos rfl]
    unfold frameL
    rw [hfl, h0]
    have := flat_takeM d (flds k.toNat) t (fun j hj => hat j hj hj) (flds k.toNat).length (Nat.le_refl _) (by omega)
    rw [List.take_length, ← h3, List.take_length] at this
    rw [this]
    simp

theorem flat_getD (g : Nat → Nat) : ∀ (fs : List Nat) (j r : Nat), r < 4 → (hj : j < fs.length) → (fs.flatMap fun f => be4 (g f)).getD (4 * j + r) 0 = (be4 (g fs[j])).getD r 0
  | f :: fs, 0, r, hr, _ => by
    simp only [List.flatMap_cons, List.getElem_cons_zero]
    rw [List.getD_eq_getElem?_getD, List.getElem?_append_left (by rw [be4_len]; omega), List.getD_eq_getElem?_getD]
    simp
  | f :: fs, j + 1, r, hr, hj => by
    simp only [List.flatMap_cons, List.getElem_cons_succ]
    rw [List.getD_eq_getElem?_getD, List.getElem?_append_right (by rw [be4_len]; omega), be4_len, ← List.getD_eq_getElem?_getD]
    have : 4 * (j + 1) + r - 4 = 4 * j + r := by omega
    rw [this]
    exact flat_getD g fs j r hr (by simpa using hj)

theorem numB_be4 (v : Nat) (h : v < 4294967296) : ((be4 v).getD 0 0).toNat * 16777216 + ((be4 v).getD 1 0).toNat * 65536 + ((be4 v).getD 2 0).toNat * 256 + ((be4 v).getD 3 0).toNat = v := by
  show (UInt8.ofNat (v / 16777216)).toNat * 16777216 + (UInt8.ofNat (v / 65536)).toNat * 65536 + (UInt8.ofNat (v / 256)).toNat * 256 + (UInt8.ofNat v).toNat = v
  rw [UInt8.toNat_ofNat', UInt8.toNat_ofNat', UInt8.toNat_ofNat', UInt8.toNat_ofNat']
  omega

theorem flat_numB (g : Nat → Nat) (fs : List Nat) (j : Nat) (hj : j < fs.length) (h : g fs[j] < 4294967296) : numB (fs.flatMap fun f => be4 (g f)) (4 * j) = g fs[j] := by
  have e0 := flat_getD g fs j 0 (by omega) hj
  have e1 := flat_getD g fs j 1 (by omega) hj
  have e2 := flat_getD g fs j 2 (by omega) hj
  have e3 := flat_getD g fs j 3 (by omega) hj
  rw [Nat.add_zero] at e0
  unfold numB
  rw [e0, e1, e2, e3]
  exact numB_be4 _ h

theorem flat_len (g : Nat → Nat) (fs : List Nat) : (fs.flatMap fun f => be4 (g f)).length = 4 * fs.length := by
  induction fs with
  | nil => rfl
  | cons f fs ih => rw [List.flatMap_cons, List.length_append, be4_len, ih, List.length_cons]; omega

structure EncParts (c : Nat → Int) (k : UInt8) (t : List UInt8) : Prop where
  k0 : (k.toNat : Int) = c 0
  k1 : 1 ≤ k.toNat
  k16 : k.toNat ≤ 16
  eq : encS c = k :: t
  len : t.length = 4 * (flds k.toNat).length
  ok : okTo (flds k.toNat) t (flds k.toNat).length = true
  num : ∀ j (h : j < (flds k.toNat).length), ((numB t (4 * j) : Nat) : Int) = c (off (flds k.toNat)[j])
  more : ∀ i, i < 9 → clr c (flds k.toNat) i = 0

theorem moreB_false {c : Nat → Int} {fs : List Nat} (h : moreB c fs = false) : ∀ i, i < 9 → clr c fs i = 0 := by
  intro i hi
  unfold moreB at h
  rw [Bool.not_eq_false', List.all_eq_true] at h
  simpa using h i (List.mem_range.2 hi)

theorem enc_parts (c : Nat → Int) (h : encB c = true) : ∃ k t, EncParts c k t := by
  have hh := h
  unfold encB at h
  simp only [Bool.and_eq_true, decide_eq_true_eq, Bool.not_eq_true'] at h
  obtain ⟨⟨⟨h1, h2⟩, h3⟩, h4⟩ := h
  have hk := byte_small (c 0) h1 h2
  have hfl : flds ((UInt8.ofNat (c 0).toNat).toNat : Int) = flds (c 0) := by rw [hk]
  have hb : ∀ f ∈ flds (c 0), okB f (c (off f)) = true := by
    unfold okAll at h3; rw [List.all_eq_true] at h3; exact h3
  have hnum : ∀ j (h : j < (flds (c 0)).length), numB ((flds (c 0)).flatMap fun f => be4 (c (off f)).toNat) (4 * j) = (c (off (flds (c 0))[j])).toNat := by
    intro j hj
    have := okB_bounds (hb _ (List.getElem_mem hj))
    exact flat_numB (fun f => (c (off f)).toNat) (flds (c 0)) j hj (by omega)
  have hnum' : ∀ j (h : j < (flds (c 0)).length), ((numB ((flds (c 0)).flatMap fun f => be4 (c (off f)).toNat) (4 * j) : Nat) : Int) = c (off (flds (c 0))[j]) := by
    intro j hj
    have := okB_bounds (hb _ (List.getElem_mem hj))
    rw [hnum j hj]; omega
  refine ⟨UInt8.ofNat (c 0).toNat, (flds (c 0)).flatMap fun f => be4 (c (off f)).toNat, hk, by omega, by omega, ?_, ?_, ?_, ?_, ?_⟩
  · unfold encS; rw [hh, if_pos rfl]; rfl
  · rw [hfl]; exact flat_len (fun f => (c (off f)).toNat) (flds (c 0))
  · rw [hfl]
    unfold okTo
    rw [List.all_eq_true]
    intro j hj
    have hj' := List.mem_range.1 hj
    rw [getD_lt hj', hnum' j hj']
    exact hb _ (List.getElem_mem hj')
  · rw [hfl]; exact hnum'
  · rw [hfl]; exact moreB_false h4

theorem enc_dec (c : Nat → Int) (h : encB c = true) : decE (encS c) = 0 ∧ (∀ i, i < 9 → decC (encS c) i = c i) := by
  obtain ⟨k, t, P⟩ := enc_parts c h
  have hg := dec_good k t P.k1 P.k16 P.len P.ok
  rw [P.eq, hg.1]
  refine ⟨hg.2, fun i hi => ?_⟩
  by_cases hm : i ∈ (flds k.toNat).map off
  · obtain ⟨f, hf, rfl⟩ := List.mem_map.1 hm
    obtain ⟨j, hj, rfl⟩ := List.getElem_of_mem hf
    rw [decTo_at _ _ _ (flds_nodup _) _ (Nat.le_refl _) j hj hj]
    exact P.num j hj
  · rw [decTo_else _ _ _ i hm _ (Nat.le_refl _)]
    unfold base
    by_cases h0 : i = 0
    · rw [if_pos h0, h0]; exact P.k0
    · rw [if_neg h0]
      have := P.more i hi
      unfold clr at this
      rw [if_neg (by simp [h0, hm])] at this
      exact this.symm

theorem enc_more_byte (c : Nat → Int) (h : encB c = true) : decE (encS c ++ [0]) = 1 := by
  obtain ⟨k, t, P⟩ := enc_parts c h
  rw [P.eq]
  exact (dec_len k (t ++ [0]) (by rw [List.length_append, P.len]; simp)).2

theorem enc_less_byte (c : Nat → Int) (h : encB c = true) : decE ((encS c).take ((encS c).length - 1)) = 1 := by
  obtain ⟨k, t, P⟩ := enc_parts c h
  have hp := flds_pos k.toNat (by have := P.k1; omega) (by have := P.k16; omega)
  rw [P.eq]
  have e : (k :: t).take ((k :: t).length - 1) = k :: t.take (t.length - 1) := by
    have hl := P.len
    rw [List.length_cons, Nat.add_sub_cancel]
    obtain ⟨n, hn⟩ : ∃ n, t.length = n + 1 := ⟨t.length - 1, by omega⟩
    rw [hn]; rfl
  rw [e]
  exact (dec_len k _ (by rw [List.length_take, P.len]; omega)).2

theorem enc_ne (c : Nat → Int) (h : encB c = true) : encS c ≠ [] := by
  obtain ⟨k, t, P⟩ := enc_parts c h
  rw [P.eq]; simp
theorem enc_len (c : Nat → Int) (h : encB c = true) : 0 < (encS c).length ∧ (encS c).length ≤ 25 := by
  obtain ⟨k, t, P⟩ := enc_parts c h
  have := flds_len k.toNat
  rw [P.eq, List.length_cons, P.len]; omega

end Go.Proofs.YtbpnllhhmookcaaGreatDoor

/- A command's numbers, as Decode lets them be. -/
namespace Go.Proofs.YtbpnllhhmookcaaGreatDoor
open Go.RowKit

structure Cm where
  k : Nat
  t : Nat
  o : Nat
  d : Nat
  v : Nat
  b : Nat
  x : Nat
  y : Nat
  n : Nat

def Cm.ints (m : Cm) : Nat → Int
  | 0 => m.k
  | 1 => m.t
  | 2 => m.o
  | 3 => m.d
  | 4 => m.v
  | 5 => m.b
  | 6 => m.x
  | 7 => m.y
  | 8 => m.n
  | _ => 0
def Cm.of (c : Nat → Int) : Cm := ⟨(c 0).toNat, (c 1).toNat, (c 2).toNat, (c 3).toNat, (c 4).toNat, (c 5).toNat, (c 6).toNat, (c 7).toNat, (c 8).toNat⟩
def Cm.val (m : Cm) : Value := .agg #[.int .i64 m.k, .int .i64 m.t, .int .i64 m.o, .int .i64 m.d, .int .i64 m.v, .int .i64 m.b, .int .i64 m.x, .int .i64 m.y, .int .i64 m.n]

structure Cm.Ok (m : Cm) : Prop where
  k : 1 ≤ m.k ∧ m.k ≤ 16
  t : m.t ≤ 999
  o : m.o ≤ 999
  d : m.d ≤ 99
  v : m.v ≤ 1000000
  b : m.b ≤ 9
  x : m.x ≤ 4
  y : m.y ≤ 4
  n : m.n ≤ 5
  t1 : m.k = 2 ∨ m.k = 3 ∨ m.k = 4 ∨ m.k = 5 ∨ m.k = 6 ∨ m.k = 7 ∨ m.k = 8 ∨ m.k = 12 ∨ m.k = 15 ∨ m.k = 16 → 1 ≤ m.t
  o1 : m.k = 4 ∨ m.k = 5 → 1 ≤ m.o
  d1 : m.k = 2 ∨ m.k = 9 ∨ m.k = 14 → 1 ≤ m.d
  v1 : m.k = 2 ∨ m.k = 4 ∨ m.k = 5 ∨ m.k = 6 → 1 ≤ m.v
  b1 : m.k = 1 ∨ m.k = 2 ∨ m.k = 3 ∨ m.k = 4 ∨ m.k = 8 ∨ m.k = 10 ∨ m.k = 11 ∨ m.k = 13 → 1 ≤ m.b
  n1 : m.k = 1 ∨ m.k = 10 → 1 ≤ m.n
  n3 : m.k = 10 → m.n ≤ 3

/-- What a command that may be encoded has. -/
structure CmI (c : Nat → Int) : Prop where
  k : 1 ≤ c 0 ∧ c 0 ≤ 16
  t : 0 ≤ c 1 ∧ c 1 ≤ 999
  o : 0 ≤ c 2 ∧ c 2 ≤ 999
  d : 0 ≤ c 3 ∧ c 3 ≤ 99
  v : 0 ≤ c 4 ∧ c 4 ≤ 1000000
  b : 0 ≤ c 5 ∧ c 5 ≤ 9
  x : 0 ≤ c 6 ∧ c 6 ≤ 4
  y : 0 ≤ c 7 ∧ c 7 ≤ 4
  n : 0 ≤ c 8 ∧ c 8 ≤ 5
  t1 : c 0 = 2 ∨ c 0 = 3 ∨ c 0 = 4 ∨ c 0 = 5 ∨ c 0 = 6 ∨ c 0 = 7 ∨ c 0 = 8 ∨ c 0 = 12 ∨ c 0 = 15 ∨ c 0 = 16 → 1 ≤ c 1
  o1 : c 0 = 4 ∨ c 0 = 5 → 1 ≤ c 2
  d1 : c 0 = 2 ∨ c 0 = 9 ∨ c 0 = 14 → 1 ≤ c 3
  v1 : c 0 = 2 ∨ c 0 = 4 ∨ c 0 = 5 ∨ c 0 = 6 → 1 ≤ c 4
  b1 : c 0 = 1 ∨ c 0 = 2 ∨ c 0 = 3 ∨ c 0 = 4 ∨ c 0 = 8 ∨ c 0 = 10 ∨ c 0 = 11 ∨ c 0 = 13 → 1 ≤ c 5
  n1 : c 0 = 1 ∨ c 0 = 10 → 1 ≤ c 8
  n3 : c 0 = 10 → c 8 ≤ 3

set_option maxHeartbeats 2000000 in
theorem cmI_of {c : Nat → Int} (h : encB c = true) : CmI c := by
  unfold encB at h
  simp only [Bool.and_eq_true, decide_eq_true_eq, Bool.not_eq_true'] at h
  obtain ⟨⟨⟨h1, h2⟩, h3⟩, h4⟩ := h
  have hz := moreB_false h4
  have z1 := hz 1 (by omega)
  have z2 := hz 2 (by omega)
  have z3 := hz 3 (by omega)
  have z4 := hz 4 (by omega)
  have z5 := hz 5 (by omega)
  have z6 := hz 6 (by omega)
  have z7 := hz 7 (by omega)
  have z8 := hz 8 (by omega)
  clear hz h4
  rcases kinds h1 h2 with e | e | e | e | e | e | e | e | e | e | e | e | e | e | e | e
  all_goals
    rw [e] at h3 z1 z2 z3 z4 z5 z6 z7 z8
    simp [okAll, flds, okB, lo, hi, off] at h3
    simp [clr, flds, off] at z1 z2 z3 z4 z5 z6 z7 z8
    constructor <;> omega

theorem Cm.of_ok {c : Nat → Int} (h : encB c = true) : (Cm.of c).Ok := by
  obtain ⟨h1, h2, h3, h4, h5, h6, h7, h8, h9, h10, h11, h12, h13, h14, h15, h16⟩ := cmI_of h
  unfold Cm.of
  constructor <;> simp only <;> omega
theorem Cm.of_val {c : Nat → Int} (h : encB c = true) : Value.agg #[.int .i64 (c 0), .int .i64 (c 1), .int .i64 (c 2), .int .i64 (c 3), .int .i64 (c 4), .int .i64 (c 5), .int .i64 (c 6), .int .i64 (c 7), .int .i64 (c 8)] = (Cm.of c).val := by
  obtain ⟨h1, h2, h3, h4, h5, h6, h7, h8, h9, _⟩ := cmI_of h
  unfold Cm.of Cm.val
  simp only
  rw [Int.toNat_of_nonneg (a := c 0) (by omega), Int.toNat_of_nonneg h2.1, Int.toNat_of_nonneg h3.1, Int.toNat_of_nonneg h4.1, Int.toNat_of_nonneg h5.1, Int.toNat_of_nonneg h6.1, Int.toNat_of_nonneg h7.1, Int.toNat_of_nonneg h8.1, Int.toNat_of_nonneg h9.1]
theorem Cm.of_ints {c : Nat → Int} (h : encB c = true) : ∀ i, i < 9 → (Cm.of c).ints i = c i := by
  obtain ⟨h1, h2, h3, h4, h5, h6, h7, h8, h9, _⟩ := cmI_of h
  refine all9.2 ⟨?_, ?_, ?_, ?_, ?_, ?_, ?_, ?_, ?_⟩ <;> simp only [Cm.ints, Cm.of] <;> omega
theorem Cm.has_new (w : World) (t : TypeId) (m : Cm) : Has (w.alloc (.cells #[.int .i64 m.k, .int .i64 m.t, .int .i64 m.o, .int .i64 m.d, .int .i64 m.v, .int .i64 m.b, .int .i64 m.x, .int .i64 m.y, .int .i64 m.n] t)) w.heap.size m.ints := Has.new w t m.ints

end Go.Proofs.YtbpnllhhmookcaaGreatDoor

/- pairs. -/
namespace Go.Proofs.YtbpnllhhmookcaaGreatDoor
open Go.RowKit Go.Shelf

attribute [local go_sem] Oper.semAt_some

theorem pairs_closeA (n₀ : Nat) {lb : Array Value} (ts : List PN) (hok : ∀ t ∈ ts, t.1 < 1024 ∧ t.2.1 < 1024) {w w2 : World} (hn : n₀ ≤ w.heap.size) (hG : GivesT Tryz.prog 177 lb encKV n₀ w.heap.size (ts.map kvP) w2) (hb : Below w.heap.size w w2) :
    ∃ bx, Ending.returned (.func (.func 170) #[] #[.pointer (some ⟨w2.heap.size, 0, none⟩)]) = .returned (.func (.func 170) #[] #[.pointer (some ⟨bx, 0, none⟩)]) ∧ GivesT Tryz.prog 170 #[.pointer (some ⟨bx, 0, none⟩)] encP n₀ w.heap.size ts (w2.alloc (.cells #[.func (.func 177) #[] lb] 233)) ∧ Below w.heap.size w (w2.alloc (.cells #[.func (.func 177) #[] lb] 233)) := by
  have h1 : Below w2.heap.size w2 (w2.alloc (.cells #[.func (.func 177) #[] lb] 233)) := (Below.refl _ _).alloc (Nat.le_refl _) _
  have hs := hb.size
  refine ⟨_, rfl, fun Y u X hk hY hX => ?_, hb.trans (h1.mono hs)⟩
  have hku := hk.size
  have hsz : (w2.alloc (.cells #[.func (.func 177) #[] lb] 233)).heap.size = w2.heap.size + 1 := by simp
  exact pairs1_givesM X n₀ _ hX lb ts hok u (by omega) (by omega) ((hk.cell (p := ⟨w2.heap.size, 0, none⟩) (by show w2.heap.size < _; omega) (fun h => by have h' := (hY _ h).2; simp at h'; omega)).trans (Boxed.new w2 _ _).cell)
    (fun X' hX' => hG Y u X' (((Keeps.refl _ w2).alloc _).trans hk) hY hX')

theorem pairs_closeB (n₀ : Nat) {lb : Array Value} (ts : List PN) (hok : ∀ t ∈ ts, t.1 < 1024 ∧ t.2.1 < 1024) {w w2 : World} {v : Value} (hn : n₀ ≤ w.heap.size) (hG : GivesT Tryz.prog 177 lb encKV n₀ (w.alloc (.cells #[.nilFunc] 233)).drew.heap.size (ts.map kvP) w2) (hbx : Boxed w2 w.heap.size 233 v) (hb : Below w.heap.size w w2) :
    ∃ bx, Ending.returned (.func (.func 170) #[] #[.pointer (some ⟨w.heap.size, 0, none⟩)]) = .returned (.func (.func 170) #[] #[.pointer (some ⟨bx, 0, none⟩)]) ∧ GivesT Tryz.prog 170 #[.pointer (some ⟨bx, 0, none⟩)] encP n₀ w.heap.size ts (w2.setCell ⟨w.heap.size, 0, none⟩ (.func (.func 177) #[] lb)) ∧ Below w.heap.size w (w2.setCell ⟨w.heap.size, 0, none⟩ (.func (.func 177) #[] lb)) := by
  have hs := hb.size
  have hl := hbx.lt
  have hsz : (w.alloc (.cells #[.nilFunc] 233)).drew.heap.size = w.heap.size + 1 := by show (w.alloc _).heap.size = _; simp
  rw [hsz] at hG
  have hk0 : Keeps (fun g => g = w.heap.size) w2 (w2.setCell ⟨w.heap.size, 0, none⟩ (.func (.func 177) #[] lb)) := (Keeps.refl (fun g => g = w.heap.size) w2).setCell (p := ⟨w.heap.size, 0, none⟩) (.inl rfl) _
  have hk0s := hk0.size
  refine ⟨_, rfl, fun Y u X hk hY hX => ?_, hb.setCell (p := ⟨w.heap.size, 0, none⟩) (Nat.le_refl _) _⟩
  have hku := hk.size
  exact pairs1_givesM X n₀ _ hX lb ts hok u (by omega) (by omega) ((hk.cell (p := ⟨w.heap.size, 0, none⟩) (by show w.heap.size < _; omega) (fun h => by have h' := (hY _ h).2; simp at h')).trans (hbx.set _).cell)
    (fun X' hX' => hG (fun k => Y k ∨ k = w.heap.size) u X' ((hk0.mono (fun k _ h => .inr h)).trans (hk.mono (fun k _ h => .inl h))) (fun k h => by rcases h with h | h; (have := hY k h; omega); omega) hX')

set_option maxRecDepth 8000 in
set_option maxHeartbeats 16000000 in
theorem pairs_any (n₀ b : Nat) (l : List KV) (ts : List PN) (hok : ∀ t ∈ ts, t.1 < 1024 ∧ t.2.1 < 1024) (hts : sel (pourK 1 1) (pourK 999 999) l = ts.map kvP) (w : World) (hT : TxAt n₀ w b l) :
    Calls Tryz.prog 152 #[.pointer (some ⟨b, 0, none⟩)] w fun e w' => ∃ bx, e = .returned (.func (.func 170) #[] #[.pointer (some ⟨bx, 0, none⟩)]) ∧ GivesT Tryz.prog 170 #[.pointer (some ⟨bx, 0, none⟩)] encP n₀ w.heap.size ts w' ∧ Below w.heap.size w w' := by
  have hmf : ∀ (fn : Fn) (first cap : Array Value) (w : World), (Instr.makeFunc fn first cap).run Tryz.prog w = .ok (.func fn first cap) w := fun _ _ _ _ => rfl
  obtain ⟨⟨r, hB, hI⟩, hf⟩ := hT
  have hn0 := hI.2.1
  have c0 := hB.c0
  have c1 := hB.c1
  have k1 := pourKey_any 1 1 (by omega) (by omega)
  have k9 := pourKey_any 999 999 (by omega) (by omega)
  have HR := hid (fun u (hu : Below w.heap.size w u) => hts ▸ range_givesT n₀ r l.length (pourK 1 1) (pourK 999 999) l u (hI.below (hu.mono hn0)))
  have hD1 : Below w.heap.size w w.drew := (Below.refl _ w).drew
  have hba : Below w.heap.size w (w.alloc (.cells #[.nilFunc] 233)) := (Below.refl _ w).alloc (Nat.le_refl _) _
  have hD2 := hba.drew
  have a0 := (hba.cell (p := ⟨b, 0, none⟩) hB.lt).trans c0
  have a1 := (hba.cell (p := ⟨b, 1, none⟩) hB.lt).trans c1
  have HBx := hid (Boxed.new w 233 .nilFunc)
  clear hI hB
  go_enter Tryz.func152, Tryz.ntmps152
  go_wp2_with fail
  go_region_with (first
    | (go_at_call_of 161 (Value.int IntKind.i64 999); refine (k9 _).mono ?_; rintro e w' ⟨rfl, rfl⟩)
    | (go_at_call 161; refine (k1 _).mono ?_; rintro e w' ⟨rfl, rfl⟩)
    | (go_at_call 166; refine (HR.out _ ?_).mono ?_; (first | exact hD1 | exact hD2); rintro e w2 ⟨lb, rfl, hG, hb2⟩; (try (have hbx := boxed_below (W := (w.alloc (.cells #[.nilFunc] 233)).drew) HBx.out hb2; have g0 := hbx.cell; have g1 := hbx.frozen))))
  all_goals go_wp2_with fail
  all_goals go_ret
  all_goals first
    | exact pairs_closeA n₀ ts hok hn0 hG ((Below.refl w.heap.size w).drew.trans hb2)
    | exact pairs_closeB n₀ ts hok hn0 hG hbx (hD2.trans (hb2.mono hD2.size))

end Go.Proofs.YtbpnllhhmookcaaGreatDoor

/- Integers appended one by one behind a slice. -/
namespace Go.Proofs.YtbpnllhhmookcaaGreatDoor
open Go.RowKit

def intCells (l : List Int) : List Value := l.map fun (z : Int) => Value.int .i64 z

theorem own_intsIn {w : World} {base : Nat} {e : TypeId} {v : Value} {zs : List Int} {n : Nat} (h : w.ownsRow base e 1 v n (intCells zs)) (hn : n = zs.length) : IntsIn w v zs := by
  subst hn
  have hc := h
  rcases h.2 with ⟨hv, h0⟩ | ⟨g, cap, cur, rfl, _, hg, _⟩
  · exact .inr ⟨hv, List.eq_nil_of_length_eq_zero h0⟩
  · refine .inl ⟨g, cap, rfl, (Array.getElem?_eq_some_iff.1 hg).1, fun i hi => ?_⟩
    have := hc.cells (g := g) rfl i (.int .i64 zs[i]) (by simp [intCells, hi])
    have e : ((⟨g, 0, none⟩ : Addr).add i) = ⟨g, i, none⟩ := by unfold Addr.add; split <;> simp_all
    rw [e] at this; exact this

theorem app_cell (w : World) (z : Int) : ∀ j u, [Value.int .i64 z][j]? = some u → (w.alloc (.cells #[.int .i64 z] 3)).cell? ((⟨w.heap.size, 0, none⟩ : Addr).add j) = some u := by
  intro j u hj
  match j, hj with
  | 0, hj => simp at hj; subst hj; simp [Addr.add]

theorem own_form {w : World} {base : Nat} {e : TypeId} {size : Nat} {v : Value} {n : Nat} {xs : List Value} (h : w.ownsRow base e size v (n + 1) xs) : ∃ g cap, v = .slice (some ⟨g, 0, none⟩) (n + 1) cap := by
  rcases h.2 with ⟨_, hn⟩ | ⟨g, cap, cur, rfl, _⟩
  · omega
  · exact ⟨g, cap, rfl⟩

end Go.Proofs.YtbpnllhhmookcaaGreatDoor
