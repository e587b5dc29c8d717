/- What firnref's Decode returns: the same as the program's own. -/
import Derived.Test.YtalncjhldkcmaaaN
namespace Go.Proofs.Ytalncjhldkcmaaa
open Go.RowKit

theorem natOf4 (a b c d : UInt8) : natOf [a, b, c, d] = a.toNat * 16777216 + b.toNat * 65536 + c.toNat * 256 + d.toNat := by
  simp only [natOf, List.foldl]; omega
theorem natOf2 (a b : UInt8) : natOf [a, b] = a.toNat * 256 + b.toNat := by
  simp only [natOf, List.foldl]; omega
theorem drop_take4 (l : List UInt8) (i : Nat) (h : i + 4 ≤ l.length) : (l.drop i).take 4 = [l.getD i 0, l.getD (i + 1) 0, l.getD (i + 2) 0, l.getD (i + 3) 0] := by
  have := take4 (l.drop i) 0 (by rw [List.length_drop]; omega)
  rw [Nat.zero_add, List.take_zero, List.nil_append] at this
  rw [this]
  simp only [List.getD_eq_getElem?_getD, List.getElem?_drop]
  simp
theorem ext_list (s : ByteArray) (i j : Nat) : (s.extract i j).data.toList = (s.data.toList.drop i).take (j - i) := by
  rw [ByteArray.data_extract, Array.toList_extract, List.extract_eq_take_drop]
theorem ext_num (s : ByteArray) (i : Nat) (h : i + 4 ≤ s.size) : natOf (s.extract i (i + 4)).data.toList = numB s.data.toList i := by
  rw [ext_list, Nat.add_sub_cancel_left, drop_take4 _ i (by simpa using h), natOf4]; rfl
theorem numB_tail (k : UInt8) (t : List UInt8) (j : Nat) : numB (k :: t) (j + 1) = numB t j := by simp [numB]

theorem okAll_dec (k : Int) (fs : List Nat) (t : List UInt8) (hn : (fs.map off).Nodup) : okAll (decTo k fs t fs.length) fs = okTo fs t fs.length := by
  have hat := decTo_at k fs t hn fs.length (Nat.le_refl _)
  unfold okAll okTo
  rw [Bool.eq_iff_iff, List.all_eq_true, List.all_eq_true]
  constructor
  · intro h j hj
    have hj' := List.mem_range.1 hj
    have := h fs[j] (List.getElem_mem hj')
    rw [hat j hj' hj'] at this
    rw [getD_lt hj']; exact this
  · intro h f hf
    obtain ⟨j, hj, rfl⟩ := List.getElem_of_mem hf
    have := h j (List.mem_range.2 hj)
    rw [getD_lt hj] at this
    rw [hat j hj hj]; exact this

theorem decTo_zero (k : Int) (fs : List Nat) (t : List UInt8) : decTo k fs t fs.length 0 = k := by
  rw [decTo_else k fs t 0 (by simp only [List.mem_map, not_exists, not_and]; intro f _ h; have := off_pos f; omega) _ (Nat.le_refl _)]; simp [base]

theorem dec_enc_no (k : Nat) (t : List UInt8) (h : okTo (flds k) t (flds k).length = false) : encE (decTo k (flds k) t (flds k).length) = 1 := by
  have h0 := decTo_zero k (flds k) t
  have h1 : okAll (decTo k (flds k) t (flds k).length) (flds (decTo k (flds k) t (flds k).length 0)) = false := by rw [h0, okAll_dec _ _ _ (flds_nodup _)]; exact h
  exact (enc_bad _ h1).2

theorem dec_enc_yes (k : UInt8) (t : List UInt8) (h1 : 1 ≤ k.toNat) (h2 : k.toNat ≤ 16) (h3 : t.length = 4 * (flds k.toNat).length) (h4 : okTo (flds k.toNat) t (flds k.toNat).length = true) : encE (decTo k.toNat (flds k.toNat) t (flds k.toNat).length) = 0 := by
  have hB : decB (k :: t) = true := by unfold decB; simp [h1, h2, h3, h4]
  have := (dec_enc (k :: t) hB).1
  rw [(dec_good k t h1 h2 h3 h4).1] at this
  unfold encE; rw [this]; rfl

set_option maxHeartbeats 400000 in
theorem refDecode_nil (w : World) :
    Calls Try.prog 9 #[.string ByteArray.empty] w fun e w' => e = .returned (.tuple #[.agg #[.int .i64 (decC [] 0), .int .i64 (decC [] 1), .int .i64 (decC [] 2), .int .i64 (decC [] 3), .int .i64 (decC [] 4), .int .i64 (decC [] 5), .int .i64 (decC [] 6), .int .i64 (decC [] 7), .int .i64 (decC [] 8)], .int .i64 (decE [])]) ∧ Below w.heap.size w w' := by
  go_enter Try.func9, Try.ntmps9
  go_wp2
  exact bodyPost_ret (v := .tuple #[.agg #[.int .i64 (zero9 0), .int .i64 (zero9 1), .int .i64 (zero9 2), .int .i64 (zero9 3), .int .i64 (zero9 4), .int .i64 (zero9 5), .int .i64 (zero9 6), .int .i64 (zero9 7), .int .i64 (zero9 8)], .int .i64 1]) (by simp [results, Try.results9, go_sem, zero9]) rfl ⟨ret_dec dec_nil, (Below.refl _ _).alloc (Nat.le_refl _) _⟩

end Go.Proofs.Ytalncjhldkcmaaa
