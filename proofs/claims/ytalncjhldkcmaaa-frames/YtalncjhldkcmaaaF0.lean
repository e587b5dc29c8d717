/- Words for what Decode answers: what is decoded, a command laid over a block. -/
import Derived.Test.YtalncjhldkcmaaaE
import Derived.Deep.RegionWith
import Derived.Deep.DeepCutAuto
namespace Go.Proofs.Ytalncjhldkcmaaa
open Go.RowKit

def base (k : Int) : Nat → Int := fun j => if j = 0 then k else 0
def zero9 : Nat → Int := fun _ => 0
def decTo (k : Int) (fs : List Nat) (t : List UInt8) : Nat → Nat → Int
  | 0 => base k
  | i + 1 => upd (decTo k fs t i) (off (fs.getD i 0)) (numB t (4 * i) : Nat)
def okTo (fs : List Nat) (t : List UInt8) (n : Nat) : Bool := (List.range n).all fun j => okB (fs.getD j 0) (numB t (4 * j) : Nat)

def decB : List UInt8 → Bool
  | [] => false
  | k :: t => decide (1 ≤ k.toNat) && decide (k.toNat ≤ 16) && decide (t.length = 4 * (flds k.toNat).length) && okTo (flds k.toNat) t (flds k.toNat).length
def decC (l : List UInt8) : Nat → Int :=
  if decB l then decTo (l.headD 0).toNat (flds (l.headD 0).toNat) l.tail (flds (l.headD 0).toNat).length else zero9
def decE (l : List UInt8) : Int := if decB l then 0 else 1

theorem Has.drewN {w : World} {b : Nat} {c : Nat → Int} (h : Has w b c) (n : Nat) : Has (w.drewN n) b c := h
theorem HasF.drewN {w : World} {b : Nat} {fs : List Nat} (h : HasF w b fs) (n : Nat) : HasF (w.drewN n) b fs := h
theorem Has.drew {w : World} {b : Nat} {c : Nat → Int} (h : Has w b c) : Has w.drew b c := h
theorem HasF.drew {w : World} {b : Nat} {fs : List Nat} (h : HasF w b fs) : HasF w.drew b fs := h

theorem Has.newK (w : World) (t : TypeId) (k : Int) : Has (w.alloc (.cells #[.int .i64 k, .int .i64 0, .int .i64 0, .int .i64 0, .int .i64 0, .int .i64 0, .int .i64 0, .int .i64 0, .int .i64 0] t)) w.heap.size (base k) := Has.new w t (base k)

theorem okTo_step (fs : List Nat) (t : List UInt8) (n : Nat) (h : okTo fs t n = true) (h2 : okB (fs.getD n 0) (numB t (4 * n) : Nat) = true) : okTo fs t (n + 1) = true := by
  unfold okTo at *
  rw [List.range_succ, List.all_append, h]
  simp only [List.all_cons, List.all_nil, h2]
  rfl
theorem okTo_bad (fs : List Nat) (t : List UInt8) (n m : Nat) (hn : n < m) (h2 : okB (fs.getD n 0) (numB t (4 * n) : Nat) = false) : okTo fs t m = false := by
  unfold okTo
  rw [List.all_eq_false]
  exact ⟨n, List.mem_range.2 hn, by rw [h2]; simp⟩

theorem cons_of (s : ByteArray) (h0 : 0 < s.size) : s.data.toList = s[0] :: (s.extract 1 s.size).data.toList := by
  have h' : 0 < s.data.toList.length := by simpa using h0
  have e : (s.extract 1 s.size).data.toList = s.data.toList.drop 1 := by
    simp [ByteArray.data_extract, List.take_of_length_le]
  rw [e]
  cases hl : s.data.toList with
  | nil => rw [hl] at h'; simp at h'
  | cons a r =>
    have := getD_bytes s 0 h0
    rw [hl] at this
    simp at this
    rw [this]; rfl

theorem ret_dec {l : List UInt8} {d : Nat → Int} {e : Int} (h : decC l = d ∧ decE l = e) :
    Ending.returned (.tuple #[.agg #[.int .i64 (d 0), .int .i64 (d 1), .int .i64 (d 2), .int .i64 (d 3), .int .i64 (d 4), .int .i64 (d 5), .int .i64 (d 6), .int .i64 (d 7), .int .i64 (d 8)], .int .i64 e])
      = .returned (.tuple #[.agg #[.int .i64 (decC l 0), .int .i64 (decC l 1), .int .i64 (decC l 2), .int .i64 (decC l 3), .int .i64 (decC l 4), .int .i64 (decC l 5), .int .i64 (decC l 6), .int .i64 (decC l 7), .int .i64 (decC l 8)], .int .i64 (decE l)]) := by rw [h.1, h.2]

theorem dec_len (k : UInt8) (t : List UInt8) (h : ¬ t.length = 4 * (flds k.toNat).length) : decC (k :: t) = zero9 ∧ decE (k :: t) = 1 := by
  simp [decC, decE, decB, h]
theorem dec_kind (k : UInt8) (t : List UInt8) (h : k.toNat < 1 ∨ 16 < k.toNat) : decC (k :: t) = zero9 ∧ decE (k :: t) = 1 := by
  have : decB (k :: t) = false := by
    unfold decB
    rcases h with h | h
    · simp [show ¬ (1 ≤ k.toNat) by omega]
    · simp [show ¬ (k.toNat ≤ 16) by omega]
  simp [decC, decE, this]
theorem dec_nil : decC [] = zero9 ∧ decE [] = 1 := by simp [decC, decE, decB]
theorem dec_bad (k : UInt8) (t : List UInt8) (h : okTo (flds k.toNat) t (flds k.toNat).length = false) : decC (k :: t) = zero9 ∧ decE (k :: t) = 1 := by
  simp [decC, decE, decB, h]
theorem dec_good (k : UInt8) (t : List UInt8) (h1 : 1 ≤ k.toNat) (h2 : k.toNat ≤ 16) (h3 : t.length = 4 * (flds k.toNat).length) (h4 : okTo (flds k.toNat) t (flds k.toNat).length = true) :
    decC (k :: t) = decTo k.toNat (flds k.toNat) t (flds k.toNat).length ∧ decE (k :: t) = 0 := by
  simp [decC, decE, decB, h1, h2, h3, h4]

theorem isEmpty_no (s : ByteArray) (h0 : 0 < s.size) : s.toList.isEmpty = false := by
  rw [ByteArray.toList_eq, cons_of s h0]; rfl

/-- A command laid over the nine cells of a block. -/
def put9 (w : World) (b : Nat) (d : Nat → Int) : World :=
  ((((((((w.setCell ⟨b, 0, none⟩ (.int .i64 (d 0))).setCell ⟨b, 1, none⟩ (.int .i64 (d 1))).setCell ⟨b, 2, none⟩ (.int .i64 (d 2))).setCell ⟨b, 3, none⟩ (.int .i64 (d 3))).setCell ⟨b, 4, none⟩ (.int .i64 (d 4))).setCell ⟨b, 5, none⟩ (.int .i64 (d 5))).setCell ⟨b, 6, none⟩ (.int .i64 (d 6))).setCell ⟨b, 7, none⟩ (.int .i64 (d 7))).setCell ⟨b, 8, none⟩ (.int .i64 (d 8))
theorem Has.put9 {w : World} {b : Nat} {c : Nat → Int} (h : Has w b c) (d : Nat → Int) : Has (put9 w b d) b d := by
  refine (((((((((h.set (j := 0) (by omega) (d 0)).set (j := 1) (by omega) (d 1)).set (j := 2) (by omega) (d 2)).set (j := 3) (by omega) (d 3)).set (j := 4) (by omega) (d 4)).set (j := 5) (by omega) (d 5)).set (j := 6) (by omega) (d 6)).set (j := 7) (by omega) (d 7)).set (j := 8) (by omega) (d 8)).congr ?_
  exact all9.2 ⟨rfl, rfl, rfl, rfl, rfl, rfl, rfl, rfl, rfl⟩
theorem Below.put9 {w0 w : World} {B b : Nat} (h : Below B w0 w) (hb : B ≤ b) (d : Nat → Int) : Below B w0 (put9 w b d) :=
  ((((((((h.setCell (by exact hb) _).setCell (by exact hb) _).setCell (by exact hb) _).setCell (by exact hb) _).setCell (by exact hb) _).setCell (by exact hb) _).setCell (by exact hb) _).setCell (by exact hb) _).setCell (by exact hb) _

theorem HasF.setOther {w : World} {b b' j : Nat} {v : Value} {fs : List Nat} (h : HasF w b fs) (hb : b' ≠ b) : HasF (w.setCell ⟨b', j, none⟩ v) b fs := by
  intro i hi
  rw [World.cell?_setCell_other (w := w) (h := by intro h'; injection h' with h1 _ _; exact hb h1)]
  exact h i hi

theorem put9_size (w : World) (b : Nat) (d : Nat → Int) : (put9 w b d).heap.size = w.heap.size := by simp [put9]

end Go.Proofs.Ytalncjhldkcmaaa
