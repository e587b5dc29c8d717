/- Words for what Decode answers: what is decoded, a command laid over a block. -/
import Derived.Test.YtbpnllhhmookcaaGreatDoorKk01
import Derived.Deep.RegionWith
import Derived.Deep.DeepCutAuto
import Derived.Laws.OwnMore
namespace Go.Proofs.YtbpnllhhmookcaaGreatDoor
open Go.RowKit

def base (k : Int) : Nat → Int := fun j => if j = 0 then k else 0
def zero9 : Nat → Int := fun _ => 0
def decTo (k : Int) (fs : List Nat) (t : List UInt8) : Nat → Nat → Int
  | 0 => base k
  | i + 1 => upd (decTo k fs t i) (off (fs.getD i 0)) (numB t (4 * i) : Nat)
def okTo (fs : List Nat) (t : List UInt8) (n : Nat) : Bool := (List.range n).all fun j => okB (fs.getD j 0) (numB t (4 * j) : Nat)

def decB : List UInt8 → Bool
  | [] => false
  | k :: t => decide (1 ≤ k.toNat) && decide (k.toNat ≤ 16) && decide (t.length = 4 * (flds k.toNat).length) && okTo (flds k.toNat) t (flds k.toNat).length
def decC (l : List UInt8) : Nat → Int :=
  if decB l then decTo (l.headD 0).toNat (flds (l.headD 0).toNat) l.tail (flds (l.headD 0).toNat).length else zero9
def decE (l : List UInt8) : Int := if decB l then 0 else 1

theorem Has.drewN {w : World} {b : Nat} {c : Nat → Int} (h : Has w b c) (n : Nat) : Has (w.drewN n) b c := h
theorem HasF.drewN {w : World} {b : Nat} {fs : List Nat} (h : HasF w b fs) (n : Nat) : HasF (w.drewN n) b fs := h
theorem Has.drew {w : World} {b : Nat} {c : Nat → Int} (h : Has w b c) : Has w.drew b c := h
theorem HasF.drew {w : World} {b : Nat} {fs : List Nat} (h : HasF w b fs) : HasF w.drew b fs := h

theorem Has.newK (w : World) (t : TypeId) (k : Int) : Has (w.alloc (.cells #[.int .i64 k, .int .i64 0, .int .i64 0, .int .i64 0, .int .i64 0, .int .i64 0, .int .i64 0, .int .i64 0, .int .i64 0] t)) w.heap.size (base k) := Has.new w t (base k)

theorem okTo_step (fs : List Nat) (t : List UInt8) (n : Nat) (h : okTo fs t n = true) (h2 : okB (fs.getD n 0) (numB t (4 * n) : Nat) = true) : okTo fs t (n + 1) = true := by
  unfold okTo at *
  rw [List.range_succ, List.all_append, h]
  simp only [List.all_cons, List.all_nil, h2]
  rfl
theorem okTo_bad (fs : List Nat) (t : List UInt8) (n m : Nat) (hn : n < m) (h2 : okB (fs.getD n 0) (numB t (4 * n) : Nat) = false) : okTo fs t m = false := by
  unfold okTo
  rw [List.all_eq_false]
  exact ⟨n, List.mem_range.2 hn, by rw [h2]; simp⟩

theorem cons_of (s : ByteArray) (h0 : 0 < s.size) : s.data.toList = s[0] :: (s.extract 1 s.size).data.toList := by
  have h' : 0 < s.data.toList.length := by simpa using h0
  have e : (s.extract 1 s.size).data.toList = s.data.toList.drop 1 := by
    simp [ByteArray.data_extract, List.take_of_length_le]
  rw [e]
  cases hl : s.data.toList with
  | nil => rw [hl] at h'; simp at h'
  | cons a r =>
    have := getD_bytes s 0 h0
    rw [hl] at this
    simp at this
    rw [this]; rfl

theorem ret_dec {l : List UInt8} {d : Nat → Int} {e : Int} (h : decC l = d ∧ decE l = e) :
    Ending.returned (.tuple #[.agg #[.int .i64 (d 0), .int .i64 (d 1), .int .i64 (d 2), .int .i64 (d 3), .int .i64 (d 4), .int .i64 (d 5), .int .i64 (d 6), .int .i64 (d 7), .int .i64 (d 8)], .int .i64 e])
      = .returned (.tuple #[.agg #[.int .i64 (decC l 0), .int .i64 (decC l 1), .int .i64 (decC l 2), .int .i64 (decC l 3), .int .i64 (decC l 4), .int .i64 (decC l 5), .int .i64 (decC l 6), .int .i64 (decC l 7), .int .i64 (decC l 8)], .int .i64 (decE l)]) := by rw [h.1, h.2]

theorem dec_len (k : UInt8) (t : List UInt8) (h : ¬ t.length = 4 * (flds k.toNat).length) : decC (k :: t) = zero9 ∧ decE (k :: t) = 1 := by
  simp [decC, decE, decB, h]
theorem dec_kind (k : UInt8) (t : List UInt8) (h : k.toNat < 1 ∨ 16 < k.toNat) : decC (k :: t) = zero9 ∧ decE (k :: t) = 1 := by
  have : decB (k :: t) = false := by
    unfold decB
    rcases h with h | h
    · simp [show ¬ (1 ≤ k.toNat) by omega]
    · simp [show ¬ (k.toNat ≤ 16) by omega]
  simp [decC, decE, this]
theorem dec_nil : decC [] = zero9 ∧ decE [] = 1 := by simp [decC, decE, decB]
theorem dec_bad (k : UInt8) (t : List UInt8) (h : okTo (flds k.toNat) t (flds k.toNat).length = false) : decC (k :: t) = zero9 ∧ decE (k :: t) = 1 := by
  simp [decC, decE, decB, h]
theorem dec_good (k : UInt8) (t : List UInt8) (h1 : 1 ≤ k.toNat) (h2 : k.toNat ≤ 16) (h3 : t.length = 4 * (flds k.toNat).length) (h4 : okTo (flds k.toNat) t (flds k.toNat).length = true) :
    decC (k :: t) = decTo k.toNat (flds k.toNat) t (flds k.toNat).length ∧ decE (k :: t) = 0 := by
  simp [decC, decE, decB, h1, h2, h3, h4]

theorem isEmpty_no (s : ByteArray) (h0 : 0 < s.size) : s.toList.isEmpty = false := by
  rw [ByteArray.toList_eq, cons_of s h0]; rfl

/-- A command laid over the nine cells of a block. -/
def put9 (w : World) (b : Nat) (d : Nat → Int) : World :=
  ((((((((w.setCell ⟨b, 0, none⟩ (.int .i64 (d 0))).setCell ⟨b, 1, none⟩ (.int .i64 (d 1))).setCell ⟨b, 2, none⟩ (.int .i64 (d 2))).setCell ⟨b, 3, none⟩ (.int .i64 (d 3))).setCell ⟨b, 4, none⟩ (.int .i64 (d 4))).setCell ⟨b, 5, none⟩ (.int .i64 (d 5))).setCell ⟨b, 6, none⟩ (.int .i64 (d 6))).setCell ⟨b, 7, none⟩ (.int .i64 (d 7))).setCell ⟨b, 8, none⟩ (.int .i64 (d 8))
theorem Has.put9 {w : World} {b : Nat} {c : Nat → Int} (h : Has w b c) (d : Nat → Int) : Has (put9 w b d) b d := by
  refine (((((((((h.set (j := 0) (by omega) (d 0)).set (j := 1) (by omega) (d 1)).set (j := 2) (by omega) (d 2)).set (j := 3) (by omega) (d 3)).set (j := 4) (by omega) (d 4)).set (j := 5) (by omega) (d 5)).set (j := 6) (by omega) (d 6)).set (j := 7) (by omega) (d 7)).set (j := 8) (by omega) (d 8)).congr ?_
  exact all9.2 ⟨rfl, rfl, rfl, rfl, rfl, rfl, rfl, rfl, rfl⟩
theorem Below.put9 {w0 w : World} {B b : Nat} (h : Below B w0 w) (hb : B ≤ b) (d : Nat → Int) : Below B w0 (put9 w b d) :=
  ((((((((h.setCell (by exact hb) _).setCell (by exact hb) _).setCell (by exact hb) _).setCell (by exact hb) _).setCell (by exact hb) _).setCell (by exact hb) _).setCell (by exact hb) _).setCell (by exact hb) _).setCell (by exact hb) _

theorem HasF.setOther {w : World} {b b' j : Nat} {v : Value} {fs : List Nat} (h : HasF w b fs) (hb : b' ≠ b) : HasF (w.setCell ⟨b', j, none⟩ v) b fs := by
  intro i hi
  rw [World.cell?_setCell_other (w := w) (h := by intro h'; injection h' with h1 _ _; exact hb h1)]
  exact h i hi

theorem put9_size (w : World) (b : Nat) (d : Nat → Int) : (put9 w b d).heap.size = w.heap.size := by simp [put9]

end Go.Proofs.YtbpnllhhmookcaaGreatDoor

/- Words for what Numbers answers: lists of integers in memory. -/
namespace Go.Proofs.YtbpnllhhmookcaaGreatDoor
open Go.RowKit

theorem wraps63 (n : Int) (h0 : 0 ≤ n) (h1 : n < 2 ^ 63) : IntKind.i64.wrap n = n := by
  simp only [IntKind.wrap, IntKind.bits, IntKind.signed]; simp; omega

theorem or2 (a b : Nat) (ha : a < 256) (hb : b < 256) : bits BinOp.or IntKind.i64 ((a : Int) * 256) (b : Int) = ((a * 256 + b : Nat) : Int) := by
  rw [bits_join .i64 63 (by decide) wraps63 8 ((a : Int) * 256) (b : Int) (by omega) (by omega) (by omega) (by omega) (by omega) (by omega)]
  omega

/-- A list of integers lies in memory behind a slice's value. -/
def IntsIn (w : World) (v : Value) (zs : List Int) : Prop :=
  (∃ b cap, v = .slice (some ⟨b, 0, none⟩) zs.length cap ∧ b < w.heap.size ∧ ∀ i (h : i < zs.length), w.cell? ⟨b, i, none⟩ = some (.int .i64 zs[i])) ∨ (v = .slice none 0 0 ∧ zs = [])
def HasN (w : World) (b n : Nat) (g : Nat → Int) : Prop := (∀ i, i < n → w.cell? ⟨b, i, none⟩ = some (.int .i64 (g i))) ∧ ∀ i, w.frozen? ⟨b, i, none⟩ = false
theorem HasN.drewN {w : World} {b n : Nat} {g : Nat → Int} (h : HasN w b n g) (k : Nat) : HasN (w.drewN k) b n g := h
theorem HasN.set {w : World} {b n : Nat} {g : Nat → Int} (h : HasN w b n g) {j : Nat} (hj : j < n) (v : Int) : HasN (w.setCell ⟨b, j, none⟩ (.int .i64 v)) b n (upd g j v) := by
  refine ⟨fun i hi => ?_, fun i => by rw [World.frozen?_setCell]; exact h.2 i⟩
  by_cases e : i = j
  · subst e; rw [World.cell?_setCell_same (w := w) (h := h.1 i hi)]; simp [upd]
  · rw [World.cell?_setCell_other (w := w) (h := by intro h'; injection h' with _ h2 _; exact e h2.symm)]; rw [h.1 i hi]; simp [upd, e]
theorem HasN.congr {w : World} {b n : Nat} {g k : Nat → Int} (h : HasN w b n g) (e : ∀ j, g j = k j) : HasN w b n k :=
  ⟨fun j hj => by rw [← e j]; exact h.1 j hj, h.2⟩

theorem own_hasN {w : World} {base : Nat} {e : TypeId} {g n : Nat} (h : w.ownsRow base e 1 (.slice (some ⟨g, 0, none⟩) n n) n (madeCells (Value.cells (.int .i64 0)) (n * 1)).toList) : HasN w g n (fun _ => 0) := by
  have hc : Value.cells (.int .i64 0) = #[.int .i64 0] := rfl
  rw [hc, toList_madeCells_one] at h
  refine ⟨fun i hi => ?_, fun i => ?_⟩
  · have := h.cells (g := g) rfl i (.int .i64 0) (by simp [hi])
    have e : ((⟨g, 0, none⟩ : Addr).add i) = ⟨g, i, none⟩ := by unfold Addr.add; split <;> simp_all
    rw [e] at this; exact this
  · rcases h.2 with ⟨h', _⟩ | ⟨g', cap, cur, hv, _, hg, _⟩
    · cases h'
    · injection hv with h1; injection h1 with h1; injection h1 with h1
      subst h1
      simp [World.frozen?, hg]

def numsG (t : List UInt8) (k i : Nat) : Int := if i < k then (numB t (4 * i) : Nat) else 0
theorem numsG_zero (t : List UInt8) (j : Nat) : (fun _ => (0 : Int)) j = numsG t 0 j := by simp [numsG]
theorem numsG_step (t : List UInt8) (k j : Nat) : upd (numsG t k) k (numB t (4 * k) : Nat) j = numsG t (k + 1) j := by
  unfold upd numsG
  by_cases h : j = k
  · subst h; simp
  · by_cases h2 : j < k
    · simp [h, h2, show j < k + 1 by omega]
    · simp [h, h2, show ¬ j < k + 1 by omega]
def okN (t : List UInt8) (n : Nat) : Bool := (List.range n).all fun j => decide (numB t (4 * j) ≤ 1000000)
theorem okN_step (t : List UInt8) (n : Nat) (h : okN t n = true) (h2 : numB t (4 * n) ≤ 1000000) : okN t (n + 1) = true := by
  unfold okN at *
  rw [List.range_succ, List.all_append, h]
  simp [h2]
theorem okN_bad (t : List UInt8) (n m : Nat) (hn : n < m) (h2 : ¬ numB t (4 * n) ≤ 1000000) : okN t m = false := by
  unfold okN
  rw [List.all_eq_false]
  exact ⟨n, List.mem_range.2 hn, by simpa using h2⟩

def cnt (l : List UInt8) : Nat := (l.getD 1 0).toNat * 256 + (l.getD 2 0).toNat
def numsB (l : List UInt8) : Bool := decide (3 ≤ l.length) && decide ((l.getD 0 0).toNat ≤ 10) && decide (l.length = 3 + 4 * cnt l) && okN (l.drop 3) (cnt l)
def numsL (l : List UInt8) : List Int := if numsB l then (List.range (cnt l)).map fun i => ((numB (l.drop 3) (4 * i) : Nat) : Int) else []
def numsT (l : List UInt8) : Int := if numsB l then ((l.getD 0 0).toNat : Int) else 0
def numsE (l : List UInt8) : Int := if numsB l then 0 else 1

theorem nums_bad (l : List UInt8) (h : numsB l = false) : numsL l = [] ∧ numsT l = 0 ∧ numsE l = 1 := by simp [numsL, numsT, numsE, h]
theorem nums_good (l : List UInt8) (h : numsB l = true) : numsL l = (List.range (cnt l)).map (fun i => ((numB (l.drop 3) (4 * i) : Nat) : Int)) ∧ numsT l = ((l.getD 0 0).toNat : Int) ∧ numsE l = 0 := by simp [numsL, numsT, numsE, h]

theorem ints_of_hasN {w : World} {b n : Nat} {t : List UInt8} (h : HasN w b n (numsG t n)) (hb : b < w.heap.size) {zs : List Int} (hz : zs = (List.range n).map fun i => ((numB t (4 * i) : Nat) : Int)) : IntsIn w (.slice (some ⟨b, 0, none⟩) n n) zs := by
  subst hz
  refine .inl ⟨b, n, by simp, hb, fun i hi => ?_⟩
  have hi' : i < n := by simpa using hi
  rw [h.1 i hi']
  simp [numsG, hi']

theorem ret_nums {l : List UInt8} {v : Value} {a b : Int} (h : numsT l = a ∧ numsE l = b) :
    Ending.returned (.tuple #[v, .int .i64 a, .int .i64 b]) = .returned (.tuple #[v, .int .i64 (numsT l), .int .i64 (numsE l)]) := by rw [h.1, h.2]

theorem Tryz.infoInt : (Tryz.prog.info? 3).map (fun i => (i.zero, i.size, i.bytes)) = some (some (.int .i64 0), 1, 8) := by kernel_rfl

theorem IntsIn.parts {w : World} {v : Value} {zs : List Int} (h : IntsIn w v zs) : ∃ oa cap, v = .slice oa zs.length cap ∧ ∀ i (h : i < zs.length), ∃ b, oa = some ⟨b, 0, none⟩ ∧ b < w.heap.size ∧ w.cell? ⟨b, i, none⟩ = some (.int .i64 zs[i]) := by
  rcases h with ⟨b, cap, rfl, hb, hc⟩ | ⟨rfl, rfl⟩
  · exact ⟨_, cap, rfl, fun i hi => ⟨b, rfl, hb, hc i hi⟩⟩
  · exact ⟨none, 0, rfl, fun i hi => by simp at hi⟩

theorem IntsIn.below {w w' : World} {B : Nat} {v : Value} {zs : List Int} (h : IntsIn w v zs) (hb : Below B w w') (hB : w.heap.size ≤ B) : IntsIn w' v zs := by
  rcases h with ⟨b, cap, rfl, hl, hc⟩ | ⟨rfl, rfl⟩
  · exact .inl ⟨b, cap, rfl, by have := hb.size; omega, fun i hi => (hb.cell (by show b < B; omega)).trans (hc i hi)⟩
  · exact .inr ⟨rfl, rfl⟩

end Go.Proofs.YtbpnllhhmookcaaGreatDoor

/- Words for the books of package firnref in memory: records of integers behind slices, and what a call leaves as it was. -/
namespace Go.Proofs.YtbpnllhhmookcaaGreatDoor
open Go.RowKit

/-- The cells of a record of so many integers. -/
def recCells (k : Nat) (r : Nat → Int) : List Value := (List.range k).map fun i => Value.int .i64 (r i)
def recs (k : Nat) (l : List (Nat → Int)) : List Value := l.flatMap (recCells k)
theorem recCells_len (k : Nat) (r : Nat → Int) : (recCells k r).length = k := by simp [recCells]
theorem recs_len (k : Nat) (l : List (Nat → Int)) : (recs k l).length = l.length * k := by
  induction l with
  | nil => simp [recs]
  | cons r l ih => unfold recs at *; rw [List.flatMap_cons, List.length_append, recCells_len, ih, List.length_cons, Nat.succ_mul]; omega
theorem recs_cons (k : Nat) (r : Nat → Int) (l : List (Nat → Int)) : recs k (r :: l) = recCells k r ++ recs k l := by simp [recs]
theorem recs_append (k : Nat) (a b : List (Nat → Int)) : recs k (a ++ b) = recs k a ++ recs k b := by simp [recs]
theorem recs_at (k : Nat) : ∀ (l : List (Nat → Int)) (i f : Nat) (hi : i < l.length), f < k → (recs k l)[i * k + f]? = some (.int .i64 (l[i] f))
  | r :: l, 0, f, _, hf => by
    rw [recs_cons, List.getElem?_append_left (by rw [recCells_len]; omega)]
    simp [recCells, hf]
  | r :: l, i + 1, f, hi, hf => by
    rw [recs_cons, List.getElem?_append_right (by rw [recCells_len, Nat.succ_mul]; omega), recCells_len]
    have e : (i + 1) * k + f - k = i * k + f := by rw [Nat.succ_mul]; omega
    rw [e]
    exact recs_at k l i f (by simpa using hi) hf

theorem recs_set (k : Nat) : ∀ (l : List (Nat → Int)) (i f : Nat) (n : Int) (hi : i < l.length), f < k → (recs k l).set (i * k + f) (.int .i64 n) = recs k (l.set i (upd l[i] f n))
  | r :: l, 0, f, n, _, hf => by
    rw [List.set_cons_zero, recs_cons, recs_cons, List.set_append_left _ _ (by rw [recCells_len]; omega)]
    congr 1
    apply List.ext_getElem?
    intro j
    by_cases hj : j < k
    · by_cases e : j = f
      · subst e; simp [recCells, upd, hj]
      · rw [List.getElem?_set_ne (by omega)]; simp [recCells, upd, hj, e]
    · rw [List.getElem?_eq_none (by rw [List.length_set, recCells_len]; omega), List.getElem?_eq_none (by rw [recCells_len]; omega)]
  | r :: l, i + 1, f, n, hi, hf => by
    rw [List.set_cons_succ, recs_cons, recs_cons, List.set_append_right _ _ (by rw [recCells_len, Nat.succ_mul]; omega), recCells_len]
    have e : (i + 1) * k + f - k = i * k + f := by rw [Nat.succ_mul]; omega
    rw [e]
    congr 1
    exact recs_set k l i f n (by simpa using hi) hf

/-- A list of records lies behind a slice's value. -/
def Recs (w : World) (e : TypeId) (k : Nat) (v : Value) (l : List (Nat → Int)) : Prop := w.ownsRow 0 e k v l.length (recs k l)

theorem addr_add (g j : Nat) : ((⟨g, 0, none⟩ : Addr).add j) = ⟨g, j, none⟩ := by unfold Addr.add; split <;> simp_all

/-- The slice's value written out: a block of its own, or nil. -/
theorem Recs.form {w : World} {e : TypeId} {k : Nat} {v : Value} {l : List (Nat → Int)} (h : Recs w e k v l) : ∃ oa cap, v = .slice oa l.length cap ∧ ∀ i (hi : i < l.length), ∃ g, oa = some ⟨g, 0, none⟩ ∧ l.length ≤ cap ∧ v.ownBlock = some g ∧ g < w.heap.size ∧ (∀ f, f < k → w.cell? ⟨g, i * k + f, none⟩ = some (.int .i64 (l[i] f))) ∧ (∀ j, w.frozen? ⟨g, j, none⟩ = false) := by
  have hc := h
  rcases h.2 with ⟨hv, h0⟩ | ⟨g, cap, cur, rfl, _, hg, hle, _⟩
  · exact ⟨none, 0, by rw [hv, h0], fun i hi => by omega⟩
  · refine ⟨some ⟨g, 0, none⟩, cap, rfl, fun i hi => ⟨g, rfl, hle, rfl, (Array.getElem?_eq_some_iff.1 hg).1, fun f hf => ?_, fun j => by simp [World.frozen?, hg]⟩⟩
    have := hc.cells (g := g) rfl (i * k + f) _ (recs_at k l i f hi hf)
    rw [addr_add] at this
    exact this

/-- Only the blocks of a set have turned; the rest lies as it did. -/
structure Keeps (S : Nat → Prop) (w w' : World) : Prop where
  os : w'.os = w.os
  tape : w'.tape = w.tape
  output : w'.output = w.output
  size : w.heap.size ≤ w'.heap.size
  block : ∀ k, k < w.heap.size → ¬ S k → w'.heap[k]? = w.heap[k]?

theorem Keeps.refl (S : Nat → Prop) (w : World) : Keeps S w w := ⟨rfl, rfl, rfl, Nat.le_refl _, fun _ _ _ => rfl⟩
theorem Keeps.trans {S : Nat → Prop} {a b c : World} (h : Keeps S a b) (k : Keeps S b c) : Keeps S a c :=
  ⟨k.os.trans h.os, k.tape.trans h.tape, k.output.trans h.output, Nat.le_trans h.size k.size, fun i hi hs => (k.block i (Nat.lt_of_lt_of_le hi h.size) hs).trans (h.block i hi hs)⟩
theorem Keeps.mono {S T : Nat → Prop} {w w' : World} (h : Keeps S w w') (hS : ∀ k, k < w.heap.size → S k → T k) : Keeps T w w' := ⟨h.os, h.tape, h.output, h.size, fun k hk ht => h.block k hk (fun hs => ht (hS k hk hs))⟩
theorem Keeps.drewN {S : Nat → Prop} {a w : World} (h : Keeps S a w) (n : Nat) : Keeps S a (w.drewN n) := ⟨h.os, h.tape, h.output, h.size, h.block⟩
theorem Keeps.drew {S : Nat → Prop} {a w : World} (h : Keeps S a w) : Keeps S a w.drew := ⟨h.os, h.tape, h.output, h.size, h.block⟩
theorem Keeps.alloc {S : Nat → Prop} {a w : World} (h : Keeps S a w) (o : Obj) : Keeps S a (w.alloc o) :=
  ⟨h.os, h.tape, h.output, Nat.le_trans h.size (by simp), fun k hk hs => (Below.heap_alloc w o k (Nat.lt_of_lt_of_le hk h.size)).trans (h.block k hk hs)⟩
theorem Keeps.setCell {S : Nat → Prop} {a w : World} (h : Keeps S a w) {p : Addr} (hp : S p.block ∨ a.heap.size ≤ p.block) (u : Value) : Keeps S a (w.setCell p u) :=
  ⟨h.os, h.tape, h.output, by simpa using h.size, fun k hk hs => (Below.heap_setCell w p u k (by rintro rfl; rcases hp with hp | hp; exact hs hp; omega)).trans (h.block k hk hs)⟩
theorem Keeps.below {S : Nat → Prop} {a w w' : World} {B : Nat} (h : Keeps S a w) (hb : Below B w w') (hB : a.heap.size ≤ B) : Keeps S a w' :=
  ⟨hb.os.trans h.os, hb.tape.trans h.tape, hb.output.trans h.output, Nat.le_trans h.size hb.size, fun k hk hs => (hb.block k (by omega)).trans (h.block k hk hs)⟩
theorem Keeps.grown {S : Nat → Prop} {a w w' : World} {row : Option Nat} (h : Keeps S a w) (hg : w.grownBy w' row) (hr : ∀ k, row = some k → S k ∨ a.heap.size ≤ k) : Keeps S a w' :=
  ⟨hg.os.trans h.os, hg.tape.trans h.tape, hg.output.trans h.output, Nat.le_trans h.size hg.size, fun k hk hs => (hg.block k (by have := h.size; omega) (by intro e; rcases hr k e.symm with h' | h'; exact hs h'; omega)).trans (h.block k hk hs)⟩
theorem Keeps.cell {S : Nat → Prop} {w w' : World} (h : Keeps S w w') {p : Addr} (hp : p.block < w.heap.size) (hs : ¬ S p.block) : w'.cell? p = w.cell? p := World.cell?_of_block (w := w) (h.block p.block hp hs)
theorem Keeps.frozen {S : Nat → Prop} {w w' : World} (h : Keeps S w w') {p : Addr} (hp : p.block < w.heap.size) (hs : ¬ S p.block) : w'.frozen? p = w.frozen? p := World.frozen?_of_block (w := w) (h.block p.block hp hs)
/-- 'Below' is the set of all blocks from B on. -/
theorem Keeps.toBelow {S : Nat → Prop} {w w' : World} {B : Nat} (h : Keeps S w w') (hS : ∀ k, S k → B ≤ k) (hB : B ≤ w.heap.size) : Below B w w' :=
  ⟨h.os, h.tape, h.output, h.size, fun k hk => h.block k (by omega) (fun hs => by have := hS k hs; omega)⟩
theorem below_toKeeps {w w' : World} (h : Below w.heap.size w w') (S : Nat → Prop) : Keeps S w w' := (Keeps.refl S w).below h (Nat.le_refl _)

theorem ownsRow_block {w w' : World} {base : Nat} {e : TypeId} {size : Nat} {v : Value} {n : Nat} {xs : List Value} (h : w.ownsRow base e size v n xs) (hb : ∀ g, v.ownBlock = some g → w'.heap[g]? = w.heap[g]?) : w'.ownsRow base e size v n xs := by
  refine ⟨h.1, ?_⟩
  rcases h.2 with hn | ⟨g, cap, cur, rfl, h1, hg, rest⟩
  · exact .inl hn
  · exact .inr ⟨g, cap, cur, rfl, h1, (hb g rfl).trans hg, rest⟩
theorem Recs.keeps {S : Nat → Prop} {w w' : World} {e : TypeId} {k : Nat} {v : Value} {l : List (Nat → Int)} (h : Recs w e k v l) (hk : Keeps S w w') (hs : ∀ g, v.ownBlock = some g → ¬ S g) : Recs w' e k v l :=
  ownsRow_block h (fun g hg => hk.block g (h.lt g hg).2 (hs g hg))

end Go.Proofs.YtbpnllhhmookcaaGreatDoor
