/- Words for what Numbers answers: lists of integers in memory. -/
import Derived.Test.YtalncjhldkcmaaaF0
import Derived.Laws.OwnMore
namespace Go.Proofs.Ytalncjhldkcmaaa
open Go.RowKit

theorem wraps63 (n : Int) (h0 : 0 ≤ n) (h1 : n < 2 ^ 63) : IntKind.i64.wrap n = n := by
  simp only [IntKind.wrap, IntKind.bits, IntKind.signed]; simp; omega

theorem or2 (a b : Nat) (ha : a < 256) (hb : b < 256) : bits BinOp.or IntKind.i64 ((a : Int) * 256) (b : Int) = ((a * 256 + b : Nat) : Int) := by
  rw [bits_join .i64 63 (by decide) wraps63 8 ((a : Int) * 256) (b : Int) (by omega) (by omega) (by omega) (by omega) (by omega) (by omega)]
  omega

/-- A list of integers lies in memory behind a slice's value. -/
def IntsIn (w : World) (v : Value) (zs : List Int) : Prop :=
  (∃ b cap, v = .slice (some ⟨b, 0, none⟩) zs.length cap ∧ b < w.heap.size ∧ ∀ i (h : i < zs.length), w.cell? ⟨b, i, none⟩ = some (.int .i64 zs[i])) ∨ (v = .slice none 0 0 ∧ zs = [])
def HasN (w : World) (b n : Nat) (g : Nat → Int) : Prop := (∀ i, i < n → w.cell? ⟨b, i, none⟩ = some (.int .i64 (g i))) ∧ ∀ i, w.frozen? ⟨b, i, none⟩ = false
theorem HasN.drewN {w : World} {b n : Nat} {g : Nat → Int} (h : HasN w b n g) (k : Nat) : HasN (w.drewN k) b n g := h
theorem HasN.set {w : World} {b n : Nat} {g : Nat → Int} (h : HasN w b n g) {j : Nat} (hj : j < n) (v : Int) : HasN (w.setCell ⟨b, j, none⟩ (.int .i64 v)) b n (upd g j v) := by
  refine ⟨fun i hi => ?_, fun i => by rw [World.frozen?_setCell]; exact h.2 i⟩
  by_cases e : i = j
  · subst e; rw [World.cell?_setCell_same (w := w) (h := h.1 i hi)]; simp [upd]
  · rw [World.cell?_setCell_other (w := w) (h := by intro h'; injection h' with _ h2 _; exact e h2.symm)]; rw [h.1 i hi]; simp [upd, e]
theorem HasN.congr {w : World} {b n : Nat} {g k : Nat → Int} (h : HasN w b n g) (e : ∀ j, g j = k j) : HasN w b n k :=
  ⟨fun j hj => by rw [← e j]; exact h.1 j hj, h.2⟩

theorem own_hasN {w : World} {base : Nat} {e : TypeId} {g n : Nat} (h : w.ownsRow base e 1 (.slice (some ⟨g, 0, none⟩) n n) n (madeCells (Value.cells (.int .i64 0)) (n * 1)).toList) : HasN w g n (fun _ => 0) := by
  have hc : Value.cells (.int .i64 0) = #[.int .i64 0] := rfl
  rw [hc, toList_madeCells_one] at h
  refine ⟨fun i hi => ?_, fun i => ?_⟩
  · have := h.cells (g := g) rfl i (.int .i64 0) (by simp [hi])
    have e : ((⟨g, 0, none⟩ : Addr).add i) = ⟨g, i, none⟩ := by unfold Addr.add; split <;> simp_all
    rw [e] at this; exact this
  · rcases h.2 with ⟨h', _⟩ | ⟨g', cap, cur, hv, _, hg, _⟩
    · cases h'
    · injection hv with h1; injection h1 with h1; injection h1 with h1
      subst h1
      simp [World.frozen?, hg]

def numsG (t : List UInt8) (k i : Nat) : Int := if i < k then (numB t (4 * i) : Nat) else 0
theorem numsG_zero (t : List UInt8) (j : Nat) : (fun _ => (0 : Int)) j = numsG t 0 j := by simp [numsG]
theorem numsG_step (t : List UInt8) (k j : Nat) : upd (numsG t k) k (numB t (4 * k) : Nat) j = numsG t (k + 1) j := by
  unfold upd numsG
  by_cases h : j = k
  · subst h; simp
  · by_cases h2 : j < k
    · simp [h, h2, show j < k + 1 by omega]
    · simp [h, h2, show ¬ j < k + 1 by omega]
def okN (t : List UInt8) (n : Nat) : Bool := (List.range n).all fun j => decide (numB t (4 * j) ≤ 1000000)
theorem okN_step (t : List UInt8) (n : Nat) (h : okN t n = true) (h2 : numB t (4 * n) ≤ 1000000) : okN t (n + 1) = true := by
  unfold okN at *
  rw [List.range_succ, List.all_append, h]
  simp [h2]
theorem okN_bad (t : List UInt8) (n m : Nat) (hn : n < m) (h2 : ¬ numB t (4 * n) ≤ 1000000) : okN t m = false := by
  unfold okN
  rw [List.all_eq_false]
  exact ⟨n, List.mem_range.2 hn, by simpa using h2⟩

def cnt (l : List UInt8) : Nat := (l.getD 1 0).toNat * 256 + (l.getD 2 0).toNat
def numsB (l : List UInt8) : Bool := decide (3 ≤ l.length) && decide ((l.getD 0 0).toNat ≤ 10) && decide (l.length = 3 + 4 * cnt l) && okN (l.drop 3) (cnt l)
def numsL (l : List UInt8) : List Int := if numsB l then (List.range (cnt l)).map fun i => ((numB (l.drop 3) (4 * i) : Nat) : Int) else []
def numsT (l : List UInt8) : Int := if numsB l then ((l.getD 0 0).toNat : Int) else 0
def numsE (l : List UInt8) : Int := if numsB l then 0 else 1

theorem nums_bad (l : List UInt8) (h : numsB l = false) : numsL l = [] ∧ numsT l = 0 ∧ numsE l = 1 := by simp [numsL, numsT, numsE, h]
theorem nums_good (l : List UInt8) (h : numsB l = true) : numsL l = (List.range (cnt l)).map (fun i => ((numB (l.drop 3) (4 * i) : Nat) : Int)) ∧ numsT l = ((l.getD 0 0).toNat : Int) ∧ numsE l = 0 := by simp [numsL, numsT, numsE, h]

theorem ints_of_hasN {w : World} {b n : Nat} {t : List UInt8} (h : HasN w b n (numsG t n)) (hb : b < w.heap.size) {zs : List Int} (hz : zs = (List.range n).map fun i => ((numB t (4 * i) : Nat) : Int)) : IntsIn w (.slice (some ⟨b, 0, none⟩) n n) zs := by
  subst hz
  refine .inl ⟨b, n, by simp, hb, fun i hi => ?_⟩
  have hi' : i < n := by simpa using hi
  rw [h.1 i hi']
  simp [numsG, hi']

theorem ret_nums {l : List UInt8} {v : Value} {a b : Int} (h : numsT l = a ∧ numsE l = b) :
    Ending.returned (.tuple #[v, .int .i64 a, .int .i64 b]) = .returned (.tuple #[v, .int .i64 (numsT l), .int .i64 (numsE l)]) := by rw [h.1, h.2]

theorem Try.infoInt : (Try.prog.info? 3).map (fun i => (i.zero, i.size, i.bytes)) = some (some (.int .i64 0), 1, 8) := by kernel_rfl

theorem IntsIn.parts {w : World} {v : Value} {zs : List Int} (h : IntsIn w v zs) : ∃ oa cap, v = .slice oa zs.length cap ∧ ∀ i (h : i < zs.length), ∃ b, oa = some ⟨b, 0, none⟩ ∧ b < w.heap.size ∧ w.cell? ⟨b, i, none⟩ = some (.int .i64 zs[i]) := by
  rcases h with ⟨b, cap, rfl, hb, hc⟩ | ⟨rfl, rfl⟩
  · exact ⟨_, cap, rfl, fun i hi => ⟨b, rfl, hb, hc i hi⟩⟩
  · exact ⟨none, 0, rfl, fun i hi => by simp at hi⟩

theorem IntsIn.below {w w' : World} {B : Nat} {v : Value} {zs : List Int} (h : IntsIn w v zs) (hb : Below B w w') (hB : w.heap.size ≤ B) : IntsIn w' v zs := by
  rcases h with ⟨b, cap, rfl, hl, hc⟩ | ⟨rfl, rfl⟩
  · exact .inl ⟨b, cap, rfl, by have := hb.size; omega, fun i hi => (hb.cell (by show b < B; omega)).trans (hc i hi)⟩
  · exact .inr ⟨rfl, rfl⟩

end Go.Proofs.Ytalncjhldkcmaaa
