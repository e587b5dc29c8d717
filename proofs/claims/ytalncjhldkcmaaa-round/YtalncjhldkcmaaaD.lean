/- Words for a command in memory, and what hasMore of package wire returns. -/
import Derived.Test.YtalncjhldkcmaaaB
import Derived.Test.YtalncjhldkcmaaaC
namespace Go.Proofs.Ytalncjhldkcmaaa
open Go.RowKit

/-- The nine numbers of a command lie in a block. -/
def Has (w : World) (b : Nat) (c : Nat → Int) : Prop := (∀ j, j < 9 → w.cell? ⟨b, j, none⟩ = some (.int .i64 (c j))) ∧ ∀ j, w.frozen? ⟨b, j, none⟩ = false
/-- The codes of fields lie in a block. -/
def HasF (w : World) (b : Nat) (fs : List Nat) : Prop := ∀ i (h : i < fs.length), w.cell? ⟨b, i, none⟩ = some (.int .i64 (fs[i] : Nat))
def upd (c : Nat → Int) (j : Nat) (v : Int) : Nat → Int := fun i => if i = j then v else c i

theorem Has.set {w : World} {b : Nat} {c : Nat → Int} (h : Has w b c) {j : Nat} (hj : j < 9) (v : Int) : Has (w.setCell ⟨b, j, none⟩ (.int .i64 v)) b (upd c j v) := by
  refine ⟨fun i hi => ?_, fun i => by rw [World.frozen?_setCell]; exact h.2 i⟩
  by_cases e : i = j
  · subst e; rw [World.cell?_setCell_same (w := w) (h := h.1 i hi)]; simp [upd]
  · rw [World.cell?_setCell_other (w := w) (h := by intro h'; injection h' with _ h2 _; exact e h2.symm)]; rw [h.1 i hi]; simp [upd, e]

theorem Has.below {w w' : World} {b B : Nat} {c : Nat → Int} (h : Has w b c) (hb : Below B w w') (hB : b < B) : Has w' b c :=
  ⟨fun i hi => (hb.cell (by exact hB)).trans (h.1 i hi), fun i => (hb.frozen (by exact hB)).trans (h.2 i)⟩
theorem HasF.below {w w' : World} {b B : Nat} {fs : List Nat} (h : HasF w b fs) (hb : Below B w w') (hB : b < B) : HasF w' b fs :=
  fun i hi => (hb.cell (by exact hB)).trans (h i hi)
theorem Has.alloc {w : World} {b : Nat} {c : Nat → Int} (h : Has w b c) (hb : b < w.heap.size) (o : Obj) : Has (w.alloc o) b c := h.below ((Below.refl _ w).alloc (Nat.le_refl _) o) hb
theorem HasF.alloc {w : World} {b : Nat} {fs : List Nat} (h : HasF w b fs) (hb : b < w.heap.size) (o : Obj) : HasF (w.alloc o) b fs := h.below ((Below.refl _ w).alloc (Nat.le_refl _) o) hb

theorem Has.new (w : World) (t : TypeId) (c : Nat → Int) : Has (w.alloc (.cells #[.int .i64 (c 0), .int .i64 (c 1), .int .i64 (c 2), .int .i64 (c 3), .int .i64 (c 4), .int .i64 (c 5), .int .i64 (c 6), .int .i64 (c 7), .int .i64 (c 8)] t)) w.heap.size c := by
  refine ⟨fun j hj => ?_, fun j => by simp⟩
  rw [World.cell?_alloc_new]
  match j, hj with
  | 0, _ => rfl
  | 1, _ => rfl
  | 2, _ => rfl
  | 3, _ => rfl
  | 4, _ => rfl
  | 5, _ => rfl
  | 6, _ => rfl
  | 7, _ => rfl
  | 8, _ => rfl
  | n + 9, h => omega

theorem HasF.new (w : World) (t : TypeId) (fs : List Nat) : HasF (w.alloc (.cells (codes fs).toArray t)) w.heap.size fs := by
  intro i hi
  rw [World.cell?_alloc_new]
  simp [codes, hi]

theorem Has.congr {w : World} {b : Nat} {c d : Nat → Int} (h : Has w b c) (e : ∀ j, j < 9 → c j = d j) : Has w b d :=
  ⟨fun j hj => by rw [← e j hj]; exact h.1 j hj, h.2⟩

theorem off_lt (f : Nat) : off f < 9 := by unfold off; split <;> omega
theorem off_pos (f : Nat) : 0 < off f := by unfold off; split <;> omega

/-- What is left of a command when its kind and the numbers of some fields are struck. -/
def clr (c : Nat → Int) (fs : List Nat) (i : Nat) : Int := if i = 0 ∨ i ∈ fs.map off then 0 else c i
def moreB (c : Nat → Int) (fs : List Nat) : Bool := !((List.range 9).all fun i => clr c fs i == 0)

theorem clr_nil (c : Nat → Int) (j : Nat) : upd c 0 0 j = clr c [] j := by simp [upd, clr]
theorem clr_step (c : Nat → Int) (fs : List Nat) (k : Nat) (h : k < fs.length) (j : Nat) : upd (clr c (fs.take k)) (off fs[k]) 0 j = clr c (fs.take (k + 1)) j := by
  have e : (fs.take (k + 1)).map off = (fs.take k).map off ++ [off fs[k]] := by rw [List.take_succ_eq_append_getElem h, List.map_append]; rfl
  unfold upd clr
  rw [e]
  simp only [List.mem_append, List.mem_singleton]
  by_cases h1 : j = off fs[k]
  · simp [h1]
  · simp [h1]

theorem all9 {p : Nat → Prop} : (∀ i, i < 9 → p i) ↔ (p 0 ∧ p 1 ∧ p 2 ∧ p 3 ∧ p 4 ∧ p 5 ∧ p 6 ∧ p 7 ∧ p 8) := by
  constructor
  · intro h; exact ⟨h 0 (by omega), h 1 (by omega), h 2 (by omega), h 3 (by omega), h 4 (by omega), h 5 (by omega), h 6 (by omega), h 7 (by omega), h 8 (by omega)⟩
  · rintro ⟨h0, h1, h2, h3, h4, h5, h6, h7, h8⟩ i hi
    match i, hi with
    | 0, _ => exact h0
    | 1, _ => exact h1
    | 2, _ => exact h2
    | 3, _ => exact h3
    | 4, _ => exact h4
    | 5, _ => exact h5
    | 6, _ => exact h6
    | 7, _ => exact h7
    | 8, _ => exact h8
    | n + 9, h => omega

theorem more_t {c : Nat → Int} {fs : List Nat} (i : Nat) (h : i < 9) (hne : ¬ clr c fs i = 0) : moreB c fs = true := by
  unfold moreB
  rw [Bool.not_eq_true', List.all_eq_false]
  exact ⟨i, List.mem_range.2 h, by simpa using hne⟩
theorem more_f {c : Nat → Int} {fs : List Nat} (h : ∀ i, i < 9 → clr c fs i = 0) : moreB c fs = false := by
  unfold moreB
  rw [Bool.not_eq_false', List.all_eq_true]
  intro i hi
  simpa using h i (List.mem_range.1 hi)
theorem ret_bool {a b : Bool} (h : b = a) : Ending.returned (.bool a) = .returned (.bool b) := by rw [h]

set_option maxHeartbeats 400000 in
theorem hasMore_any (c : Nat → Int) (b : Nat) (fs : List Nat) (hfs : ∀ f ∈ fs, f < 9) (w : World) (hb : b < w.heap.size) (hn : fs.length < 1000) (hc : HasF w b fs) :
    Calls Try.prog 29 #[.agg #[.int .i64 (c 0), .int .i64 (c 1), .int .i64 (c 2), .int .i64 (c 3), .int .i64 (c 4), .int .i64 (c 5), .int .i64 (c 6), .int .i64 (c 7), .int .i64 (c 8)], .slice (some ⟨b, 0, none⟩) fs.length fs.length] w fun e w' => e = .returned (.bool (moreB c fs)) ∧ Below w.heap.size w w' := by
  have HF := hid hfs
  have hnew := Has.new w 23 (upd c 0 0)
  have hnew2 := hnew.congr (d := clr c []) (fun j _ => clr_nil c j)
  clear hfs hnew
  go_enter Try.func29, Try.ntmps29
  go_wp2_with fail
  go_loopw [10] (fun i wr => ∃ k : Nat, k ≤ fs.length ∧ i = .int .i64 k ∧ Has wr w.heap.size (clr c (fs.take k)) ∧ Below w.heap.size w wr)
    (fun i _ => fs.length - (intOf i).toNat)
  case atStart => exact ⟨0, Nat.zero_le _, rfl, hnew2, (Below.refl _ _).alloc (Nat.le_refl _) _⟩
  case round =>
    obtain ⟨k, hk, rfl, hcell, hbel⟩ := hrel
    clear hnew2
    by_cases hlt : k < fs.length
    · have hcx := (hc.below hbel hb) k hlt
      have hf9 := HF.out (fs[k]) (List.getElem_mem hlt)
      have hstep := hid (fun j => clr_step c fs k hlt j)
      generalize fs[k] = f at *
      have hco := hcell.1 (off f) (off_lt f)
      have hfz := hcell.2 (off f)
      go_wp2_with (go_at_call 26; refine (of_any f hf9 _ _).mono ?_; rintro e w' ⟨rfl, rfl⟩)
      go_roundw
      case rel => exact ⟨k + 1, by omega, by go_num, (hcell.set (off_lt f) 0).congr (fun j _ => hstep.out j), hbel.setCell (Nat.le_refl _) _⟩
      case measure => simp [intOf]; omega
    · have hke : k = fs.length := by omega
      have hcell' := hcell
      rw [hke, List.take_length] at hcell'
      clear hcell hke
      have c0 := hcell'.1 0 (by omega)
      have c1 := hcell'.1 1 (by omega)
      have c2 := hcell'.1 2 (by omega)
      have c3 := hcell'.1 3 (by omega)
      have c4 := hcell'.1 4 (by omega)
      have c5 := hcell'.1 5 (by omega)
      have c6 := hcell'.1 6 (by omega)
      have c7 := hcell'.1 7 (by omega)
      have c8 := hcell'.1 8 (by omega)
      go_wp2
      all_goals
        go_ret
        refine ⟨ret_bool ?_, hbel⟩
        first
          | exact more_t 1 (by omega) (by assumption)
          | exact more_t 2 (by omega) (by assumption)
          | exact more_t 3 (by omega) (by assumption)
          | exact more_t 4 (by omega) (by assumption)
          | exact more_t 5 (by omega) (by assumption)
          | exact more_t 6 (by omega) (by assumption)
          | exact more_t 7 (by omega) (by assumption)
          | exact more_t 8 (by omega) (by assumption)
          | exact more_f (all9.2 ⟨by assumption, by assumption, by assumption, by assumption, by assumption, by assumption, by assumption, by assumption, by assumption⟩)

end Go.Proofs.Ytalncjhldkcmaaa
