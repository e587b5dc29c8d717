/- A range over a function whose iterator may itself range over another one: what such an iterator gives, and the law of the statement. -/
import Derived.RangeFuncNested
import Derived.RangeFuncBound
import Derived.RangeFuncCalls
import Derived.RangeFuncLeaves
import Derived.Shelf.Abstract
import Derived.Shelf.RegionOpen
import Derived.WalkKit
import Derived.OwnWalkIn
import Derived.TacticsInMore
import Derived.LoopNIn
import Derived.LoopIn
import Derived.Test.YtbpnllhhmookcaaGreatDoorRows
import Derived.WalkSpells
import Derived.WalkLawsBesides
import Derived.Deep.QuietTactic
import Derived.BigQuiet
import Derived.Laws.BitsLemmas
namespace Go.Proofs.YtbpnllhhmookcaaGreatDoor
open Go.RowKit Go.Shelf

theorem yield_anyRoom {P : Program} {l m : Nat} (m' : Nat) {args : Array Value} {W : World} {R : Ending → World → Prop} (h : YieldAt Fence.wide m P l args W R) : YieldAt Fence.wide m' P l args W R := by
  obtain ⟨fn, tmps, assign, body, hy, h1, h2⟩ := h
  exact ⟨fn, tmps, assign, body, hy, h1, fun c cs _ => h2 c cs (room_wide _)⟩

theorem keepsFrom_mono {B B' : Nat} {W W' : World} (h : KeepsFrom B W W') (hB : B ≤ B') : KeepsFrom B' W W' := ⟨h.size, fun k o hk h0 ho => h.same k o (Nat.le_trans hB hk) h0 ho⟩
theorem keepsFrom_putObj (W : World) (l : Nat) (o : Obj) : KeepsFrom (l + 1) W (W.putObj l o) := KeepsFrom.of_grownBy (grownBy_putObj' W l o) (fun j e => by cases e; omega)
theorem ownFrom_mono {β : Type} {B B' : Nat} {I : β → World → Prop} (h : OwnFrom B I) (hB : B ≤ B') : OwnFrom B' I := fun s W W' row hs hg hr => h s W W' row hs hg (fun r e => ⟨Nat.le_trans hB (hr r e).1, (hr r e).2⟩)

/-- What an iterator gives: all of xs, in their order, or, where a round says 'no more', those up to there; what lay below n₀ is kept by the rounds; a round turns, of what is no cells, nothing behind its own loop's record. -/
def Gives {α : Type} (P : Program) (g : Nat) (lb : Array Value) (encs : α → Array Value) (n₀ : Nat) (xs : List α) (w : World) : Prop :=
  ∀ (l : Nat) (J Jx : List α → World → Prop) (W : World), Below w.heap.size w W → l < W.heap.size → OwnFrom W.heap.size J → OwnFrom W.heap.size Jx →
    (∀ pre x W1, (pre ++ [x]) <+: xs → J pre W1 → YieldAt Fence.wide 0 P l (encs x) W1 fun e W' =>
      (e = .returned (.bool true) ∧ J (pre ++ [x]) W' ∧ Below n₀ W1 W' ∧ KeepsFrom (l + 1) W1 W') ∨ (e = .returned (.bool false) ∧ Jx (pre ++ [x]) W' ∧ KeepsFrom (l + 1) W1 W')) →
    J [] W →
    Calls P g (#[.func (.yield l) #[] #[]] ++ lb) W fun e W' => (∃ v, e = .returned v) ∧ (J xs W' ∨ ∃ pre, pre <+: xs ∧ Jx pre W')

/-- The statement, by what its iterator gives. -/
theorem range_law {α : Type} {P : Program} {n : Nat} {g : Operand} {ps : Array Tmp} {assign body : Code} {Q : Exit → Act → World → Prop} {a : Act} {w : World}
    {gf : Nat} {lb : Array Value} (hg : a.eval g = .func (.func gf) #[] lb) (eg : ∀ args w, (callFunc gf args).run P w = .ok (.enter gf args) w)
    {encs : α → Array Value} {n₀ : Nat} {xs : List α} {w0 : World} (hseq : Gives P gf lb encs n₀ xs w0) (hb0 : Below w0.heap.size w0 w) (hn : n₀ ≤ w.heap.size) (hps : ∀ x, (encs x).size = ps.size)
    (I : List α → World → Prop) (Ix : Code → List α → World → Prop) (hI : OwnFrom w.heap.size I) (hIx : ∀ c, OwnFrom w.heap.size (Ix c)) (h0 : I [] w)
    (Ax : α → Act → World → Prop) (hAx : ∀ x a', OwnFrom w.heap.size (fun (_ : Unit) W => Ax x a' W))
    (hassign : ∀ (l : Nat) (pre : List α) (x : α) (W : World) (K : Act → World → Prop), (pre ++ [x]) <+: xs → I pre W → (∀ a' W', KeepsFrom w.heap.size W W' → Below n₀ W W' → I pre W' → Ax x a' W' → K a' W') →
      assign.wpIn (Fence.wide.inRound l) 0 P (Exit.then K (fun _ _ _ => False)) { tmps := (ps.zip (encs x)).foldl (fun t (p, v) => t.setIfInBounds p v) a.tmps, defers := [] } W)
    (hbody : ∀ (l : Nat) (pre : List α) (x : α) (a' : Act) (W : World), w.heap.size ≤ l → l < W.heap.size → (pre ++ [x]) <+: xs → I pre W → Ax x a' W → body.wpIn (Fence.wide.inRound l) 0 P (ownPostG w.heap.size (Below n₀) I Ix (pre ++ [x]) W) a' W)
    (hdone : ∀ W, I xs W → W.heap[w.heap.size]? = some (.deferred (some [])) → Q .normal { a with defers := { target := .collected w.heap.size, args := #[] } :: a.defers } W)
    (hstop : ∀ c pre W, pre <+: xs → Ix c pre W → W.heap[w.heap.size]? = some (.deferred (some [])) → c.wpIn Fence.wide n P Q { a with defers := { target := .collected w.heap.size, args := #[] } :: a.defers } W) :
    (Code.rangeFunc g ps assign body).wpIn Fence.wide n P Q a w := by
  refine wpIn_rangeFunc fun fn hfn => ?_
  rw [Fence.wide_round]
  obtain ⟨rc, hrc⟩ : ∃ rc : LoopState → Option Code → Loop, rc = fun st pe => { state := st, pending := pe, fn, tmps := a.tmps, params := ps, assign, body, defers := w.heap.size } := ⟨_, rfl⟩
  obtain ⟨S, hS⟩ : ∃ S, (w.alloc (.deferred (some []))).alloc (.loop (rc .ready none)) = S := ⟨_, rfl⟩
  have sS : S.heap.size = w.heap.size + 2 := by rw [← hS]; simp
  have lS : S.heap[w.heap.size + 1]? = some (.loop (rc .ready none)) := by
    rw [← hS]; have := World.alloc_heap_new (w.alloc (.deferred (some []))) (.loop (rc .ready none)); rwa [World.size_alloc] at this
  have dS : S.heap[w.heap.size]? = some (.deferred (some [])) := by
    rw [← hS]; exact (Below.heap_alloc _ _ _ (by simp)).trans (World.alloc_heap_new w _)
  have iS : I [] S := by rw [← hS]; exact hI.alloc _ (hI.alloc _ h0)
  have bS : Below w0.heap.size w0 S := by
    rw [← hS]; exact hb0.trans ((((Below.refl _ w).alloc (Nat.le_refl _) _).alloc (by simp) _).mono hb0.size)
  -- what is no cells and lies ahead of S's end lies on through what the iterator turns
  have keep : ∀ {A B : World} {row : Option Nat} {k : Nat} {o : Obj}, A.grownBy B row → (∀ r, row = some r → S.heap.size ≤ r ∧ ∃ o : Obj, A.heap[r]? = some o ∧ o.isCells = false) → k < w.heap.size + 2 → A.heap[k]? = some o → B.heap[k]? = some o := by
    intro A B row k o hgr hr hk ha
    refine (hgr.block k (Array.getElem?_eq_some_iff.1 ha).1 (fun e => ?_)).trans ha
    have := (hr k e.symm).1; omega
  have low : ∀ {A : World} {row : Option Nat}, (∀ r, row = some r → S.heap.size ≤ r ∧ ∃ o : Obj, A.heap[r]? = some o ∧ o.isCells = false) → (∀ r, row = some r → w.heap.size ≤ r ∧ ∃ o : Obj, A.heap[r]? = some o ∧ o.isCells = false) :=
    fun hr r e => ⟨by have := (hr r e).1; omega, (hr r e).2⟩
  refine ⟨w.heap.size + 1, [{ target := .collected w.heap.size, args := #[] }], S, { target := .fn (.func gf) lb, args := #[.func (.yield (w.heap.size + 1)) #[] #[]] }, S, gf,
    #[.func (.yield (w.heap.size + 1)) #[] #[]] ++ lb, S, ?_, ?_, fun _ _ => trivial, ?_, fun h => by simp [Fence.wide] at h, ?_⟩
  · rw [← hS, hrc]; exact run_enterLoop_outer _ _ _ _ _
  · simp only [resolve, hg]; simp [go_sem]
  · simp [invoke, go_sem, eg]
  refine callsIn_wide.2 ((hseq (w.heap.size + 1)
    (fun pre W => I pre W ∧ W.heap[w.heap.size + 1]? = some (.loop (rc .ready none)) ∧ W.heap[w.heap.size]? = some (.deferred (some [])))
    (fun pre W => ∃ c, Ix c pre W ∧ W.heap[w.heap.size + 1]? = some (.loop (rc .done (some c))) ∧ W.heap[w.heap.size]? = some (.deferred (some [])))
    S bS (by omega)
    (fun s A B row hs hg' hr => ⟨hI s A B row hs.1 hg' (low hr), keep hg' hr (by omega) hs.2.1, keep hg' hr (by omega) hs.2.2⟩)
    (fun s A B row hs hg' hr => by
      obtain ⟨c, hc, hl, hk⟩ := hs
      exact ⟨c, hIx c s A B row hc hg' (low hr), keep hg' hr (by omega) hl, keep hg' hr (by omega) hk⟩)
    ?_ ⟨iS, lS, dS⟩).mono ?_)
  · rintro pre x V hp ⟨hi, hl, hk⟩
    have hy := run_yield (P := P) (args := encs x) hl (by rw [hrc]; exact hps x)
    rw [hrc] at hy
    refine ⟨fn, _, assign, body, hy, roundIn_of_wpIn hfn (hassign _ pre x V _ hp hi ?_)⟩
    clear hy
    intro a' V1 k1 b1 i1 ax1
    have l1 := k1.same _ _ (by omega) hl rfl
    have d1 := k1.same _ _ (Nat.le_refl _) hk rfl
    have z1 : w.heap.size + 1 < V1.heap.size := (Array.getElem?_eq_some_iff.1 l1).1
    refine ⟨_, run_beginRound l1 (by rw [hrc]), ?_⟩
    obtain ⟨V2, hV2⟩ : ∃ V2, V1.putObj (w.heap.size + 1) (.loop { rc .ready none with state := .busy }) = V2 := ⟨_, rfl⟩
    have l2 : V2.heap[w.heap.size + 1]? = some (.loop { rc .ready none with state := .busy }) := by rw [← hV2]; exact World.putObj_heap_same z1
    have d2 : V2.heap[w.heap.size]? = some (.deferred (some [])) := by rw [← hV2]; exact (World.putObj_heap_other (by omega)).trans d1
    have b2 : Below n₀ V1 V2 := by rw [← hV2]; exact belowK_b hn _ _ _ _ (by omega) l1 rfl rfl
    have k2 : KeepsFrom (w.heap.size + 1 + 1) V1 V2 := by rw [← hV2]; exact keepsFrom_putObj _ _ _
    have i2 : I pre V2 := by rw [← hV2]; exact hI.putObj _ i1 (by omega) l1 rfl
    have ax2 : Ax x a' V2 := by rw [← hV2]; exact (hAx x a').putObj (s := ()) _ ax1 (by omega) l1 rfl
    rw [hV2]
    have z2 : w.heap.size + 1 < V2.heap.size := (Array.getElem?_eq_some_iff.1 l2).1
    refine wpIn_mono (hbody _ pre x a' V2 (by omega) z2 hp i2 ax2) ?_
    have k12 : KeepsFrom (w.heap.size + 1 + 1) V V2 := (keepsFrom_mono k1 (by omega)).trans k2
    -- the round's end
    have fin : ∀ (jump : Option Code) (V3 : World), KeepsFrom w.heap.size V2 V3 →
        (Instr.endRound (w.heap.size + 1) jump).run P V3 = .ok (.bool jump.isNone) (V3.putObj (w.heap.size + 1) (.loop (rc (if jump.isNone then .ready else .done) jump))) ∧
        V3.heap[w.heap.size + 1]? = some (.loop { rc .ready none with state := .busy }) ∧
        (V3.putObj (w.heap.size + 1) (.loop (rc (if jump.isNone then .ready else .done) jump))).heap[w.heap.size + 1]? = some (.loop (rc (if jump.isNone then .ready else .done) jump)) ∧
        (V3.putObj (w.heap.size + 1) (.loop (rc (if jump.isNone then .ready else .done) jump))).heap[w.heap.size]? = some (.deferred (some [])) ∧
        KeepsFrom (w.heap.size + 1 + 1) V (V3.putObj (w.heap.size + 1) (.loop (rc (if jump.isNone then .ready else .done) jump))) := by
      intro jump V3 k3
      have l3 := k3.same _ _ (by omega) l2 rfl
      have := run_endRound (P := P) jump l3
      refine ⟨?_, l3, World.putObj_heap_same (Array.getElem?_eq_some_iff.1 l3).1, (World.putObj_heap_other (by omega)).trans (k3.same _ _ (Nat.le_refl _) d2 rfl), (k12.trans (keepsFrom_mono k3 (by omega))).trans (keepsFrom_putObj _ _ _)⟩
      rw [hrc] at this ⊢
      exact this
    rintro e a3 V3 hp3
    cases e with
    | normal =>
      obtain ⟨k3, b3, i3⟩ := hp3
      obtain ⟨hr, l3, l4, d4, k4⟩ := fin none V3 k3
      exact ⟨_, _, hr, .inl ⟨rfl, ⟨hI.putObj _ i3 (by omega) l3 rfl, l4, d4⟩, (b1.trans (b2.trans b3)).trans (belowK_b hn _ _ _ _ (by omega) l3 rfl rfl), k4⟩⟩
    | ret =>
      obtain ⟨k3, i3⟩ := hp3
      obtain ⟨hr, l3, l4, d4, k4⟩ := fin (some .ret) V3 k3
      exact ⟨_, _, hr, .inr ⟨rfl, ⟨.ret, (hIx _).putObj _ i3 (by omega) l3 rfl, l4, d4⟩, k4⟩⟩
    | exit id =>
      obtain ⟨k3, i3⟩ := hp3
      obtain ⟨hr, l3, l4, d4, k4⟩ := fin (some (.exit id)) V3 k3
      exact ⟨_, _, hr, .inr ⟨rfl, ⟨.exit id, (hIx _).putObj _ i3 (by omega) l3 rfl, l4, d4⟩, k4⟩⟩
    | goto t =>
      obtain ⟨k3, i3⟩ := hp3
      obtain ⟨hr, l3, l4, d4, k4⟩ := fin (some (.goto t)) V3 k3
      exact ⟨_, _, hr, .inr ⟨rfl, ⟨.goto t, (hIx _).putObj _ i3 (by omega) l3 rfl, l4, d4⟩, k4⟩⟩
    | panic ch => exact hp3.elim
    | outgrown => exact hp3.elim
  · rintro e V ⟨⟨v, rfl⟩, (⟨hi, hl, hk⟩ | ⟨pre, hp, c, hi, hl, hk⟩)⟩
    · exact ⟨none, _, by have := run_endLoop (P := P) hl (by rw [hrc]; simp); rw [hrc] at this; exact this, hdone _ (hI.putObj _ hi (by omega) hl rfl) ((World.putObj_heap_other (by omega)).trans hk)⟩
    · exact ⟨some c, _, by have := run_endLoop (P := P) hl (by rw [hrc]; simp); rw [hrc] at this; exact this, hstop c pre _ hp ((hIx c).putObj _ hi (by omega) hl rfl) ((World.putObj_heap_other (by omega)).trans hk)⟩

/-- A function that ranges over a function, walked in the plain way. -/
theorem calls_marks {P : Program} {f : FuncId} {fn : Func} {c : Code} {args : Array Value} {w : World} {R : Ending → World → Prop} (hf : P.funcs[f]? = some fn) (hb : fn.body = some c)
    (h : c.wp P (bodyPostM Fence.wide 0 P fn R) { tmps := args ++ Array.replicate (fn.ntmps - args.size) undef, defers := [] } w) : Calls P f args w R :=
  (callsIn_wide (n := 0)).1 (callsIn_of_wp_marks hf hb trivial (wpIn_wide.2 h) rfl)

end Go.Proofs.YtbpnllhhmookcaaGreatDoor

/- The small functions of package wire: limits, allows, of, fieldsOf: what each returns, for every argument that the program hands it. -/
namespace Go.Proofs.YtbpnllhhmookcaaGreatDoor
open Go.RowKit

def lo (f : Nat) : Int := if f = 5 ∨ f = 6 then 0 else 1
def hi (f : Nat) : Int := if f = 0 ∨ f = 1 then 999 else if f = 2 then 99 else if f = 3 then 1000000 else if f = 4 then 9 else if f = 7 then 5 else if f = 8 then 3 else 4
def off (f : Nat) : Nat := if f < 8 then f + 1 else 8

theorem lt9 {f : Nat} (h : f < 9) : f = 0 ∨ f = 1 ∨ f = 2 ∨ f = 3 ∨ f = 4 ∨ f = 5 ∨ f = 6 ∨ f = 7 ∨ f = 8 := by omega

set_option maxHeartbeats 400000 in
theorem limits_any (f : Nat) (hf : f < 9) (w : World) :
    Calls Tryz.prog 95 #[.int .i64 f] w fun e w' => e = .returned (.tuple #[.int .i64 (lo f), .int .i64 (hi f)]) ∧ w' = w := by
  rcases lt9 hf with rfl | rfl | rfl | rfl | rfl | rfl | rfl | rfl | rfl
  all_goals
    go_enter Tryz.func95, Tryz.ntmps95
    go_wp2
    go_ret2
    exact ⟨rfl, rfl⟩

def okB (f : Nat) (n : Int) : Bool := decide (lo f ≤ n) && decide (n ≤ hi f)

set_option maxHeartbeats 400000 in
theorem allows_any (f : Nat) (hf : f < 9) (n : Int) (w : World) :
    Calls Tryz.prog 81 #[.int .i64 f, .int .i64 n] w fun e w' => e = .returned (.bool (okB f n)) ∧ w' = w := by
  by_cases h1 : lo f ≤ n
  · go_enter Tryz.func81, Tryz.ntmps81
    go_wp2_with (go_at_call 95; refine (limits_any f hf _).mono ?_; rintro e w' ⟨rfl, rfl⟩)
    go_ret
    exact ⟨by simp [okB, h1], rfl⟩
  · have h1' : decide (lo f ≤ n) = false := by simpa using h1
    go_enter Tryz.func81, Tryz.ntmps81
    go_wp2_with (go_at_call 95; refine (limits_any f hf _).mono ?_; rintro e w' ⟨rfl, rfl⟩)
    go_ret
    exact ⟨by simp [okB, h1'], rfl⟩

set_option maxHeartbeats 400000 in
theorem of_any (f : Nat) (hf : f < 9) (b : Nat) (w : World) :
    Calls Tryz.prog 80 #[.int .i64 f, .pointer (some ⟨b, 0, none⟩)] w fun e w' => e = .returned (.pointer (some ⟨b, off f, none⟩)) ∧ w' = w := by
  rcases lt9 hf with rfl | rfl | rfl | rfl | rfl | rfl | rfl | rfl | rfl
  all_goals
    go_enter Tryz.func80, Tryz.ntmps80
    go_wp2
    go_ret
    exact ⟨rfl, rfl⟩

end Go.Proofs.YtbpnllhhmookcaaGreatDoor

/- What fieldsOf of package wire returns: the codes of a kind's numbers, in memory of its own; nil for what is no kind. -/
namespace Go.Proofs.YtbpnllhhmookcaaGreatDoor
open Go.RowKit

def flds (k : Int) : List Nat :=
  if k = 1 then [4, 7] else if k = 2 then [0, 2, 3, 4, 5, 6] else if k = 3 ∨ k = 8 then [0, 4, 5, 6] else if k = 4 then [0, 1, 3, 4, 5, 6]
  else if k = 5 then [0, 1, 3] else if k = 6 then [0, 3] else if k = 7 ∨ k = 12 ∨ k = 15 ∨ k = 16 then [0] else if k = 9 ∨ k = 14 then [2]
  else if k = 10 then [4, 8] else if k = 11 ∨ k = 13 then [4] else []

theorem kinds {k : Int} (h1 : 1 ≤ k) (h2 : k ≤ 16) : k = 1 ∨ k = 2 ∨ k = 3 ∨ k = 4 ∨ k = 5 ∨ k = 6 ∨ k = 7 ∨ k = 8 ∨ k = 9 ∨ k = 10 ∨ k = 11 ∨ k = 12 ∨ k = 13 ∨ k = 14 ∨ k = 15 ∨ k = 16 := by omega

def codes (l : List Nat) : List Value := l.map fun (f : Nat) => Value.int .i64 (f : Int)

set_option maxHeartbeats 400000 in
theorem fieldsOf_yes (k : Int) (h1 : 1 ≤ k) (h2 : k ≤ 16) (w : World) :
    Calls Tryz.prog 79 #[.int .i64 k] w fun e w' => e = .returned (.slice (some ⟨w.heap.size, 0, none⟩) (flds k).length (flds k).length) ∧ w' = w.alloc (.cells (codes (flds k)).toArray 146) := by
  rcases kinds h1 h2 with rfl | rfl | rfl | rfl | rfl | rfl | rfl | rfl | rfl | rfl | rfl | rfl | rfl | rfl | rfl | rfl
  all_goals
    go_enter Tryz.func79, Tryz.ntmps79
    go_wp2
    go_ret
    exact ⟨rfl, rfl⟩

set_option maxHeartbeats 400000 in
theorem fieldsOf_no (k : Int) (h : k < 1 ∨ 16 < k) (w : World) :
    Calls Tryz.prog 79 #[.int .i64 k] w fun e w' => e = .returned (.slice none 0 0) ∧ w' = w := by
  rcases h with h | h
  all_goals
    go_enter Tryz.func79, Tryz.ntmps79
    go_wp2
    go_ret
    exact ⟨rfl, rfl⟩

end Go.Proofs.YtbpnllhhmookcaaGreatDoor

/- What numberAt and appendNumber of package wire do: a number of four bytes is read off a string, and written behind a slice that the caller owns. -/
namespace Go.Proofs.YtbpnllhhmookcaaGreatDoor
open Go.RowKit

theorem hid {p : Prop} (h : p) : Hid p := h

/-- The number that four bytes from place j on are. -/
def numB (l : List UInt8) (j : Nat) : Nat := (l.getD j 0).toNat * 16777216 + (l.getD (j + 1) 0).toNat * 65536 + (l.getD (j + 2) 0).toNat * 256 + (l.getD (j + 3) 0).toNat

theorem byte_lt (b : UInt8) : b.toNat < 256 := b.toNat_lt
theorem numB_lt (l : List UInt8) (j : Nat) : numB l j < 4294967296 := by
  have := byte_lt (l.getD j 0); have := byte_lt (l.getD (j + 1) 0); have := byte_lt (l.getD (j + 2) 0); have := byte_lt (l.getD (j + 3) 0)
  unfold numB; omega

theorem wraps32 (n : Int) (h0 : 0 ≤ n) (h1 : n < 2 ^ 32) : IntKind.u32.wrap n = n := by
  simp only [IntKind.wrap, IntKind.bits, IntKind.signed]; simp; omega

theorem or4 (a b c d : Nat) (ha : a < 256) (hb : b < 256) (hc : c < 256) (hd : d < 256) :
    bits BinOp.or IntKind.u32 (bits BinOp.or IntKind.u32 (bits BinOp.or IntKind.u32 ((a : Int) % 4294967296 * 16777216 % 4294967296) ((b : Int) % 4294967296 * 65536 % 4294967296)) ((c : Int) % 4294967296 * 256 % 4294967296)) ((d : Int) % 4294967296)
      = ((a * 16777216 + b * 65536 + c * 256 + d : Nat) : Int) := by
  have e1 : (a : Int) % 4294967296 * 16777216 % 4294967296 = ((a * 16777216 : Nat) : Int) := by omega
  have e2 : (b : Int) % 4294967296 * 65536 % 4294967296 = ((b * 65536 : Nat) : Int) := by omega
  have e3 : (c : Int) % 4294967296 * 256 % 4294967296 = ((c * 256 : Nat) : Int) := by omega
  have e4 : (d : Int) % 4294967296 = ((d : Nat) : Int) := by omega
  rw [e1, e2, e3, e4]
  rw [bits_join .u32 32 (by decide) wraps32 24 ((a * 16777216 : Nat) : Int) ((b * 65536 : Nat) : Int) (by omega) (by omega) (by omega) (by omega) (by omega) (by omega)]
  rw [bits_join .u32 32 (by decide) wraps32 16 (((a * 16777216 : Nat) : Int) + ((b * 65536 : Nat) : Int)) ((c * 256 : Nat) : Int) (by omega) (by omega) (by omega) (by omega) (by omega) (by omega)]
  rw [bits_join .u32 32 (by decide) wraps32 8 (((a * 16777216 : Nat) : Int) + ((b * 65536 : Nat) : Int) + ((c * 256 : Nat) : Int)) (d : Int) (by omega) (by omega) (by omega) (by omega) (by omega) (by omega)]
  omega

theorem getD_bytes (s : ByteArray) (j : Nat) (h : j < s.size) : s.data.toList.getD j 0 = s[j] := by
  have h' : j < s.data.toList.length := by simpa using h
  rw [List.getD_eq_getElem?_getD, List.getElem?_eq_getElem h']; rfl

theorem cut_bytes (s : ByteArray) (i k : Nat) (hi : 4 * i + 4 ≤ s.size) (hk : k < 4) (h : k < ((s.extract (i * 4) s.size).extract 0 4).size) :
    ((s.extract (i * 4) s.size).extract 0 4)[k] = s.data.toList.getD (4 * i + k) 0 := by
  rw [getD_bytes s (4 * i + k) (by omega)]
  simp [ByteArray.getElem_extract, Nat.mul_comm]

theorem ret_int {k : IntKind} {a b : Int} (h : a = b) : Ending.returned (.int k a) = .returned (.int k b) := by rw [h]

set_option maxHeartbeats 400000 in
theorem numberAt_any (s : ByteArray) (i : Nat) (w : World) (hs : s.size ≤ maxLen) (hi : 4 * i + 4 ≤ s.size) :
    Calls Tryz.prog 84 #[.string s, .int .i64 i] w fun e w' => e = .returned (.int .u32 (numB s.data.toList (4 * i) : Nat)) ∧ ∃ n, w' = w.drewN n := by
  unfold maxLen at hs
  go_enter Tryz.func84, Tryz.ntmps84
  go_wp2_with fail
  have hsz : 4 ≤ ((s.extract (i * 4) s.size).extract 0 4).size := by simp; omega
  have hcut := fun k hk h => cut_bytes s i k hi hk h
  have HC := hid hcut
  clear hcut
  generalize (s.extract (i * 4) s.size).extract 0 4 = b at *
  have g0 : 0 < b.size := by omega
  have g1 : (1 : Int) < (b.size : Int) := by omega
  have g2 : (2 : Int) < (b.size : Int) := by omega
  have g3 : (3 : Int) < (b.size : Int) := by omega
  go_quiet (fail)
  go_wp2
  go_ret
  refine ⟨ret_int ?_, _, rfl⟩
  rw [or4 _ _ _ _ (byte_lt _) (byte_lt _) (byte_lt _) (byte_lt _)]
  have HC' := HC.out
  rw [HC' 0 (by omega) (by omega), HC' 1 (by omega) (by omega), HC' 2 (by omega) (by omega), HC' 3 (by omega) (by omega)]
  rfl

/-- Four bytes of a number. -/
def be4 (v : Nat) : List UInt8 := [UInt8.ofNat (v / 16777216), UInt8.ofNat (v / 65536), UInt8.ofNat (v / 256), UInt8.ofNat v]
def byteCells (l : List UInt8) : List Value := l.map fun (b : UInt8) => Value.int .u8 (b.toNat : Int)

theorem Tryz.infoByte : (Tryz.prog.info? 5).map (fun i => (i.zero, i.size, i.bytes)) = some (some (.int .u8 0), 1, 1) := by kernel_rfl

theorem be4_cells (v : Nat) (hv : v < 4294967296) : byteCells (be4 v) = [Value.int .u8 ((v : Int) / 16777216), Value.int .u8 ((v : Int) / 65536 % 256), Value.int .u8 ((v : Int) / 256 % 256), Value.int .u8 ((v : Int) % 256)] := by
  simp only [byteCells, be4, List.map, UInt8.toNat_ofNat']
  have e0 : ((v % 2 ^ 8 : Nat) : Int) = (v : Int) % 256 := by omega
  have e1 : ((v / 256 % 2 ^ 8 : Nat) : Int) = (v : Int) / 256 % 256 := by omega
  have e2 : ((v / 65536 % 2 ^ 8 : Nat) : Int) = (v : Int) / 65536 % 256 := by omega
  have e3 : ((v / 16777216 % 2 ^ 8 : Nat) : Int) = (v : Int) / 16777216 := by omega
  rw [e0, e1, e2, e3]

set_option maxHeartbeats 400000 in
theorem appendNumber_any (B n v : Nat) (hv : v < 4294967296) (sv : Value) (xs : List Value) (w : World) (hown : w.ownsRow B 5 1 sv n xs) (hBw : B ≤ w.heap.size) (hlim : n + 4 ≤ 140737488355328) :
    Calls Tryz.prog 82 #[sv, .int .u32 v] w fun e w' => ∃ v', e = .returned v' ∧ w'.ownsRow B 5 1 v' (n + 4) (xs ++ byteCells (be4 v)) ∧ Below B w w' := by
  obtain ⟨i0, hi, hz0, hz1, hz2⟩ := info_parts Tryz.infoByte
  have hb := be4_cells v hv
  have HB := hid hb
  clear hb
  go_enter Tryz.func82, Tryz.ntmps82
  go_wp2_with (at_builtin; refine wpList_append_own _ rfl _ _ 68 rfl B 5 i0 (.int .u8 0) 1 1 Tryz.underlying68 hi hz0 hz1 hz2 rfl (by decide) _ _ _ rfl (hown.alloc _) _ 4 4 [Value.int .u8 ((v : Int) / 16777216), Value.int .u8 ((v : Int) / 65536 % 256), Value.int .u8 ((v : Int) / 256 % 256), Value.int .u8 ((v : Int) % 256)] rfl rfl ?c1 ?c2 ?c3 ?c4 ?c5 ?_)
  case c1 =>
    intro j u hj
    match j, hj with
    | 0, hj => simp at hj; subst hj; simp [Addr.add]
    | 1, hj => simp at hj; subst hj; simp [Addr.add]
    | 2, hj => simp at hj; subst hj; simp [Addr.add]
    | 3, hj => simp at hj; subst hj; simp [Addr.add]
  case c2 => intro u hu; simp at hu; rcases hu with rfl | rfl | rfl | rfl <;> rfl
  case c3 => unfold maxLen; omega
  case c4 => omega
  case c5 => simp; omega
  intro v' w2 hown' hgrow _
  go_wp2
  go_ret
  refine ⟨v', rfl, by rw [HB.out]; exact hown', ?_⟩
  exact (((Below.refl B w).alloc hBw _).grown hgrow (by simp; omega) (fun k hk => (hown.lt k hk).1))

end Go.Proofs.YtbpnllhhmookcaaGreatDoor
