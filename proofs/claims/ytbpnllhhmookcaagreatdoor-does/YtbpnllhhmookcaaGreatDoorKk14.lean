/- Iterators that range over other ones, over a set of blocks that the rounds may turn. -/
import Derived.Test.YtbpnllhhmookcaaGreatDoorKk00
import Derived.Test.YtbpnllhhmookcaaGreatDoorKk02
namespace Go.Proofs.YtbpnllhhmookcaaGreatDoor
open Go.RowKit Go.Shelf

theorem keeps_same {S : Nat → Prop} {W W' : World} (h : Keeps S W W') {k : Nat} {o : Obj} (hS : ¬ S k) (ho : W.heap[k]? = some o) : W'.heap[k]? = some o := (h.block k (Array.getElem?_eq_some_iff.1 ho).1 hS).trans ho
theorem keeps_putObj (X : Nat → Prop) (l : Nat) (W : World) (o : Obj) : Keeps (fun k => X k ∨ k = l) W (W.putObj l o) := (Keeps.refl _ W).grown (grownBy_putObj' W l o) (fun k e => by cases e; exact .inl (.inr rfl))

/-- What is asked at a round's end. -/
def ownPostX {α : Type} (X : Nat → Prop) (I : List α → World → Prop) (Ix : Code → List α → World → Prop) (xs : List α) (W : World) : Exit → Act → World → Prop
  | .normal, _, W' => Keeps X W W' ∧ I xs W'
  | .ret, _, W' => Keeps X W W' ∧ Ix .ret xs W'
  | .exit id, _, W' => Keeps X W W' ∧ Ix (.exit id) xs W'
  | .goto t, _, W' => Keeps X W W' ∧ Ix (.goto t) xs W'
  | .panic _, _, _ => False
  | .outgrown, _, _ => False

/-- What an iterator gives: all of xs, in their order, or, where a round says 'no more', those up to there; the rounds turn nothing but the blocks of a set and their own loop's record. -/
def GivesX {α : Type} (P : Program) (g : Nat) (lb : Array Value) (encs : α → Array Value) (X : Nat → Prop) (xs : List α) (w : World) : Prop :=
  ∀ (l : Nat) (J Jx : List α → World → Prop) (W : World), Below w.heap.size w W → w.heap.size ≤ l → l < W.heap.size → (∀ k, X k → k < W.heap.size) → OwnFrom W.heap.size J → OwnFrom W.heap.size Jx →
    (∀ pre x W1, (pre ++ [x]) <+: xs → J pre W1 → YieldAt Fence.wide 0 P l (encs x) W1 fun e W' =>
      (e = .returned (.bool true) ∧ J (pre ++ [x]) W' ∧ Keeps (fun k => X k ∨ k = l) W1 W') ∨ (e = .returned (.bool false) ∧ Jx (pre ++ [x]) W' ∧ Keeps (fun k => X k ∨ k = l) W1 W')) →
    J [] W →
    Calls P g (#[.func (.yield l) #[] #[]] ++ lb) W fun e W' => (∃ v, e = .returned v) ∧ (J xs W' ∨ ∃ pre, pre <+: xs ∧ Jx pre W')

/-- The statement, by what its iterator gives. -/
theorem rangeX_law {α : Type} {P : Program} {n : Nat} {g : Operand} {ps : Array Tmp} {assign body : Code} {Q : Exit → Act → World → Prop} {a : Act} {w : World}
    {gf : Nat} {lb : Array Value} (hg : a.eval g = .func (.func gf) #[] lb) (eg : ∀ args w, (callFunc gf args).run P w = .ok (.enter gf args) w)
    {encs : α → Array Value} {X : Nat → Prop} {xs : List α} {w0 : World} (hseq : GivesX P gf lb encs X xs w0) (hb0 : Below w0.heap.size w0 w) (hX : ∀ k, X k → k < w.heap.size) (hps : ∀ x, (encs x).size = ps.size)
    (I : List α → World → Prop) (Ix : Code → List α → World → Prop) (hI : OwnFrom w.heap.size I) (hIx : ∀ c, OwnFrom w.heap.size (Ix c)) (h0 : I [] w)
    (Ax : α → Act → World → Prop) (hAx : ∀ x a', OwnFrom w.heap.size (fun (_ : Unit) W => Ax x a' W))
    (hassign : ∀ (l : Nat) (pre : List α) (x : α) (W : World) (K : Act → World → Prop), (pre ++ [x]) <+: xs → I pre W → (∀ a' W', Keeps X W W' → I pre W' → Ax x a' W' → K a' W') →
      assign.wpIn (Fence.wide.inRound l) 0 P (Exit.then K (fun _ _ _ => False)) { tmps := (ps.zip (encs x)).foldl (fun t (p, v) => t.setIfInBounds p v) a.tmps, defers := [] } W)
    (hbody : ∀ (l : Nat) (pre : List α) (x : α) (a' : Act) (W : World), w.heap.size ≤ l → l < W.heap.size → (pre ++ [x]) <+: xs → I pre W → Ax x a' W → body.wpIn (Fence.wide.inRound l) 0 P (ownPostX X I Ix (pre ++ [x]) W) a' W)
    (hdone : ∀ W, I xs W → W.heap[w.heap.size]? = some (.deferred (some [])) → Q .normal { a with defers := { target := .collected w.heap.size, args := #[] } :: a.defers } W)
    (hstop : ∀ c pre W, pre <+: xs → Ix c pre W → W.heap[w.heap.size]? = some (.deferred (some [])) → c.wpIn Fence.wide n P Q { a with defers := { target := .collected w.heap.size, args := #[] } :: a.defers } W) :
    (Code.rangeFunc g ps assign body).wpIn Fence.wide n P Q a w := by
  refine wpIn_rangeFunc fun fn hfn => ?_
  rw [Fence.wide_round]
  obtain ⟨rc, hrc⟩ : ∃ rc : LoopState → Option Code → Loop, rc = fun st pe => { state := st, pending := pe, fn, tmps := a.tmps, params := ps, assign, body, defers := w.heap.size } := ⟨_, rfl⟩
  obtain ⟨S, hS⟩ : ∃ S, (w.alloc (.deferred (some []))).alloc (.loop (rc .ready none)) = S := ⟨_, rfl⟩
  have sS : S.heap.size = w.heap.size + 2 := by rw [← hS]; simp
  have lS : S.heap[w.heap.size + 1]? = some (.loop (rc .ready none)) := by
    rw [← hS]; have := World.alloc_heap_new (w.alloc (.deferred (some []))) (.loop (rc .ready none)); rwa [World.size_alloc] at this
  have dS : S.heap[w.heap.size]? = some (.deferred (some [])) := by
    rw [← hS]; exact (Below.heap_alloc _ _ _ (by simp)).trans (World.alloc_heap_new w _)
  have iS : I [] S := by rw [← hS]; exact hI.alloc _ (hI.alloc _ h0)
  have bS : Below w0.heap.size w0 S := by
    rw [← hS]; exact hb0.trans ((((Below.refl _ w).alloc (Nat.le_refl _) _).alloc (by simp) _).mono hb0.size)
  -- what is no cells and lies ahead of S's end lies on through what the iterator turns
  have keep : ∀ {A B : World} {row : Option Nat} {k : Nat} {o : Obj}, A.grownBy B row → (∀ r, row = some r → S.heap.size ≤ r ∧ ∃ o : Obj, A.heap[r]? = some o ∧ o.isCells = false) → k < w.heap.size + 2 → A.heap[k]? = some o → B.heap[k]? = some o := by
    intro A B row k o hgr hr hk ha
    refine (hgr.block k (Array.getElem?_eq_some_iff.1 ha).1 (fun e => ?_)).trans ha
    have := (hr k e.symm).1; omega
  have low : ∀ {A : World} {row : Option Nat}, (∀ r, row = some r → S.heap.size ≤ r ∧ ∃ o : Obj, A.heap[r]? = some o ∧ o.isCells = false) → (∀ r, row = some r → w.heap.size ≤ r ∧ ∃ o : Obj, A.heap[r]? = some o ∧ o.isCells = false) :=
    fun hr r e => ⟨by have := (hr r e).1; omega, (hr r e).2⟩
  refine ⟨w.heap.size + 1, [{ target := .collected w.heap.size, args := #[] }], S, { target := .fn (.func gf) lb, args := #[.func (.yield (w.heap.size + 1)) #[] #[]] }, S, gf,
    #[.func (.yield (w.heap.size + 1)) #[] #[]] ++ lb, S, ?_, ?_, fun _ _ => trivial, ?_, fun h => by simp [Fence.wide] at h, ?_⟩
  · rw [← hS, hrc]; exact run_enterLoop_outer _ _ _ _ _
  · simp only [resolve, hg]; simp [go_sem]
  · simp [invoke, go_sem, eg]
  refine callsIn_wide.2 ((hseq (w.heap.size + 1)
    (fun pre W => I pre W ∧ W.heap[w.heap.size + 1]? = some (.loop (rc .ready none)) ∧ W.heap[w.heap.size]? = some (.deferred (some [])))
    (fun pre W => ∃ c, Ix c pre W ∧ W.heap[w.heap.size + 1]? = some (.loop (rc .done (some c))) ∧ W.heap[w.heap.size]? = some (.deferred (some [])))
    S bS (by have := hb0.size; omega) (by omega) (fun k h => by have := hX k h; omega)
    (fun s A B row hs hg' hr => ⟨hI s A B row hs.1 hg' (low hr), keep hg' hr (by omega) hs.2.1, keep hg' hr (by omega) hs.2.2⟩)
    (fun s A B row hs hg' hr => by
      obtain ⟨c, hc, hl, hk⟩ := hs
      exact ⟨c, hIx c s A B row hc hg' (low hr), keep hg' hr (by omega) hl, keep hg' hr (by omega) hk⟩)
    ?_ ⟨iS, lS, dS⟩).mono ?_)
  · rintro pre x V hp ⟨hi, hl, hk⟩
    have hy := run_yield (P := P) (args := encs x) hl (by rw [hrc]; exact hps x)
    rw [hrc] at hy
    refine ⟨fn, _, assign, body, hy, roundIn_of_wpIn hfn (hassign _ pre x V _ hp hi ?_)⟩
    clear hy
    intro a' V1 k1 i1 ax1
    have l1 := keeps_same k1 (fun h => by have := hX _ h; omega) hl
    have d1 := keeps_same k1 (fun h => by have := hX _ h; omega) hk
    have z1 : w.heap.size + 1 < V1.heap.size := (Array.getElem?_eq_some_iff.1 l1).1
    refine ⟨_, run_beginRound l1 (by rw [hrc]), ?_⟩
    obtain ⟨V2, hV2⟩ : ∃ V2, V1.putObj (w.heap.size + 1) (.loop { rc .ready none with state := .busy }) = V2 := ⟨_, rfl⟩
    have l2 : V2.heap[w.heap.size + 1]? = some (.loop { rc .ready none with state := .busy }) := by rw [← hV2]; exact World.putObj_heap_same z1
    have d2 : V2.heap[w.heap.size]? = some (.deferred (some [])) := by rw [← hV2]; exact (World.putObj_heap_other (by omega)).trans d1
    have k2 : Keeps (fun k => X k ∨ k = w.heap.size + 1) V1 V2 := by rw [← hV2]; exact keeps_putObj _ _ _ _
    have i2 : I pre V2 := by rw [← hV2]; exact hI.putObj _ i1 (by omega) l1 rfl
    have ax2 : Ax x a' V2 := by rw [← hV2]; exact (hAx x a').putObj (s := ()) _ ax1 (by omega) l1 rfl
    rw [hV2]
    have z2 : w.heap.size + 1 < V2.heap.size := (Array.getElem?_eq_some_iff.1 l2).1
    refine wpIn_mono (hbody _ pre x a' V2 (by omega) z2 hp i2 ax2) ?_
    have k12 : Keeps (fun k => X k ∨ k = w.heap.size + 1) V V2 := (k1.mono (fun _ _ h => .inl h)).trans k2
    -- the round's end
    have fin : ∀ (jump : Option Code) (V3 : World), Keeps X V2 V3 →
        (Instr.endRound (w.heap.size + 1) jump).run P V3 = .ok (.bool jump.isNone) (V3.putObj (w.heap.size + 1) (.loop (rc (if jump.isNone then .ready else .done) jump))) ∧
        V3.heap[w.heap.size + 1]? = some (.loop { rc .ready none with state := .busy }) ∧
        (V3.putObj (w.heap.size + 1) (.loop (rc (if jump.isNone then .ready else .done) jump))).heap[w.heap.size + 1]? = some (.loop (rc (if jump.isNone then .ready else .done) jump)) ∧
        (V3.putObj (w.heap.size + 1) (.loop (rc (if jump.isNone then .ready else .done) jump))).heap[w.heap.size]? = some (.deferred (some [])) ∧
        Keeps (fun k => X k ∨ k = w.heap.size + 1) V (V3.putObj (w.heap.size + 1) (.loop (rc (if jump.isNone then .ready else .done) jump))) := by
      intro jump V3 k3
      have l3 := keeps_same k3 (fun h => by have := hX _ h; omega) l2
      have := run_endRound (P := P) jump l3
      refine ⟨?_, l3, World.putObj_heap_same (Array.getElem?_eq_some_iff.1 l3).1, (World.putObj_heap_other (by omega)).trans (keeps_same k3 (fun h => by have := hX _ h; omega) d2), (k12.trans (k3.mono (fun _ _ h => .inl h))).trans (keeps_putObj _ _ _ _)⟩
      rw [hrc] at this ⊢
      exact this
    rintro e a3 V3 hp3
    cases e with
    | normal =>
      obtain ⟨k3, i3⟩ := hp3
      obtain ⟨hr, l3, l4, d4, k4⟩ := fin none V3 k3
      exact ⟨_, _, hr, .inl ⟨rfl, ⟨hI.putObj _ i3 (by omega) l3 rfl, l4, d4⟩, k4⟩⟩
    | ret =>
      obtain ⟨k3, i3⟩ := hp3
      obtain ⟨hr, l3, l4, d4, k4⟩ := fin (some .ret) V3 k3
      exact ⟨_, _, hr, .inr ⟨rfl, ⟨.ret, (hIx _).putObj _ i3 (by omega) l3 rfl, l4, d4⟩, k4⟩⟩
    | exit id =>
      obtain ⟨k3, i3⟩ := hp3
      obtain ⟨hr, l3, l4, d4, k4⟩ := fin (some (.exit id)) V3 k3
      exact ⟨_, _, hr, .inr ⟨rfl, ⟨.exit id, (hIx _).putObj _ i3 (by omega) l3 rfl, l4, d4⟩, k4⟩⟩
    | goto t =>
      obtain ⟨k3, i3⟩ := hp3
      obtain ⟨hr, l3, l4, d4, k4⟩ := fin (some (.goto t)) V3 k3
      exact ⟨_, _, hr, .inr ⟨rfl, ⟨.goto t, (hIx _).putObj _ i3 (by omega) l3 rfl, l4, d4⟩, k4⟩⟩
    | panic ch => exact hp3.elim
    | outgrown => exact hp3.elim
  · rintro e V ⟨⟨v, rfl⟩, (⟨hi, hl, hk⟩ | ⟨pre, hp, c, hi, hl, hk⟩)⟩
    · exact ⟨none, _, by have := run_endLoop (P := P) hl (by rw [hrc]; simp); rw [hrc] at this; exact this, hdone _ (hI.putObj _ hi (by omega) hl rfl) ((World.putObj_heap_other (by omega)).trans hk)⟩
    · exact ⟨some c, _, by have := run_endLoop (P := P) hl (by rw [hrc]; simp); rw [hrc] at this; exact this, hstop c pre _ hp ((hIx c).putObj _ hi (by omega) hl rfl) ((World.putObj_heap_other (by omega)).trans hk)⟩

end Go.Proofs.YtbpnllhhmookcaaGreatDoor

/- Iterators that range over other ones, over a set of blocks that the rounds may turn, and what earlier rounds made. -/
namespace Go.Proofs.YtbpnllhhmookcaaGreatDoor
open Go.RowKit Go.Shelf

/-- What an iterator gives: all of xs, in their order, or, where a round says 'no more', those up to there; the rounds turn nothing but the blocks of a set and their own loop's record, and what lies from a bound on that the iterator names. -/
def GivesM {α : Type} (P : Program) (g : Nat) (lb : Array Value) (encs : α → Array Value) (X : Nat → Prop) (xs : List α) (w : World) : Prop :=
  ∀ (l : Nat) (J Jx : Nat → List α → World → Prop) (W : World), Below w.heap.size w W → w.heap.size ≤ l → l < W.heap.size → (∀ k, X k → k < W.heap.size) → (∀ M, OwnFrom W.heap.size (J M)) → (∀ M, OwnFrom W.heap.size (Jx M)) →
    (∀ M pre x W1, W.heap.size ≤ M → M ≤ W1.heap.size → (pre ++ [x]) <+: xs → J M pre W1 → YieldAt Fence.wide 0 P l (encs x) W1 fun e W' =>
      (e = .returned (.bool true) ∧ J M (pre ++ [x]) W' ∧ Keeps (fun k => X k ∨ k = l ∨ M ≤ k) W1 W') ∨ (e = .returned (.bool false) ∧ Jx M (pre ++ [x]) W' ∧ Keeps (fun k => X k ∨ k = l ∨ M ≤ k) W1 W')) →
    (∀ M, W.heap.size ≤ M → J M [] W) →
    Calls P g (#[.func (.yield l) #[] #[]] ++ lb) W fun e W' => (∃ v, e = .returned v) ∧ ∃ M, W.heap.size ≤ M ∧ (J M xs W' ∨ ∃ pre, pre <+: xs ∧ Jx M pre W')

/-- The statement, by what its iterator gives. -/
theorem rangeM_law {α : Type} {P : Program} {n : Nat} {g : Operand} {ps : Array Tmp} {assign body : Code} {Q : Exit → Act → World → Prop} {a : Act} {w : World}
    {gf : Nat} {lb : Array Value} (hg : a.eval g = .func (.func gf) #[] lb) (eg : ∀ args w, (callFunc gf args).run P w = .ok (.enter gf args) w)
    {encs : α → Array Value} {X : Nat → Prop} {xs : List α} {w0 : World} (hseq : GivesM P gf lb encs X xs w0) (hb0 : Below w0.heap.size w0 w) (hX : ∀ k, X k → k < w.heap.size) (hps : ∀ x, (encs x).size = ps.size)
    (I : Nat → List α → World → Prop) (Ix : Nat → Code → List α → World → Prop) (hI : ∀ M, OwnFrom w.heap.size (I M)) (hIx : ∀ M c, OwnFrom w.heap.size (Ix M c)) (h0 : ∀ M, w.heap.size + 2 ≤ M → I M [] w)
    (Ax : α → Act → World → Prop) (hAx : ∀ x a', OwnFrom w.heap.size (fun (_ : Unit) W => Ax x a' W))
    (hassign : ∀ (l M : Nat) (pre : List α) (x : α) (W : World) (K : Act → World → Prop), w.heap.size + 2 ≤ M → M ≤ W.heap.size → (pre ++ [x]) <+: xs → I M pre W → (∀ a' W', Keeps (fun k => X k ∨ M ≤ k) W W' → I M pre W' → Ax x a' W' → K a' W') →
      assign.wpIn (Fence.wide.inRound l) 0 P (Exit.then K (fun _ _ _ => False)) { tmps := (ps.zip (encs x)).foldl (fun t (p, v) => t.setIfInBounds p v) a.tmps, defers := [] } W)
    (hbody : ∀ (l M : Nat) (pre : List α) (x : α) (a' : Act) (W : World), w.heap.size ≤ l → l < M → w.heap.size + 2 ≤ M → M ≤ W.heap.size → (pre ++ [x]) <+: xs → I M pre W → Ax x a' W → body.wpIn (Fence.wide.inRound l) 0 P (ownPostX (fun k => X k ∨ M ≤ k) (I M) (Ix M) (pre ++ [x]) W) a' W)
    (hdone : ∀ M W, w.heap.size + 2 ≤ M → I M xs W → W.heap[w.heap.size]? = some (.deferred (some [])) → Q .normal { a with defers := { target := .collected w.heap.size, args := #[] } :: a.defers } W)
    (hstop : ∀ M c pre W, w.heap.size + 2 ≤ M → pre <+: xs → Ix M c pre W → W.heap[w.heap.size]? = some (.deferred (some [])) → c.wpIn Fence.wide n P Q { a with defers := { target := .collected w.heap.size, args := #[] } :: a.defers } W) :
    (Code.rangeFunc g ps assign body).wpIn Fence.wide n P Q a w := by
  refine wpIn_rangeFunc fun fn hfn => ?_
  rw [Fence.wide_round]
  obtain ⟨rc, hrc⟩ : ∃ rc : LoopState → Option Code → Loop, rc = fun st pe => { state := st, pending := pe, fn, tmps := a.tmps, params := ps, assign, body, defers := w.heap.size } := ⟨_, rfl⟩
  obtain ⟨S, hS⟩ : ∃ S, (w.alloc (.deferred (some []))).alloc (.loop (rc .ready none)) = S := ⟨_, rfl⟩
  have sS : S.heap.size = w.heap.size + 2 := by rw [← hS]; simp
  have lS : S.heap[w.heap.size + 1]? = some (.loop (rc .ready none)) := by
    rw [← hS]; have := World.alloc_heap_new (w.alloc (.deferred (some []))) (.loop (rc .ready none)); rwa [World.size_alloc] at this
  have dS : S.heap[w.heap.size]? = some (.deferred (some [])) := by
    rw [← hS]; exact (Below.heap_alloc _ _ _ (by simp)).trans (World.alloc_heap_new w _)
  have iS : ∀ M, S.heap.size ≤ M → I M [] S := fun M hM => by rw [sS] at hM; rw [← hS]; exact (hI M).alloc _ ((hI M).alloc _ (h0 M hM))
  have bS : Below w0.heap.size w0 S := by
    rw [← hS]; exact hb0.trans ((((Below.refl _ w).alloc (Nat.le_refl _) _).alloc (by simp) _).mono hb0.size)
  -- what is no cells and lies ahead of S's end lies on through what the iterator turns
  have keep : ∀ {A B : World} {row : Option Nat} {k : Nat} {o : Obj}, A.grownBy B row → (∀ r, row = some r → S.heap.size ≤ r ∧ ∃ o : Obj, A.heap[r]? = some o ∧ o.isCells = false) → k < w.heap.size + 2 → A.heap[k]? = some o → B.heap[k]? = some o := by
    intro A B row k o hgr hr hk ha
    refine (hgr.block k (Array.getElem?_eq_some_iff.1 ha).1 (fun e => ?_)).trans ha
    have := (hr k e.symm).1; omega
  have low : ∀ {A : World} {row : Option Nat}, (∀ r, row = some r → S.heap.size ≤ r ∧ ∃ o : Obj, A.heap[r]? = some o ∧ o.isCells = false) → (∀ r, row = some r → w.heap.size ≤ r ∧ ∃ o : Obj, A.heap[r]? = some o ∧ o.isCells = false) :=
    fun hr r e => ⟨by have := (hr r e).1; omega, (hr r e).2⟩
  refine ⟨w.heap.size + 1, [{ target := .collected w.heap.size, args := #[] }], S, { target := .fn (.func gf) lb, args := #[.func (.yield (w.heap.size + 1)) #[] #[]] }, S, gf,
    #[.func (.yield (w.heap.size + 1)) #[] #[]] ++ lb, S, ?_, ?_, fun _ _ => trivial, ?_, fun h => by simp [Fence.wide] at h, ?_⟩
  · rw [← hS, hrc]; exact run_enterLoop_outer _ _ _ _ _
  · simp only [resolve, hg]; simp [go_sem]
  · simp [invoke, go_sem, eg]
  refine callsIn_wide.2 ((hseq (w.heap.size + 1)
    (fun M pre W => I M pre W ∧ W.heap[w.heap.size + 1]? = some (.loop (rc .ready none)) ∧ W.heap[w.heap.size]? = some (.deferred (some [])))
    (fun M pre W => ∃ c, Ix M c pre W ∧ W.heap[w.heap.size + 1]? = some (.loop (rc .done (some c))) ∧ W.heap[w.heap.size]? = some (.deferred (some [])))
    S bS (by have := hb0.size; omega) (by omega) (fun k h => by have := hX k h; omega)
    (fun M s A B row hs hg' hr => ⟨hI M s A B row hs.1 hg' (low hr), keep hg' hr (by omega) hs.2.1, keep hg' hr (by omega) hs.2.2⟩)
    (fun M s A B row hs hg' hr => by
      obtain ⟨c, hc, hl, hk⟩ := hs
      exact ⟨c, hIx M c s A B row hc hg' (low hr), keep hg' hr (by omega) hl, keep hg' hr (by omega) hk⟩)
    ?_ (fun M hM => ⟨iS M hM, lS, dS⟩)).mono ?_)
  · rintro M pre x V hM1 hM2 hp ⟨hi, hl, hk⟩
    have hy := run_yield (P := P) (args := encs x) hl (by rw [hrc]; exact hps x)
    rw [hrc] at hy
    refine ⟨fn, _, assign, body, hy, roundIn_of_wpIn hfn (hassign _ M pre x V _ (by omega) hM2 hp hi ?_)⟩
    clear hy
    intro a' V1 k1 i1 ax1
    have l1 := keeps_same k1 (fun h => by rcases h with h | h; (have := hX _ h; omega); omega) hl
    have d1 := keeps_same k1 (fun h => by rcases h with h | h; (have := hX _ h; omega); omega) hk
    have z1 : w.heap.size + 1 < V1.heap.size := (Array.getElem?_eq_some_iff.1 l1).1
    refine ⟨_, run_beginRound l1 (by rw [hrc]), ?_⟩
    obtain ⟨V2, hV2⟩ : ∃ V2, V1.putObj (w.heap.size + 1) (.loop { rc .ready none with state := .busy }) = V2 := ⟨_, rfl⟩
    have l2 : V2.heap[w.heap.size + 1]? = some (.loop { rc .ready none with state := .busy }) := by rw [← hV2]; exact World.putObj_heap_same z1
    have d2 : V2.heap[w.heap.size]? = some (.deferred (some [])) := by rw [← hV2]; exact (World.putObj_heap_other (by omega)).trans d1
    have k2 : Keeps (fun k => X k ∨ k = w.heap.size + 1 ∨ M ≤ k) V1 V2 := by rw [← hV2]; exact (keeps_putObj X _ _ _).mono (fun k _ h => by rcases h with h | h; exact .inl h; exact .inr (.inl h))
    have i2 : I M pre V2 := by rw [← hV2]; exact (hI M).putObj _ i1 (by omega) l1 rfl
    have ax2 : Ax x a' V2 := by rw [← hV2]; exact (hAx x a').putObj (s := ()) _ ax1 (by omega) l1 rfl
    rw [hV2]
    have z2 : w.heap.size + 1 < V2.heap.size := (Array.getElem?_eq_some_iff.1 l2).1
    refine wpIn_mono (hbody _ M pre x a' V2 (by omega) (by omega) (by omega) (by have := k1.size; have := k2.size; omega) hp i2 ax2) ?_
    have wide : ∀ {A B : World}, Keeps (fun k => X k ∨ M ≤ k) A B → Keeps (fun k => X k ∨ k = w.heap.size + 1 ∨ M ≤ k) A B := fun h => h.mono (fun k _ h => by rcases h with h | h; exact .inl h; exact .inr (.inr h))
    have k12 : Keeps (fun k => X k ∨ k = w.heap.size + 1 ∨ M ≤ k) V V2 := (wide k1).trans k2
    -- the round's end
    have fin : ∀ (jump : Option Code) (V3 : World), Keeps (fun k => X k ∨ M ≤ k) V2 V3 →
        (Instr.endRound (w.heap.size + 1) jump).run P V3 = .ok (.bool jump.isNone) (V3.putObj (w.heap.size + 1) (.loop (rc (if jump.isNone then .ready else .done) jump))) ∧
        V3.heap[w.heap.size + 1]? = some (.loop { rc .ready none with state := .busy }) ∧
        (V3.putObj (w.heap.size + 1) (.loop (rc (if jump.isNone then .ready else .done) jump))).heap[w.heap.size + 1]? = some (.loop (rc (if jump.isNone then .ready else .done) jump)) ∧
        (V3.putObj (w.heap.size + 1) (.loop (rc (if jump.isNone then .ready else .done) jump))).heap[w.heap.size]? = some (.deferred (some [])) ∧
        Keeps (fun k => X k ∨ k = w.heap.size + 1 ∨ M ≤ k) V (V3.putObj (w.heap.size + 1) (.loop (rc (if jump.isNone then .ready else .done) jump))) := by
      intro jump V3 k3
      have l3 := keeps_same k3 (fun h => by rcases h with h | h; (have := hX _ h; omega); omega) l2
      have := run_endRound (P := P) jump l3
      refine ⟨?_, l3, World.putObj_heap_same (Array.getElem?_eq_some_iff.1 l3).1, (World.putObj_heap_other (by omega)).trans (keeps_same k3 (fun h => by rcases h with h | h; (have := hX _ h; omega); omega) d2), (k12.trans (wide k3)).trans ((keeps_putObj X _ _ _).mono (fun k _ h => by rcases h with h | h; exact .inl h; exact .inr (.inl h)))⟩
      rw [hrc] at this ⊢
      exact this
    rintro e a3 V3 hp3
    cases e with
    | normal =>
      obtain ⟨k3, i3⟩ := hp3
      obtain ⟨hr, l3, l4, d4, k4⟩ := fin none V3 k3
      exact ⟨_, _, hr, .inl ⟨rfl, ⟨(hI M).putObj _ i3 (by omega) l3 rfl, l4, d4⟩, k4⟩⟩
    | ret =>
      obtain ⟨k3, i3⟩ := hp3
      obtain ⟨hr, l3, l4, d4, k4⟩ := fin (some .ret) V3 k3
      exact ⟨_, _, hr, .inr ⟨rfl, ⟨.ret, (hIx M _).putObj _ i3 (by omega) l3 rfl, l4, d4⟩, k4⟩⟩
    | exit id =>
      obtain ⟨k3, i3⟩ := hp3
      obtain ⟨hr, l3, l4, d4, k4⟩ := fin (some (.exit id)) V3 k3
      exact ⟨_, _, hr, .inr ⟨rfl, ⟨.exit id, (hIx M _).putObj _ i3 (by omega) l3 rfl, l4, d4⟩, k4⟩⟩
    | goto t =>
      obtain ⟨k3, i3⟩ := hp3
      obtain ⟨hr, l3, l4, d4, k4⟩ := fin (some (.goto t)) V3 k3
      exact ⟨_, _, hr, .inr ⟨rfl, ⟨.goto t, (hIx M _).putObj _ i3 (by omega) l3 rfl, l4, d4⟩, k4⟩⟩
    | panic ch => exact hp3.elim
    | outgrown => exact hp3.elim
  · rintro e V ⟨⟨v, rfl⟩, M, hM, (⟨hi, hl, hk⟩ | ⟨pre, hp, c, hi, hl, hk⟩)⟩
    · exact ⟨none, _, by have := run_endLoop (P := P) hl (by rw [hrc]; simp); rw [hrc] at this; exact this, hdone M _ (by omega) ((hI M).putObj _ hi (by omega) hl rfl) ((World.putObj_heap_other (by omega)).trans hk)⟩
    · exact ⟨some c, _, by have := run_endLoop (P := P) hl (by rw [hrc]; simp); rw [hrc] at this; exact this, hstop M c pre _ (by omega) hp ((hIx M c).putObj _ hi (by omega) hl rfl) ((World.putObj_heap_other (by omega)).trans hk)⟩

end Go.Proofs.YtbpnllhhmookcaaGreatDoor
