/- firnkeep.Apart: what its rounds keep: the store; two arrays of lists. -/
import Derived.Test.YtbpnllhhmookcaaGreatDoorKl01
namespace Go.Proofs.YtbpnllhhmookcaaGreatDoor
open Go.RowKit Go.Shelf

/-- What lies in memory at each round of Apart's last loops: the store; who is up; who is down. -/
structure AS (w : World) (sb l bu bd : Nat) (p : Int) (L : Led) (f : Nat → Value) (F : Nat → List Int) (g : Nat → Value) (G : Nat → List Int) (wr : World) : Prop where
  st : KAt wr sb l p L
  up : Vec wr bu 42 f
  down : Vec wr bd 42 g
  iu : ∀ j, j < 13 → IntsIn wr (f j) (F j)
  idn : ∀ j, j < 13 → IntsIn wr (g j) (G j)
  f0 : f 0 = .slice none 0 0
  g0 : g 0 = .slice none 0 0
  bel : Below w.heap.size w wr
  far : w.heap.size ≤ sb ∧ w.heap.size ≤ l ∧ w.heap.size ≤ bu ∧ w.heap.size ≤ bd
  ne : bu ≠ sb ∧ bu ≠ l ∧ bd ≠ sb ∧ bd ≠ l ∧ bu ≠ bd

variable {w wr w' : World} {sb l bu bd : Nat} {p : Int} {L L' : Led} {f g : Nat → Value} {F G : Nat → List Int}

theorem AS.noUp (h : AS w sb l bu bd p L f F g G wr) : NoNodeS wr bu := by
  refine h.up.noNode (fun a l c e => ?_) (fun j hj k e => ?_)
  · rw [h.f0] at e; cases e
  · obtain ⟨s, n, c, hf⟩ := ints_form (h.iu j hj)
    rw [hf] at e; cases e
theorem AS.noDown (h : AS w sb l bu bd p L f F g G wr) : NoNodeS wr bd := by
  refine h.down.noNode (fun a l c e => ?_) (fun j hj k e => ?_)
  · rw [h.g0] at e; cases e
  · obtain ⟨s, n, c, hf⟩ := ints_form (h.idn j hj)
    rw [hf] at e; cases e
theorem AS.below (h : AS w sb l bu bd p L f F g G wr) (hb : Below wr.heap.size wr w') : AS w sb l bu bd p L f F g G w' :=
  ⟨h.st.below hb, h.up.below hb, h.down.below hb, fun j hj => (h.iu j hj).below' hb, fun j hj => (h.idn j hj).below' hb, h.f0, h.g0, h.bel.trans (hb.mono h.bel.size), h.far, h.ne⟩
theorem AS.drewN (h : AS w sb l bu bd p L f F g G wr) (n : Nat) : AS w sb l bu bd p L f F g G (wr.drewN n) := h.below (below_drewN (Below.refl _ wr) n)
theorem AS.done (h : AS w sb l bu bd p L f F g G wr) (hs : KAt w' sb l p L') (hk : Keeps (fun k => k = l) wr w') : AS w sb l bu bd p L' f F g G w' :=
  ⟨hs, h.up.keeps hk h.ne.2.1, h.down.keeps hk h.ne.2.2.2.1, fun j hj => (h.iu j hj).keepsL h.st.led hk, fun j hj => (h.idn j hj).keepsL h.st.led hk, h.f0, h.g0, below_keeps h.bel hk (fun _ e => e ▸ h.far.2.1), h.far, h.ne⟩
theorem AS.up0 (h : AS w sb l bu bd p L f F g G wr) (k : Int) : wr.cell? ⟨bu, 0, none⟩ ≠ some (.int .i64 k) := by
  rw [h.up.cell 0 (by omega), h.f0]; exact fun e => by cases e
theorem AS.down0 (h : AS w sb l bu bd p L f F g G wr) (k : Int) : wr.cell? ⟨bd, 0, none⟩ ≠ some (.int .i64 k) := by
  rw [h.down.cell 0 (by omega), h.g0]; exact fun e => by cases e
theorem AS.setUp (h : AS w sb l bu bd p L f F g G wr) {j : Nat} (hj : 1 ≤ j ∧ j < 13) {v : Value} {zs : List Int} (hv : IntsIn wr v zs) : AS w sb l bu bd p L (updV f j v) (fun i => if i = j then zs else F i) g G (wr.setCell ⟨bu, j, none⟩ v) := by
  have hks : Keeps (fun k => k = bu) wr (wr.setCell ⟨bu, j, none⟩ v) := (Keeps.refl (fun k => k = bu) wr).setCell (p := ⟨bu, j, none⟩) (.inl rfl) _
  refine ⟨h.st.setNo h.noUp h.ne.1 h.ne.2.1 j v, h.up.set hj.2 v, h.down.keeps hks (fun e => h.ne.2.2.2.2 e.symm), fun i hi => ?_, fun i hi => (h.idn i hi).setOther h.up0 j v, ?_, h.g0, below_keeps h.bel hks (fun _ e => e ▸ h.far.2.2.1), h.far, h.ne⟩
  · unfold updV
    by_cases e : i = j
    · rw [if_pos e, if_pos e]; exact hv.setOther h.up0 j v
    · rw [if_neg e, if_neg e]; exact (h.iu i hi).setOther h.up0 j v
  · unfold updV; rw [if_neg (by omega)]; exact h.f0
theorem AS.setDown (h : AS w sb l bu bd p L f F g G wr) {j : Nat} (hj : 1 ≤ j ∧ j < 13) {v : Value} {zs : List Int} (hv : IntsIn wr v zs) : AS w sb l bu bd p L f F (updV g j v) (fun i => if i = j then zs else G i) (wr.setCell ⟨bd, j, none⟩ v) := by
  have hks : Keeps (fun k => k = bd) wr (wr.setCell ⟨bd, j, none⟩ v) := (Keeps.refl (fun k => k = bd) wr).setCell (p := ⟨bd, j, none⟩) (.inl rfl) _
  refine ⟨h.st.setNo h.noDown h.ne.2.2.1 h.ne.2.2.2.1 j v, h.up.keeps hks h.ne.2.2.2.2, h.down.set hj.2 v, fun i hi => (h.iu i hi).setOther h.down0 j v, fun i hi => ?_, h.f0, ?_, below_keeps h.bel hks (fun _ e => e ▸ h.far.2.2.2), h.far, h.ne⟩
  · unfold updV
    by_cases e : i = j
    · rw [if_pos e, if_pos e]; exact hv.setOther h.down0 j v
    · rw [if_neg e, if_neg e]; exact (h.idn i hi).setOther h.down0 j v
  · unfold updV; rw [if_neg (by omega)]; exact h.g0

/-- What lies in memory at each round of Apart's first loops: the store alone. -/
structure AP (w : World) (sb l : Nat) (p : Int) (L : Led) (wr : World) : Prop where
  st : KAt wr sb l p L
  bel : Below w.heap.size w wr
  far : w.heap.size ≤ sb ∧ w.heap.size ≤ l
theorem AP.below (h : AP w sb l p L wr) (hb : Below wr.heap.size wr w') : AP w sb l p L w' := ⟨h.st.below hb, h.bel.trans (hb.mono h.bel.size), h.far⟩
theorem AP.drewN (h : AP w sb l p L wr) (n : Nat) : AP w sb l p L (wr.drewN n) := h.below (below_drewN (Below.refl _ wr) n)
theorem AP.done (h : AP w sb l p L wr) (hs : KAt w' sb l p L') (hk : Keeps (fun k => k = l) wr w') : AP w sb l p L' w' := ⟨hs, below_keeps h.bel hk (fun _ e => e ▸ h.far.2), h.far⟩
theorem PS.ap {k : Nat} {p0 : Int} {L0 : Led} (h : PS w sb l k p0 L0 p L wr) : AP w sb l p L wr := ⟨h.st, h.bel, h.far⟩

theorem as_start {w3 : World} (h : AP w sb l p L w3) :
    AS w sb l w3.heap.size (w3.heap.size + 1) p L (fun _ => .slice none 0 0) (fun _ => []) (fun _ => .slice none 0 0) (fun _ => [])
      ((w3.alloc (.cells #[.slice none 0 0, .slice none 0 0, .slice none 0 0, .slice none 0 0, .slice none 0 0, .slice none 0 0, .slice none 0 0, .slice none 0 0, .slice none 0 0, .slice none 0 0, .slice none 0 0, .slice none 0 0, .slice none 0 0] 42)).alloc (.cells #[.slice none 0 0, .slice none 0 0, .slice none 0 0, .slice none 0 0, .slice none 0 0, .slice none 0 0, .slice none 0 0, .slice none 0 0, .slice none 0 0, .slice none 0 0, .slice none 0 0, .slice none 0 0, .slice none 0 0] 42)) := by
  generalize hbl : Obj.cells #[Value.slice none 0 0, .slice none 0 0, .slice none 0 0, .slice none 0 0, .slice none 0 0, .slice none 0 0, .slice none 0 0, .slice none 0 0, .slice none 0 0, .slice none 0 0, .slice none 0 0, .slice none 0 0, .slice none 0 0] 42 = B
  have hb2 : Below w3.heap.size w3 ((w3.alloc B).alloc B) := ((Below.refl _ w3).alloc (Nat.le_refl _) _).alloc (by simp) _
  have hlt := h.st.lt
  refine ⟨h.st.below hb2, ?_, ?_, fun _ _ => .inr ⟨rfl, rfl⟩, fun _ _ => .inr ⟨rfl, rfl⟩, rfl, rfl, h.bel.trans (hb2.mono h.bel.size), ⟨h.far.1, h.far.2, h.bel.size, by have := h.bel.size; omega⟩, ⟨by omega, by omega, by omega, by omega, by omega⟩⟩
  · unfold Vec
    rw [Below.heap_alloc _ _ _ (by simp)]
    show (w3.heap.push _)[w3.heap.size]? = _
    rw [Array.getElem?_push_size, ← hbl]
  · unfold Vec
    show ((w3.heap.push _).push _)[w3.heap.size + 1]? = _
    rw [show w3.heap.size + 1 = (w3.heap.push B).size by simp]
    rw [Array.getElem?_push_size, ← hbl]

end Go.Proofs.YtbpnllhhmookcaaGreatDoor

/- firnkeep.Apart: plain facts of its loops. -/
namespace Go.Proofs.YtbpnllhhmookcaaGreatDoor
open Go.RowKit Go.Shelf

theorem ints_cells {w : World} {g n cap : Nat} {zs : List Int} (h : IntsIn w (.slice (some ⟨g, 0, none⟩) n cap) zs) : n = zs.length ∧ ∀ i (hi : i < zs.length), w.cell? ⟨g, i, none⟩ = some (.int .i64 zs[i]) := by
  rcases h with ⟨b, c, e, _, hc⟩ | ⟨e, _⟩
  · cases e; exact ⟨rfl, hc⟩
  · cases e
theorem cont_cells {w : World} {g n cap : Nat} {ts : List TN} (h : IntsIn w (.slice (some ⟨g, 0, none⟩) n cap) (Led.contQ ts)) {q : Nat} (hq : q < ts.length) :
    w.cell? ⟨g, 3 * q, none⟩ = some (.int .i64 (ts[q].1 : Int)) ∧ w.cell? ⟨g, 3 * q + 1, none⟩ = some (.int .i64 (ts[q].2.x : Int)) ∧ w.cell? ⟨g, 3 * q + 2, none⟩ = some (.int .i64 (ts[q].2.y : Int)) := by
  obtain ⟨_, hc⟩ := ints_cells h
  have hl := Led.contQ_len ts
  obtain ⟨a1, a2, a3⟩ := Led.contQ_at ts q hq
  have k1 := hc (3 * q) (by omega)
  have k2 := hc (3 * q + 1) (by omega)
  have k3 := hc (3 * q + 2) (by omega)
  rw [List.getElem?_eq_getElem (by omega)] at a1 a2 a3
  rw [Option.some.inj a1] at k1
  rw [Option.some.inj a2] at k2
  rw [Option.some.inj a3] at k3
  exact ⟨k1, k2, k3⟩
/-- How many stand in the boxes below b. -/
def inC (L : Led) : Nat → Nat
  | 0 => 0
  | b + 1 => inC L b + if 1 ≤ b then (L.inB b).length else 0
theorem inC_one (L : Led) : inC L 1 = 0 := rfl
theorem inC_succ (L : Led) {b : Nat} (h : 1 ≤ b) : inC L (b + 1) = inC L b + (L.inB b).length := by
  show inC L b + (if 1 ≤ b then _ else _) = _
  rw [if_pos h]
theorem inC_end (L : Led) : inC L 3 = (L.inB 1).length + (L.inB 2).length := by
  simp [inC]
theorem inB_few {L : Led} (b : Nat) (h : L.kvs.length ≤ 32) : (L.inB b).length ≤ 32 := by
  have h1 : (L.inB b).length ≤ L.ts.length := by unfold Led.inB; exact List.length_filter_le _ _
  have h2 : L.kvs.length = L.bs.length + L.ts.length + L.ps.length := by simp [Led.kvs]; omega
  omega
theorem inC_few {L : Led} (h : L.kvs.length ≤ 32) : ∀ b, inC L b ≤ 32 * b
  | 0 => Nat.le_refl _
  | b + 1 => by
    have := inC_few h b
    have h2 := inB_few b h
    show inC L b + (if 1 ≤ b then _ else _) ≤ _
    split <;> omega
/-- How many of the tubes below c are Stored. -/
def stC (L : Led) (c : Nat) : Nat := ((List.range c).filter fun n => L.stN n).length
theorem stC_succ (L : Led) (c : Nat) : stC L (c + 1) = stC L c + if L.stN c then 1 else 0 := by
  unfold stC
  rw [List.range_succ, List.filter_append, List.length_append]
  congr 1
  cases h : L.stN c <;> simp [h]
theorem stC_le (L : Led) (c : Nat) : stC L c ≤ c := by
  have := List.length_filter_le (fun n => L.stN n) (List.range c)
  rw [List.length_range] at this
  exact this
theorem stC_one {L : Led} (hI : L.Inv) : stC L 1 = 0 := by
  have : stC L 1 = stC L 0 + if L.stN 0 then 1 else 0 := stC_succ L 0
  rw [this]
  have h0 : L.stN 0 = false := by unfold Led.stN; rw [tube_zero hI]
  rw [h0]; rfl
theorem stN_some {L : Led} {n : Nat} {q : PT} (h : L.tube n = some q) : L.stN n = decide (q.status = 1) := by unfold Led.stN; rw [h]
theorem stN_none {L : Led} {n : Nat} (h : L.tube n = .none) : L.stN n = false := by unfold Led.stN; rw [h]
theorem up_down_eq {L : Led} (hI : L.Inv) {k id : Nat} (hk : k < 1000) (hid : id < 1000) : (L.upN id).contains k = (L.downN k).contains id := by
  rw [Bool.eq_iff_iff, List.contains_iff_mem, List.contains_iff_mem]
  exact Led.up_iff_down hI hk hid
theorem up_less {L : Led} (hI : L.Inv) {k id : Nat} (h : (L.upN id).contains k = true) : k < id := Led.up_lt hI (List.contains_iff_mem.1 h)
theorem nextF (F : Nat → List Int) {c : Nat} (hc : 1 ≤ c) : (fun i => if i = c then F c else if 1 ≤ i ∧ i < c then F i else []) = fun j => if 1 ≤ j ∧ j < c + 1 then F j else [] := by
  funext j
  by_cases e : j = c
  · subst e; rw [if_pos rfl, if_pos (by omega)]
  · rw [if_neg e]
    by_cases e2 : 1 ≤ j ∧ j < c
    · rw [if_pos e2, if_pos (by omega)]
    · rw [if_neg e2, if_neg (by omega)]

end Go.Proofs.YtbpnllhhmookcaaGreatDoor
