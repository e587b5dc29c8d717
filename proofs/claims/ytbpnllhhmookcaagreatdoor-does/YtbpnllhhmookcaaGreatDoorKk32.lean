/- Books: Do. -/
import Derived.Test.YtbpnllhhmookcaaGreatDoorKk29
import Derived.Test.YtbpnllhhmookcaaGreatDoorKk31
import Derived.Deep.RegionHeld3
import Derived.BigQuiet
namespace Go.Proofs.YtbpnllhhmookcaaGreatDoor
open Go.RowKit Go.Shelf

/-- What a command comes to: the ledger, the error, the numbers. -/
def Led.stepL (L : Led) (lim : Nat) (m : Cm) : Led := if L.err m = 0 ∧ (L.act m).kvs.length ≤ lim then L.act m else L
def Led.stepE (L : Led) (lim : Nat) (m : Cm) : Int := if L.err m = 0 then (if (L.act m).kvs.length ≤ lim then 0 else 3) else L.err m
def Led.stepN (L : Led) (lim : Nat) (m : Cm) : List Int := if L.err m = 0 ∧ (L.act m).kvs.length ≤ lim then L.tell m else []

/-- The block of a ledger. -/
def LedBox (w : World) (l : Nat) (r : Option Addr) (n lim : Int) : Prop := w.heap[l]? = some (.cells #[.pointer r, .int .i64 n, .int .i64 lim] 108 (0, 0))
theorem LedBox.c0 {w : World} {l : Nat} {r : Option Addr} {n lim : Int} (h : LedBox w l r n lim) : w.cell? ⟨l, 0, none⟩ = some (.pointer r) := by simp only [World.cell?, show w.heap[l]? = _ from h]; rfl
theorem LedBox.c1 {w : World} {l : Nat} {r : Option Addr} {n lim : Int} (h : LedBox w l r n lim) : w.cell? ⟨l, 1, none⟩ = some (.int .i64 n) := by simp only [World.cell?, show w.heap[l]? = _ from h]; rfl
theorem LedBox.c2 {w : World} {l : Nat} {r : Option Addr} {n lim : Int} (h : LedBox w l r n lim) : w.cell? ⟨l, 2, none⟩ = some (.int .i64 lim) := by simp only [World.cell?, show w.heap[l]? = _ from h]; rfl
theorem LedBox.fz {w : World} {l : Nat} {r : Option Addr} {n lim : Int} (h : LedBox w l r n lim) (i : Nat) : w.frozen? ⟨l, i, none⟩ = false := by simp [World.frozen?, show w.heap[l]? = _ from h]
theorem LedBox.lt {w : World} {l : Nat} {r : Option Addr} {n lim : Int} (h : LedBox w l r n lim) : l < w.heap.size := (Array.getElem?_eq_some_iff.1 h).1
theorem LedBox.noNode {w : World} {l : Nat} {r : Option Addr} {n lim : Int} (h : LedBox w l r n lim) : NoNode w l := by
  refine ⟨fun s k c e => ?_, fun o k e => ?_⟩
  · rw [h.c0] at e; cases e
  · match o, e with
    | 0, e => rw [h.c0] at e; cases e
    | 1, e => rw [h.c1] at e; cases e
    | 2, e => rw [h.c2] at e; cases e
    | o + 3, e => simp only [World.cell?, show w.heap[l]? = _ from h] at e; simp at e

theorem ledBox_set0 {w : World} {l : Nat} {r : Option Addr} {n lim : Int} (h : LedBox w l r n lim) (r' : Option Addr) : LedBox (w.setCell ⟨l, 0, none⟩ (.pointer r')) l r' n lim := heap_setCell_same w l 0 _ _ _ h
theorem ledBox_set1 {w : World} {l : Nat} {r : Option Addr} {n lim : Int} (h : LedBox w l r n lim) (n' : Int) : LedBox (w.setCell ⟨l, 1, none⟩ (.int .i64 n')) l r n' lim := heap_setCell_same w l 1 _ _ _ h
theorem IntsIn.below' {w w' : World} {v : Value} {zs : List Int} (h : IntsIn w v zs) (hb : Below w.heap.size w w') : IntsIn w' v zs := by
  rcases h with ⟨g, cap, rfl, hg, hc⟩ | h
  · exact .inl ⟨g, cap, rfl, Nat.lt_of_lt_of_le hg hb.size, fun i hi => (hb.cell (p := ⟨g, i, none⟩) hg).trans (hc i hi)⟩
  · exact .inr h
theorem IntsIn.store {w : World} {v : Value} {zs : List Int} (h : IntsIn w v zs) {l : Nat} {r : Option Addr} {n lim : Int} (hb : LedBox w l r n lim) (i : Nat) (x : Value) : IntsIn (w.setCell ⟨l, i, none⟩ x) v zs := by
  rcases h with ⟨g, cap, rfl, hg, hc⟩ | h
  · refine .inl ⟨g, cap, rfl, by simpa using hg, fun j hj => ?_⟩
    have hne : g ≠ l := by
      rintro rfl
      have h0 := hc 0 (by omega)
      rw [hb.c0] at h0; cases h0
    rw [World.cell?_of_block (w := w) (Below.heap_setCell w ⟨l, i, none⟩ x g hne)]
    exact hc j hj
  · exact .inr h
theorem TreeIs.setLed {n₀ : Nat} {w : World} {l : Nat} {r r0 : Option Addr} {n lim : Int} {k : List KV} (h : TreeIs n₀ w r k) (hb : LedBox w l r0 n lim) (i : Nat) (v : Value) : TreeIs n₀ (w.setCell ⟨l, i, none⟩ v) r k :=
  h.keptX (X := fun g => g = l) (by simp) (fun g o u hg hc => by rw [World.cell?_of_block (w := w) (Below.heap_setCell w ⟨l, i, none⟩ v g hg)]; exact hc) (fun g hg => by subst hg; exact hb.noNode)

/-- A ledger lies in memory. -/
structure LedgerAt (w : World) (l : Nat) (L : Led) (lim : Nat) : Prop where
  box : ∃ r n₀, LedBox w l r L.kvs.length lim ∧ TreeIs n₀ w r L.kvs
  ok : L.Ok
  few : L.kvs.length ≤ lim
  lim : lim ≤ 32

theorem LedgerAt.lt {w : World} {l : Nat} {L : Led} {lim : Nat} (h : LedgerAt w l L lim) : l < w.heap.size := by obtain ⟨⟨r, n₀, h1, _⟩, _⟩ := h; exact h1.lt

theorem len_any (r : Option Addr) (n : Int) (w : World) :
    Calls Tryz.prog 87 #[.agg #[.pointer r, .int .i64 n]] w fun e w' => e = .returned (.int .i64 n) ∧ Below w.heap.size w w' := by
  go_enter Tryz.func87, Tryz.ntmps87
  go_wp2
  go_ret
  exact ⟨rfl, (Below.refl _ _).alloc (Nat.le_refl _) _⟩

/-- How Do of books ends. -/
def DoEnds (l : Nat) (L : Led) (lim : Nat) (m : Cm) (w : World) (e : Ending) (w' : World) : Prop :=
  ∃ v, e = .returned (.tuple #[v, .int .i64 (L.stepE lim m)]) ∧ IntsIn w' v (L.stepN lim m) ∧ LedgerAt w' l (L.stepL lim m) lim ∧ Keeps (fun k => k = l) w w'

theorem LedgerAt.below {w w' : World} {l : Nat} {L : Led} {lim : Nat} (h : LedgerAt w l L lim) (hb : Below w.heap.size w w') : LedgerAt w' l L lim := by
  obtain ⟨⟨r, n₀, h1, h2⟩, h3, h4, h5⟩ := h
  exact ⟨⟨r, n₀, (hb.block l h1.lt).trans h1, h2.below (hb.mono h2.2.1)⟩, h3, h4, h5⟩

theorem act_len (L : Led) (m : Cm) : (L.act m).kvs.length ≤ 2 * L.kvs.length + 5 := by
  have hT : L.ts.length ≤ L.kvs.length := by rw [Led.len]; omega
  have hp : ∀ (L : Led), (L.pourL m).kvs.length ≤ L.kvs.length + 3 := fun L => by
    have h1 := Led.putT_len L m.t ((L.tubeD m.t).less m.v)
    have h2 := Led.putT_len (L.putT m.t ((L.tubeD m.t).less m.v)) m.o (((L.putT m.t ((L.tubeD m.t).less m.v)).tubeD m.o).more m.v)
    have h3 := insP_len ((L.putT m.t ((L.tubeD m.t).less m.v)).putT m.o (((L.putT m.t ((L.tubeD m.t).less m.v)).tubeD m.o).more m.v)).ps m.t m.o (((L.putT m.t ((L.tubeD m.t).less m.v)).putT m.o (((L.putT m.t ((L.tubeD m.t).less m.v)).tubeD m.o).more m.v)).pouredN m.t m.o + m.v)
    have e : (L.pourL m).kvs.length = ((L.putT m.t ((L.tubeD m.t).less m.v)).putT m.o (((L.putT m.t ((L.tubeD m.t).less m.v)).tubeD m.o).more m.v)).bs.length + ((L.putT m.t ((L.tubeD m.t).less m.v)).putT m.o (((L.putT m.t ((L.tubeD m.t).less m.v)).tubeD m.o).more m.v)).ts.length + (insP ((L.putT m.t ((L.tubeD m.t).less m.v)).putT m.o (((L.putT m.t ((L.tubeD m.t).less m.v)).tubeD m.o).more m.v)).ps m.t m.o (((L.putT m.t ((L.tubeD m.t).less m.v)).putT m.o (((L.putT m.t ((L.tubeD m.t).less m.v)).tubeD m.o).more m.v)).pouredN m.t m.o + m.v)).length := by rw [Led.len]; rfl
    rw [e]
    rw [Led.len ((L.putT m.t ((L.tubeD m.t).less m.v)).putT m.o _)] at h2
    omega
  have hi : (L.ts.filter (inBox m.b)).length ≤ L.ts.length := List.length_filter_le _ _
  have hh : (L.hits m.d).length ≤ L.ts.length := List.length_filter_le _ _
  by_cases h1 : m.k = 1
  · rw [Led.act, if_pos h1]
    have := insB_len L.bs m.b m.n; rw [Led.len, Led.len L]; simp only; omega
  by_cases h2 : m.k = 2
  · rw [Led.act, if_neg h1, if_pos h2]
    have := Led.putT_len L m.t ⟨m.x, m.y, m.b, m.d, 1, 0, m.v, m.v, 0, 0⟩; omega
  by_cases h3 : m.k = 3
  · rw [Led.act, if_neg h1, if_neg h2, if_pos h3]
    have := Led.putT_len L m.t ((L.tubeD m.t).stored m.b m.x m.y); omega
  by_cases h4 : m.k = 4
  · rw [Led.act, if_neg h1, if_neg h2, if_neg h3, if_pos h4]
    have h1 := Led.putT_len L m.o ⟨m.x, m.y, m.b, (L.tubeD m.t).donor, 1, 0, 0, 0, 0, 0⟩
    have h2 := hp (L.putT m.o ⟨m.x, m.y, m.b, (L.tubeD m.t).donor, 1, 0, 0, 0, 0, 0⟩); omega
  by_cases h5 : m.k = 5
  · rw [Led.act, if_neg h1, if_neg h2, if_neg h3, if_neg h4, if_pos h5]
    have := hp L; omega
  by_cases h6 : m.k = 6
  · rw [Led.act, if_neg h1, if_neg h2, if_neg h3, if_neg h4, if_neg h5, if_pos h6]
    have := Led.putT_len L m.t ((L.tubeD m.t).usedBy m.v); omega
  by_cases h7 : m.k = 7
  · rw [Led.act, if_neg h1, if_neg h2, if_neg h3, if_neg h4, if_neg h5, if_neg h6, if_pos h7]
    have := Led.putT_len L m.t ((L.tubeD m.t).gone 2); omega
  by_cases h8 : m.k = 8
  · rw [Led.act, if_neg h1, if_neg h2, if_neg h3, if_neg h4, if_neg h5, if_neg h6, if_neg h7, if_pos h8]
    have := Led.putT_len L m.t ((L.tubeD m.t).backAt m.b m.x m.y); omega
  by_cases h9 : m.k = 9
  · rw [Led.act, if_neg h1, if_neg h2, if_neg h3, if_neg h4, if_neg h5, if_neg h6, if_neg h7, if_neg h8, if_pos h9]
    have := Led.chg_len PT.lostAll (L.hits m.d) L; omega
  by_cases h10 : m.k = 10
  · rw [Led.act, if_neg h1, if_neg h2, if_neg h3, if_neg h4, if_neg h5, if_neg h6, if_neg h7, if_neg h8, if_neg h9, if_pos h10]
    have := Led.chg_len (fun q : PT => q.turnedBy (L.sideN m.b) m.n) (L.ts.filter (inBox m.b)) L; omega
  by_cases h11 : m.k = 11
  · rw [Led.act, if_neg h1, if_neg h2, if_neg h3, if_neg h4, if_neg h5, if_neg h6, if_neg h7, if_neg h8, if_neg h9, if_neg h10, if_pos h11]
    have := Led.chg_len (fun q : PT => q.flippedIn (L.sideN m.b)) (L.ts.filter (inBox m.b)) L; omega
  rw [Led.act, if_neg h1, if_neg h2, if_neg h3, if_neg h4, if_neg h5, if_neg h6, if_neg h7, if_neg h8, if_neg h9, if_neg h10, if_neg h11]
  omega

set_option maxRecDepth 8000 in
set_option maxHeartbeats 8000000 in
theorem booksDo_any (l : Nat) (L : Led) (lim : Nat) (m : Cm) (hm : m.Ok) (w : World) (hA : LedgerAt w l L lim) (hcan : L.err m = 0 → L.Can m) :
    Calls Tryz.prog 57 #[.pointer (some ⟨l, 0, none⟩), m.val] w (DoEnds l L lim m w) := by
  have hA0 := hA
  obtain ⟨⟨r, n₀, hB, hI⟩, hok, hfew, hlim⟩ := hA
  have hn0 := hI.2.1
  have hll := hB.lt
  have hC0 := Cm.has_new w 31 m
  have hb0 : Below w.heap.size w (w.alloc (.cells #[.int .i64 m.k, .int .i64 m.t, .int .i64 m.o, .int .i64 m.d, .int .i64 m.v, .int .i64 m.b, .int .i64 m.x, .int .i64 m.y, .int .i64 m.n] 31)) := (Below.refl _ w).alloc (Nat.le_refl _) _
  have hs0 : (w.alloc (.cells #[.int .i64 m.k, .int .i64 m.t, .int .i64 m.o, .int .i64 m.d, .int .i64 m.v, .int .i64 m.b, .int .i64 m.x, .int .i64 m.y, .int .i64 m.n] 31)).heap.size = w.heap.size + 1 := by simp
  have hb1 := hb0.alloc (by omega) (.cells #[.pointer r, .int .i64 L.kvs.length] 157)
  have hs1 : ((w.alloc (.cells #[.int .i64 m.k, .int .i64 m.t, .int .i64 m.o, .int .i64 m.d, .int .i64 m.v, .int .i64 m.b, .int .i64 m.x, .int .i64 m.y, .int .i64 m.n] 31)).alloc (.cells #[.pointer r, .int .i64 L.kvs.length] 157)).heap.size = w.heap.size + 1 + 1 := by simp
  have hX := World.alloc_heap_new (w.alloc (.cells #[.int .i64 m.k, .int .i64 m.t, .int .i64 m.o, .int .i64 m.d, .int .i64 m.v, .int .i64 m.b, .int .i64 m.x, .int .i64 m.y, .int .i64 m.n] 31)) (.cells #[.pointer r, .int .i64 L.kvs.length] 157)
  rw [hs0] at hX
  have hC1 := hC0.alloc (by omega) (.cells #[.pointer r, .int .i64 L.kvs.length] 157)
  have hT1 : TxL n₀ ((w.alloc (.cells #[.int .i64 m.k, .int .i64 m.t, .int .i64 m.o, .int .i64 m.d, .int .i64 m.v, .int .i64 m.b, .int .i64 m.x, .int .i64 m.y, .int .i64 m.n] 31)).alloc (.cells #[.pointer r, .int .i64 L.kvs.length] 157)) (w.heap.size + 1) L :=
    ⟨⟨⟨r, hX, hI.below (hb1.mono hn0)⟩, by omega⟩, hok, by omega⟩
  have c0 := hB.c0
  have c1 := hB.c1
  have HRe := hid (refused_any n₀ (w.heap.size + 1) m hm L _ hT1)
  have HT1 := hid hT1
  have HC1 := hid hC1
  have HB1 := hid hb1
  have Hs1 := hid hs1
  have HA := hid hA0
  have HBx := hid hB
  clear hX hT1 hC0 hb0 hs0 hC1 hb1 hs1 hA0 hB hI
  unfold Cm.val at *
  go_enter Tryz.func57, Tryz.ntmps57
  go_wp2_with fail
  refine HRe.out.mono ?_
  clear HRe c0 c1
  rintro e w2 ⟨rfl, hb2⟩
  have hB1 := HB1.out
  have hT1 := HT1.out
  have hC1 := HC1.out
  have hs1 := Hs1.out
  clear HB1 HT1 HC1 Hs1
  generalize (w.alloc (.cells #[.int .i64 m.k, .int .i64 m.t, .int .i64 m.o, .int .i64 m.d, .int .i64 m.v, .int .i64 m.b, .int .i64 m.x, .int .i64 m.y, .int .i64 m.n] 31)).alloc (.cells #[.pointer r, .int .i64 L.kvs.length] 157) = w1 at *
  have hB2 : Below w.heap.size w w2 := hB1.trans (hb2.mono (by omega))
  have hT2 := hT1.below hb2
  have hC2 := hC1.below hb2 (by omega)
  have hs2 := hb2.size
  by_cases he : L.err m = 0
  · have hen : (L.err m != 0) = false := by simp [he]
    obtain ⟨c0, c1, c2, c3, c4, c5, c6, c7, c8⟩ := all9.1 hC2.1
    simp only [Cm.ints] at c0 c1 c2 c3 c4 c5 c6 c7 c8
    have HPf := hid (perform_any hm hT2 (by omega) (by omega) (hcan he))
    unfold Cm.val at HPf
    have HE := hid he
    clear he hC1 hC2 hT1 hT2
    go_wp2_with fail
    refine HPf.out.mono ?_
    clear HPf c0 c1 c2 c3 c4 c5 c6 c7 c8
    rintro e w3 ⟨v, rfl, hi3, ⟨n₁, hT3⟩, hk3⟩
    obtain ⟨⟨⟨r3, hX3, hI3⟩, hf3⟩, hok3, hfw3⟩ := hT3
    have hk03 : Keeps (fun k => k = w.heap.size + 1) w w3 := (below_toKeeps hB2 _).trans hk3
    have hL3 : LedBox w3 l r L.kvs.length lim := keeps_same hk03 (by omega) HBx.out
    have hlen := act_len L m
    have d0 := hX3.c0
    have d1 := hX3.c1
    have d2 := hL3.c2
    have HLn := hid (len_any r3 (L.act m).kvs.length)
    have HX3 := hid hX3
    have HI3 := hid hI3
    have HL3 := hid hL3
    have HK3 := hid hk03
    have HIn := hid hi3
    have hsl3 := hk3.size
    clear hk3 hk03 hX3 hI3 hL3 hi3 hb2 hB1 hB2
    go_wp2_with fail
    obtain ⟨ln, hln⟩ : ∃ ln, ln = (L.act m).kvs.length := ⟨_, rfl⟩
    rw [← hln] at d1 HLn HX3
    have HLen := hid hln
    clear hln
    by_cases hlt : lim < ln
    · have hlt' : (lim : Int) < (ln : Int) := by omega
      go_region_held3 (fun u => u.cell? ⟨w.heap.size + 1, 0, none⟩ = some (.pointer r3) ∧ u.cell? ⟨w.heap.size + 1, 1, none⟩ = some (.int .i64 ln) ∧ u.cell? ⟨l, 2, none⟩ = some (.int .i64 lim)) (go_keep) (first
        | (go_at_call 87; refine (HLn.out _).mono ?_; rintro e w4 ⟨rfl, hb4⟩; have d0 := (hb4.cell (p := ⟨w.heap.size + 1, 0, none⟩) HX3.out.lt).trans d0; have d1 := (hb4.cell (p := ⟨w.heap.size + 1, 1, none⟩) HX3.out.lt).trans d1; have d2 := (hb4.cell (p := ⟨l, 2, none⟩) HL3.out.lt).trans d2; have HB4 := hid hb4; clear hb4))
      all_goals
        go_wp2
        go_ret2
        have hS : L.stepE lim m = 3 ∧ L.stepN lim m = [] ∧ L.stepL lim m = L := by
          have hgt : ¬ (L.act m).kvs.length ≤ lim := by have := HLen.out; omega
          simp [Led.stepE, Led.stepN, Led.stepL, HE.out, hgt]
        have hk4 := (HK3.out.drew).trans (below_toKeeps HB4.out (fun k => k = w.heap.size + 1))
        refine ⟨.slice none 0 0, ?_, ?_, ?_, hk4.mono (fun k hk h => by omega)⟩
        · rw [hS.1]; rfl
        · rw [hS.2.1]; exact .inr ⟨rfl, rfl⟩
        · rw [hS.2.2]
          exact HA.out.below (hk4.toBelow (fun k h => by omega) (Nat.le_refl _))
    · have hlt' : (ln : Int) ≤ (lim : Int) := by omega
      go_region_held3 (fun u => u.cell? ⟨w.heap.size + 1, 0, none⟩ = some (.pointer r3) ∧ u.cell? ⟨w.heap.size + 1, 1, none⟩ = some (.int .i64 ln) ∧ u.cell? ⟨l, 2, none⟩ = some (.int .i64 lim)) (go_keep) (first
        | (go_at_call 87; refine (HLn.out _).mono ?_; rintro e w4 ⟨rfl, hb4⟩; have d0 := (hb4.cell (p := ⟨w.heap.size + 1, 0, none⟩) HX3.out.lt).trans d0; have d1 := (hb4.cell (p := ⟨w.heap.size + 1, 1, none⟩) HX3.out.lt).trans d1; have d2 := (hb4.cell (p := ⟨l, 2, none⟩) HL3.out.lt).trans d2; have HB4 := hid hb4; clear hb4))
      all_goals
        have hL4 : LedBox w4 l r L.kvs.length lim := (HB4.out.block l HL3.out.lt).trans HL3.out
        have e0 := hL4.c0
        have e1 := hL4.c1
        have f0 := hL4.fz 0
        have f1 := hL4.fz 1
        have HL4 := hid hL4
        clear hL4
        go_wp2
        go_ret2
        have hS : L.stepE lim m = 0 ∧ L.stepN lim m = L.tell m ∧ L.stepL lim m = L.act m := by
          have hle : (L.act m).kvs.length ≤ lim := by have := HLen.out; omega
          simp [Led.stepE, Led.stepN, Led.stepL, HE.out, hle]
        have hk4 := (HK3.out.drew).trans (below_toKeeps HB4.out (fun k => k = w.heap.size + 1))
        have hb34 : Below w3.heap.size w3 w4 := (Below.refl _ w3).drew.trans HB4.out
        have hkl : Keeps (fun k => k = l) w w4 := hk4.mono (fun k hk h => by omega)
        have hL5 := ledBox_set0 HL4.out r3
        have hL6 := ledBox_set1 hL5 ln
        refine ⟨v, ?_, ?_, ⟨⟨r3, n₁, ?_, ?_⟩, by rw [hS.2.2]; exact hok3, by have := HLen.out; rw [hS.2.2]; omega, hlim⟩, ?_⟩
        · rw [hS.1]; rfl
        · rw [hS.2.1]
          exact ((HIn.out.below' hb34).store HL4.out _ _).store hL5 _ _
        · rw [hS.2.2, ← HLen.out]; exact hL6
        · rw [hS.2.2]
          have h4 : TreeIs n₁ w4 r3 (L.act m).kvs := HI3.out.below (hb34.mono HI3.out.2.1)
          exact (h4.setLed HL4.out _ _).setLed hL5 _ _
        · exact (hkl.setCell (p := ⟨l, 0, none⟩) (.inl rfl) _).setCell (p := ⟨l, 1, none⟩) (.inl rfl) _
  · have hen : (L.err m != 0) = true := by simp [he]
    have HS := hid (show L.stepE lim m = L.err m ∧ L.stepN lim m = [] ∧ L.stepL lim m = L by simp [Led.stepE, Led.stepN, Led.stepL, he])
    clear hcan
    go_wp2
    go_ret2
    refine ⟨.slice none 0 0, ?_, ?_, ?_, below_toKeeps hB2 _⟩
    · rw [HS.out.1]; rfl
    · rw [HS.out.2.1]; exact .inr ⟨rfl, rfl⟩
    · rw [HS.out.2.2]; exact HA.out.below hB2

end Go.Proofs.YtbpnllhhmookcaaGreatDoor

/- Open of an image that has nothing on it. -/
namespace Go.Proofs.YtbpnllhhmookcaaGreatDoor
open Go.RowKit Go.Shelf

def allZ (s : ByteArray) : Prop := ∀ i (h : i < s.size), s[i] = 0
theorem allZ_cut {s : ByteArray} (h : allZ s) (k : Nat) : allZ (s.extract 0 k) := by
  intro i hi
  rw [ByteArray.getElem_extract]
  exact h _ _

set_option maxHeartbeats 1000000 in
theorem trimRight_zero (s : ByteArray) (hz : allZ s) (hs : s.size ≤ 1000000) (w : World) :
    Calls Tryz.prog 60 #[.string s, .int .u8 0] w fun e w' => e = .returned (.string ByteArray.empty) ∧ w' = w := by
  have HZ := hid hz
  clear hz
  go_enter Tryz.func60, Tryz.ntmps60
  go_wp2_with fail
  go_loopg [0] s.size (fun gk v wr => ∃ s' : ByteArray, v = .string s' ∧ allZ s' ∧ s'.size = gk ∧ s'.size ≤ 1000000 ∧ wr = w)
  case atStart => exact ⟨s, rfl, HZ.out, rfl, hs, rfl⟩
  case round =>
    obtain ⟨s', rfl, hz', hg, hs', rfl⟩ := hrel
    have HG := hid hg
    clear hg
    by_cases h0 : 0 < s'.size
    · have hlt : (0 : Int) < (s'.size : Int) := by omega
      have hix : s'[s'.size - 1]'(by omega) = 0 := hz' _ _
      have e1 : (s'.size : Int) - 1 = ((s'.size - 1 : Nat) : Int) := by omega
      have HZ' := hid (allZ_cut hz' (s'.size - 1))
      clear hz'
      go_wp2
      go_roundg (gk - 1)
      case measure => have := HG.out; omega
      case rel => exact ⟨_, rfl, HZ'.out, by have := HG.out; simp; omega, by simp; omega, rfl⟩
    · have hs0 : s'.size = 0 := by omega
      obtain rfl : s' = ByteArray.empty := ByteArray.ext (Array.eq_empty_of_size_eq_zero hs0)
      go_wp2
      go_ret
      exact ⟨rfl, rfl⟩

theorem trimLeft_nil (w : World) :
    Calls Tryz.prog 59 #[.string ByteArray.empty, .int .u8 0] w fun e w' => e = .returned (.string ByteArray.empty) ∧ w' = w := by
  go_enter Tryz.func59, Tryz.ntmps59
  go_wp2_with fail
  go_loopw [0] (fun v wr => v = .string ByteArray.empty ∧ wr = w) (fun _ _ => 0)
  case atStart => exact ⟨rfl, rfl⟩
  case round =>
    obtain ⟨rfl, rfl⟩ := hrel
    go_wp2
    go_ret
    exact ⟨rfl, rfl⟩

set_option maxRecDepth 8000 in
set_option maxHeartbeats 1000000 in
theorem trim_zero (s : ByteArray) (hz : allZ s) (h0 : 0 < s.size) (hs : s.size ≤ 1000000) (w : World) :
    Calls Tryz.prog 37 #[.string s, .string ⟨#[0]⟩] w fun e w' => e = .returned (.string ByteArray.empty) ∧ ∃ n, w' = w.drewN n := by
  have hne := isEmpty_no s h0
  have hR := trimRight_zero s hz hs
  have hL := trimLeft_nil
  clear hz
  go_enter Tryz.func37, Tryz.ntmps37
  go_wp2_with fail
  go_quiet (first
    | (go_at_call 60; exact Calls.quiet_of_same (hR _))
    | (go_at_call 59; exact Calls.quiet_of_same (hL _)))
  go_wp2
  go_ret
  exact ⟨rfl, _, rfl⟩

theorem empty_any (n : Int) (w : World) :
    Calls Tryz.prog 38 #[.int .i64 n] w fun e w' => e = .returned (.agg #[.pointer none, .int .i64 0, .int .i64 n]) ∧ Below w.heap.size w w' := by
  go_enter Tryz.func38, Tryz.ntmps38
  go_wp2
  exact bodyPost_ret (v := .agg #[.pointer none, .int .i64 0, .int .i64 n]) (by simp [results, Tryz.results38, go_sem]) rfl ⟨rfl, (Below.refl _ _).alloc (Nat.le_refl _) _⟩

def Led.none : Led := ⟨[], [], []⟩
theorem Led.none_ok : Led.none.Ok := ⟨.nil, .nil, .nil, (fun _ h => by cases h), (fun _ h => by cases h), (fun _ h => by cases h)⟩

set_option maxHeartbeats 1000000 in
theorem open_zero (n : Nat) (h1 : 16 ≤ n) (h2 : n ≤ 256) (s : ByteArray) (hs : s.size = n * 128) (hz : allZ s) (w : World) :
    Calls Tryz.prog 25 #[.string s] w fun e w' => ∃ l, e = .returned (.tuple #[.pointer (some ⟨l, 0, none⟩), .slice none 0 0, .int .i64 0]) ∧ LedgerAt w' l Led.none (n / 8) ∧ w.heap.size ≤ l ∧ Below w.heap.size w w' := by
  have HT := hid (trim_zero s hz (by omega) (by omega))
  clear hz
  go_enter Tryz.func25, Tryz.ntmps25
  go_wp2_with fail
  refine (HT.out _).mono ?_
  clear HT
  rintro e w1 ⟨rfl, nq, rfl⟩
  have hb1 : Below w.heap.size w (w.drewN nq) := below_drewN (Below.refl _ _) nq
  have hz1 : (w.drewN nq).heap.size = w.heap.size := rfl
  have Hz := hid hz1
  clear hz1
  generalize w.drewN nq = w1 at *
  go_wp2_with fail
  refine (empty_any _ _).mono ?_
  rintro e w2 ⟨rfl, hb2⟩
  go_wp2
  go_ret3
  have hB2 : Below w.heap.size w w2 := hb1.trans (hb2.mono hb1.size)
  have hs2 := hB2.size
  have e8 : (n : Int) / 8 = ((n / 8 : Nat) : Int) := by omega
  refine ⟨w2.heap.size, rfl, ⟨⟨none, 0, ?_, ⟨?_, Nat.zero_le _, .inl ⟨rfl, rfl⟩⟩⟩, Led.none_ok, Nat.zero_le _, by omega⟩, hs2, hB2.alloc hs2 _⟩
  · rw [e8]; exact World.alloc_heap_new w2 _
  · exact Led.rise Led.none_ok

end Go.Proofs.YtbpnllhhmookcaaGreatDoor
