/- The books of package firnref in memory, and what find, pair and gives return. -/
import Derived.Test.YtbpnllhhmookcaaGreatDoorKk02
import Derived.Laws.Rows
import Derived.Deep.DeepCutAuto
namespace Go.Proofs.YtbpnllhhmookcaaGreatDoor
open Go.RowKit

theorem Recs.set {w : World} {e : TypeId} {k : Nat} {v : Value} {l : List (Nat → Int)} (h : Recs w e k v l) {g : Nat} (hg : v.ownBlock = some g) {i f : Nat} (hi : i < l.length) (hf : f < k) (n : Int) :
    Recs (w.setCell ⟨g, i * k + f, none⟩ (.int .i64 n)) e k v (l.set i (upd l[i] f n)) := by
  have hlt : i * k + f < l.length * k := by
    have : (i + 1) * k ≤ l.length * k := Nat.mul_le_mul_right k hi
    rw [Nat.succ_mul] at this; omega
  refine ⟨by rw [List.length_set, recs_len, List.length_set], ?_⟩
  rcases h.2 with ⟨hv, h0⟩ | ⟨g', cap, cur, rfl, h1, hg', h2, h3, h4, h5⟩
  · omega
  · injection hg with hg; subst hg
    refine .inr ⟨g', cap, cur.set! (i * k + f) (.int .i64 n), by rw [List.length_set], h1, heap_setCell_same w g' (i * k + f) cur e _ hg', by rw [List.length_set]; exact h2, h3, by simp [h4], ?_⟩
    rw [List.length_set]
    have e1 : (cur.set! (i * k + f) (Value.int .i64 n)).toList = cur.toList.set (i * k + f) (.int .i64 n) := by simp
    rw [e1, List.take_set, h5]
    exact recs_set k l i f n hi hf

/-- Books: the sides of boxes, the tubes, what was poured. -/
structure Bk where
  sides : Nat → Int
  tubes : List (Nat → Int)
  poured : List (Nat → Int)

/-- Books lie in memory: their own block, and the two lists, apart from one another. -/
structure BkAt (w : World) (b : Nat) (vt vp : Value) (k : Bk) : Prop where
  lt : b < w.heap.size
  side : ∀ i, i < 10 → w.cell? ⟨b, i, none⟩ = some (.int .i64 (k.sides i))
  ct : w.cell? ⟨b, 10, none⟩ = some vt
  cp : w.cell? ⟨b, 11, none⟩ = some vp
  fz : ∀ i, w.frozen? ⟨b, i, none⟩ = false
  tubes : Recs w 93 11 vt k.tubes
  poured : Recs w 138 3 vp k.poured
  nt : vt.ownBlock ≠ some b
  np : vp.ownBlock ≠ some b
  tp : ∀ g, vt.ownBlock = some g → vp.ownBlock ≠ some g
  few : k.tubes.length < 1000000 ∧ k.poured.length < 1000000

/-- The blocks that books own. -/
def bkOwn (b : Nat) (vt vp : Value) (k : Nat) : Prop := k = b ∨ vt.ownBlock = some k ∨ vp.ownBlock = some k

theorem BkAt.keeps {S : Nat → Prop} {w w' : World} {b : Nat} {vt vp : Value} {k : Bk} (h : BkAt w b vt vp k) (hk : Keeps S w w') (hs : ∀ g, bkOwn b vt vp g → ¬ S g) : BkAt w' b vt vp k :=
  have hb := hs b (.inl rfl)
  ⟨Nat.lt_of_lt_of_le h.lt hk.size, fun i hi => (hk.cell h.lt hb).trans (h.side i hi), (hk.cell h.lt hb).trans h.ct, (hk.cell h.lt hb).trans h.cp, fun i => (hk.frozen h.lt hb).trans (h.fz i),
    h.tubes.keeps hk (fun g hg => hs g (.inr (.inl hg))), h.poured.keeps hk (fun g hg => hs g (.inr (.inr hg))), h.nt, h.np, h.tp, h.few⟩
theorem BkAt.own_lt {w : World} {b : Nat} {vt vp : Value} {k : Bk} (h : BkAt w b vt vp k) {g : Nat} (hg : bkOwn b vt vp g) : g < w.heap.size := by
  rcases hg with rfl | hg | hg
  · exact h.lt
  · exact (h.tubes.lt g hg).2
  · exact (h.poured.lt g hg).2
theorem BkAt.below {w w' : World} {b : Nat} {vt vp : Value} {k : Bk} (h : BkAt w b vt vp k) (hb : Below w.heap.size w w') : BkAt w' b vt vp k :=
  h.keeps (S := fun _ => False) (below_toKeeps hb _) (fun _ _ h => h)

/-- The place of a tube in the list; -1: it is not there. -/
def findI (ts : List (Nat → Int)) (id : Int) : Int := if ts.findIdx (fun t => t 0 == id) < ts.length then (ts.findIdx (fun t => t 0 == id) : Nat) else -1
theorem findI_hit {ts : List (Nat → Int)} {id : Int} {k : Nat} (hk : k < ts.length) (h : ts[k] 0 = id) (hb : ∀ j (hj : j < k), ¬ ts[j] 0 = id) : findI ts id = k := by
  have e : ts.findIdx (fun t => t 0 == id) = k := (List.findIdx_eq hk).2 ⟨by simpa using h, fun j hj => by simpa using hb j hj⟩
  unfold findI; rw [e, if_pos hk]
theorem findI_miss {ts : List (Nat → Int)} {id : Int} (hb : ∀ j (hj : j < ts.length), ¬ ts[j] 0 = id) : findI ts id = -1 := by
  have e : ts.findIdx (fun t => t 0 == id) = ts.length := List.findIdx_eq_length.2 (fun t ht => by
    obtain ⟨j, hj, rfl⟩ := List.getElem_of_mem ht
    simpa using hb j hj)
  unfold findI; rw [e, if_neg (by omega)]

set_option maxHeartbeats 1000000 in
theorem find_any (b : Nat) (vt vp : Value) (k : Bk) (id : Int) (w : World) (h : BkAt w b vt vp k) :
    Calls Tryz.prog 69 #[.pointer (some ⟨b, 0, none⟩), .int .i64 id] w fun e w' => e = .returned (.int .i64 (findI k.tubes id)) ∧ w' = w := by
  have hct := h.ct
  obtain ⟨oa, cap, rfl, hform⟩ := h.tubes.form
  have HF := hid hform
  have hfew := h.few.1
  clear hform
  go_enter Tryz.func69, Tryz.ntmps69
  go_wp2_with fail
  go_loop [5] (fun i => ∃ m : Nat, m ≤ k.tubes.length ∧ i = .int .i64 m ∧ ∀ j (hj : j < m) (hj' : j < k.tubes.length), ¬ k.tubes[j] 0 = id) (fun i => k.tubes.length - (intOf i).toNat)
  case atStart => exact ⟨0, Nat.zero_le _, rfl, fun j hj => by omega⟩
  case round =>
    obtain ⟨m, hm, rfl, hno⟩ := hrel
    have HN := hid hno
    clear hno
    by_cases hlt : m < k.tubes.length
    · obtain ⟨g, rfl, hcap, _, _, hcell, _⟩ := HF.out m hlt
      have hc0 := hcell 0 (by omega)
      rw [Nat.add_zero] at hc0
      clear hcell
      have hlt' : (m : Int) < (k.tubes.length : Int) := by omega
      by_cases he : k.tubes[m] 0 = id
      · have HE := hid (findI_hit hlt he (fun j hj => HN.out j hj (by omega)))
        rw [he] at hc0
        clear he
        go_wp2
        go_ret
        exact ⟨ret_int HE.out.symm, rfl⟩
      · have HE := hid he
        have hz : (k.tubes[m] 0 == id) = false := by simpa using he
        clear he
        go_wp2
        go_round
        case rel =>
          refine ⟨m + 1, by omega, by go_num, fun j hj hj' => ?_⟩
          by_cases e : j = m
          · subst e; exact HE.out
          · exact HN.out j (by omega) hj'
        case measure => simp [intOf]; omega
    · have HE := hid (findI_miss (fun j hj => HN.out j (by omega) hj))
      go_wp2
      go_ret
      exact ⟨ret_int HE.out.symm, rfl⟩

end Go.Proofs.YtbpnllhhmookcaaGreatDoor

/- What pair, gives and misplaced of the books of package firnref return. -/
namespace Go.Proofs.YtbpnllhhmookcaaGreatDoor
open Go.RowKit

/-- The place of what was poured from one into another one; -1: nothing was. -/
def pairI (ps : List (Nat → Int)) (a b : Int) : Int := if ps.findIdx (fun p => p 0 == a && p 1 == b) < ps.length then (ps.findIdx (fun p => p 0 == a && p 1 == b) : Nat) else -1
theorem pairI_hit {ps : List (Nat → Int)} {a b : Int} {k : Nat} (hk : k < ps.length) (h : ps[k] 0 = a ∧ ps[k] 1 = b) (hb : ∀ j (hj : j < k), ¬ (ps[j] 0 = a ∧ ps[j] 1 = b)) : pairI ps a b = k := by
  have e : ps.findIdx (fun p => p 0 == a && p 1 == b) = k := (List.findIdx_eq hk).2 ⟨by simpa using h, fun j hj => by simpa using hb j hj⟩
  unfold pairI; rw [e, if_pos hk]
theorem pairI_miss {ps : List (Nat → Int)} {a b : Int} (hb : ∀ j (hj : j < ps.length), ¬ (ps[j] 0 = a ∧ ps[j] 1 = b)) : pairI ps a b = -1 := by
  have e : ps.findIdx (fun p => p 0 == a && p 1 == b) = ps.length := List.findIdx_eq_length.2 (fun t ht => by
    obtain ⟨j, hj, rfl⟩ := List.getElem_of_mem ht
    simpa using hb j hj)
  unfold pairI; rw [e, if_neg (by omega)]

set_option maxHeartbeats 1000000 in
theorem pair_any (b : Nat) (vt vp : Value) (k : Bk) (p q : Int) (w : World) (h : BkAt w b vt vp k) :
    Calls Tryz.prog 70 #[.pointer (some ⟨b, 0, none⟩), .int .i64 p, .int .i64 q] w fun e w' => e = .returned (.int .i64 (pairI k.poured p q)) ∧ w' = w := by
  have hcp := h.cp
  obtain ⟨oa, cap, rfl, hform⟩ := h.poured.form
  have HF := hid hform
  have hfew := h.few.2
  clear hform
  go_enter Tryz.func70, Tryz.ntmps70
  go_wp2_with fail
  go_loop [7] (fun i => ∃ m : Nat, m ≤ k.poured.length ∧ i = .int .i64 m ∧ ∀ j (hj : j < m) (hj' : j < k.poured.length), ¬ (k.poured[j] 0 = p ∧ k.poured[j] 1 = q)) (fun i => k.poured.length - (intOf i).toNat)
  case atStart => exact ⟨0, Nat.zero_le _, rfl, fun j hj => by omega⟩
  case round =>
    obtain ⟨m, hm, rfl, hno⟩ := hrel
    have HN := hid hno
    clear hno
    by_cases hlt : m < k.poured.length
    · obtain ⟨g, rfl, hcap, _, _, hcell, _⟩ := HF.out m hlt
      have hc0 := hcell 0 (by omega)
      have hc1 := hcell 1 (by omega)
      rw [Nat.add_zero] at hc0
      clear hcell
      have hlt' : (m : Int) < (k.poured.length : Int) := by omega
      by_cases he : k.poured[m] 0 = p
      · by_cases he1 : k.poured[m] 1 = q
        · have HE := hid (pairI_hit hlt ⟨he, he1⟩ (fun j hj => HN.out j hj (by omega)))
          rw [he] at hc0
          rw [he1] at hc1
          clear he he1
          go_wp2
          go_ret
          exact ⟨ret_int HE.out.symm, rfl⟩
        · have HE : Hid (¬ (k.poured[m] 0 = p ∧ k.poured[m] 1 = q)) := fun h => he1 h.2
          have hz : (k.poured[m] 1 == q) = false := by simpa using he1
          rw [he] at hc0
          clear he he1
          go_wp2
          go_round
          case rel =>
            refine ⟨m + 1, by omega, by go_num, fun j hj hj' => ?_⟩
            by_cases e : j = m
            · subst e; exact HE.out
            · exact HN.out j (by omega) hj'
          case measure => simp [intOf]; omega
      · have HE : Hid (¬ (k.poured[m] 0 = p ∧ k.poured[m] 1 = q)) := fun h => he h.1
        have hz : (k.poured[m] 0 == p) = false := by simpa using he
        clear he
        go_wp2
        go_round
        case rel =>
          refine ⟨m + 1, by omega, by go_num, fun j hj hj' => ?_⟩
          by_cases e : j = m
          · subst e; exact HE.out
          · exact HN.out j (by omega) hj'
        case measure => simp [intOf]; omega
    · have HE := hid (pairI_miss (fun j hj => HN.out j (by omega) hj))
      go_wp2
      go_ret
      exact ⟨ret_int HE.out.symm, rfl⟩

def givesB (ts : List (Nat → Int)) (d : Int) : Bool := ts.any fun t => t 1 == d
theorem givesB_hit {ts : List (Nat → Int)} {d : Int} {m : Nat} (hm : m < ts.length) (h : ts[m] 1 = d) : givesB ts d = true := by
  unfold givesB; rw [List.any_eq_true]; exact ⟨ts[m], List.getElem_mem hm, by simpa using h⟩
theorem givesB_miss {ts : List (Nat → Int)} {d : Int} (h : ∀ j (hj : j < ts.length), ¬ ts[j] 1 = d) : givesB ts d = false := by
  unfold givesB; rw [List.any_eq_false]
  intro t ht
  obtain ⟨j, hj, rfl⟩ := List.getElem_of_mem ht
  simpa using h j hj

set_option maxHeartbeats 1000000 in
theorem gives_any (b : Nat) (vt vp : Value) (k : Bk) (d : Int) (w : World) (h : BkAt w b vt vp k) :
    Calls Tryz.prog 71 #[.pointer (some ⟨b, 0, none⟩), .int .i64 d] w fun e w' => e = .returned (.bool (givesB k.tubes d)) ∧ w' = w := by
  have hct := h.ct
  obtain ⟨oa, cap, rfl, hform⟩ := h.tubes.form
  have HF := hid hform
  have hfew := h.few.1
  clear hform
  go_enter Tryz.func71, Tryz.ntmps71
  go_wp2_with fail
  go_loop [5] (fun i => ∃ m : Nat, m ≤ k.tubes.length ∧ i = .int .i64 m ∧ ∀ j (hj : j < m) (hj' : j < k.tubes.length), ¬ k.tubes[j] 1 = d) (fun i => k.tubes.length - (intOf i).toNat)
  case atStart => exact ⟨0, Nat.zero_le _, rfl, fun j hj => by omega⟩
  case round =>
    obtain ⟨m, hm, rfl, hno⟩ := hrel
    have HN := hid hno
    clear hno
    by_cases hlt : m < k.tubes.length
    · obtain ⟨g, rfl, hcap, _, _, hcell, _⟩ := HF.out m hlt
      have hc0 := hcell 1 (by omega)
      clear hcell
      have hlt' : (m : Int) < (k.tubes.length : Int) := by omega
      by_cases he : k.tubes[m] 1 = d
      · have HE := hid (givesB_hit hlt he)
        rw [he] at hc0
        clear he
        go_wp2
        go_ret
        exact ⟨ret_bool HE.out, rfl⟩
      · have HE := hid he
        have hz : (k.tubes[m] 1 == d) = false := by simpa using he
        clear he
        go_wp2
        go_round
        case rel =>
          refine ⟨m + 1, by omega, by go_num, fun j hj hj' => ?_⟩
          by_cases e : j = m
          · subst e; exact HE.out
          · exact HN.out j (by omega) hj'
        case measure => simp [intOf]; omega
    · have HE := hid (givesB_miss (fun j hj => HN.out j (by omega) hj))
      go_wp2
      go_ret
      exact ⟨ret_bool HE.out, rfl⟩

end Go.Proofs.YtbpnllhhmookcaaGreatDoor

/- What misplaced of the books of package firnref returns. -/
namespace Go.Proofs.YtbpnllhhmookcaaGreatDoor
open Go.RowKit

/-- Is a tube in the place of a command, another one than id? -/
def takenB (id : Int) (c t : Nat → Int) : Bool := (t 0 != id) && (t 6 == 1) && (t 8 == c 5) && (t 9 == c 6) && (t 10 == c 7)
theorem takenB_no {id : Int} {c t : Nat → Int} (h : takenB id c t = false) : ((t 0 != id) = false) ∨ ((t 0 != id) = true ∧ (t 6 == 1) = false) ∨ ((t 0 != id) = true ∧ (t 6 == 1) = true ∧ (t 8 == c 5) = false) ∨ ((t 0 != id) = true ∧ (t 6 == 1) = true ∧ (t 8 == c 5) = true ∧ (t 9 == c 6) = false) ∨ ((t 0 != id) = true ∧ (t 6 == 1) = true ∧ (t 8 == c 5) = true ∧ (t 9 == c 6) = true ∧ (t 10 == c 7) = false) := by
  unfold takenB at h
  revert h
  cases (t 0 != id) <;> cases (t 6 == 1) <;> cases (t 8 == c 5) <;> cases (t 9 == c 6) <;> cases (t 10 == c 7) <;> simp
theorem takenB_yes {id : Int} {c t : Nat → Int} (h : takenB id c t = true) : (t 0 != id) = true ∧ (t 6 == 1) = true ∧ (t 8 == c 5) = true ∧ (t 9 == c 6) = true ∧ (t 10 == c 7) = true := by
  unfold takenB at h
  simp only [Bool.and_eq_true] at h
  obtain ⟨⟨⟨⟨h0, h1⟩, h2⟩, h3⟩, h4⟩ := h
  exact ⟨h0, h1, h2, h3, h4⟩

def misI (k : Bk) (id : Int) (c : Nat → Int) : Int :=
  if k.sides (c 5).toNat = 0 then 9 else if k.sides (c 5).toNat ≤ c 6 ∨ k.sides (c 5).toNat ≤ c 7 then 10 else if k.tubes.any (takenB id c) then 10 else 0

set_option maxHeartbeats 1000000 in
theorem misplaced_any (b : Nat) (vt vp : Value) (k : Bk) (id : Int) (c : Nat → Int) (w : World) (h : BkAt w b vt vp k) (h0 : 0 ≤ c 5) (h9 : c 5 < 10) :
    Calls Tryz.prog 72 #[.pointer (some ⟨b, 0, none⟩), .int .i64 id, .agg #[.int .i64 (c 0), .int .i64 (c 1), .int .i64 (c 2), .int .i64 (c 3), .int .i64 (c 4), .int .i64 (c 5), .int .i64 (c 6), .int .i64 (c 7), .int .i64 (c 8)]] w fun e w' => e = .returned (.int .i64 (misI k id c)) ∧ Below w.heap.size w w' := by
  obtain ⟨box, hbox⟩ := Int.eq_ofNat_of_zero_le h0
  have hC0 := Has.new w 31 c
  have hb0 := (Below.refl w.heap.size w).alloc (Nat.le_refl _) (.cells #[.int .i64 (c 0), .int .i64 (c 1), .int .i64 (c 2), .int .i64 (c 3), .int .i64 (c 4), .int .i64 (c 5), .int .i64 (c 6), .int .i64 (c 7), .int .i64 (c 8)] 31)
  have hK0 := h.below hb0
  rw [hbox] at hC0 hb0 hK0
  have hB1 : box < 10 := by omega
  have hside := h.side box hB1
  have hlt := h.lt
  have hbt : (box : Int) < 10 := by omega
  have hmis : Hid (misI k id c = if k.sides box = 0 then 9 else if k.sides box ≤ c 6 ∨ k.sides box ≤ c 7 then 10 else if k.tubes.any (takenB id c) then 10 else 0) := by
    unfold misI; rw [hbox]; exact hid rfl
  have hbn : ¬ b = w.heap.size := by omega
  by_cases hs0 : k.sides box = 0
  · have HM : Hid (misI k id c = 9) := by rw [hmis.out, if_pos hs0]; exact hid rfl
    rw [hs0] at hside
    go_enter Tryz.func72, Tryz.ntmps72
    go_wp2_with fail
    go_quiet (fail)
    go_wp2
    go_ret
    exact ⟨ret_int HM.out.symm, below_drewN hb0 _⟩
  · have hs0' : (k.sides box == 0) = false := by simpa using hs0
    by_cases hx : k.sides box ≤ c 6
    · have HM : Hid (misI k id c = 10) := by rw [hmis.out, if_neg hs0, if_pos (.inl hx)]; exact hid rfl
      clear hs0
      go_enter Tryz.func72, Tryz.ntmps72
      go_wp2_with fail
      go_quiet (fail)
      go_wp2
      go_ret
      exact ⟨ret_int HM.out.symm, below_drewN hb0 _⟩
    · have hx' : decide (k.sides box ≤ c 6) = false := by simpa using hx
      by_cases hy : k.sides box ≤ c 7
      · have HM : Hid (misI k id c = 10) := by rw [hmis.out, if_neg hs0, if_pos (.inr hy)]; exact hid rfl
        clear hs0
        go_enter Tryz.func72, Tryz.ntmps72
        go_wp2_with fail
        go_quiet (fail)
        go_wp2
        go_ret
        exact ⟨ret_int HM.out.symm, below_drewN hb0 _⟩
      · have hy' : decide (k.sides box ≤ c 7) = false := by simpa using hy
        have HM : Hid (misI k id c = if k.tubes.any (takenB id c) then 10 else 0) := by rw [hmis.out, if_neg hs0, if_neg (by omega)]; exact hid rfl
        clear hs0 hx hy hmis
        go_enter Tryz.func72, Tryz.ntmps72
        go_wp2_with fail
        go_quiet (fail)
        go_wp2_with fail
        have hC1 := hC0.drewN nq
        have hK1 : BkAt ((w.alloc (.cells #[.int .i64 (c 0), .int .i64 (c 1), .int .i64 (c 2), .int .i64 (c 3), .int .i64 (c 4), .int .i64 (box : Int), .int .i64 (c 6), .int .i64 (c 7), .int .i64 (c 8)] 31)).drewN nq) b vt vp k := hK0.below (below_drewN (Below.refl _ _) nq)
        have hb1 := below_drewN hb0 nq
        have hz1 : w.heap.size < ((w.alloc (.cells #[.int .i64 (c 0), .int .i64 (c 1), .int .i64 (c 2), .int .i64 (c 3), .int .i64 (c 4), .int .i64 (box : Int), .int .i64 (c 6), .int .i64 (c 7), .int .i64 (c 8)] 31)).drewN nq).heap.size := by simp
        generalize (w.alloc (.cells #[.int .i64 (c 0), .int .i64 (c 1), .int .i64 (c 2), .int .i64 (c 3), .int .i64 (c 4), .int .i64 (box : Int), .int .i64 (c 6), .int .i64 (c 7), .int .i64 (c 8)] 31)).drewN nq = w1 at hC1 hK1 hb1 hz1 ⊢
        clear hC0 hK0 hb0
        have hkl := hK1.lt
        have hct := hK1.ct
        obtain ⟨oa, cap, rfl, hform⟩ := hK1.tubes.form
        have HF := hid hform
        have hfew := h.few.1
        clear hform
        go_loopw [8] (fun i wr => ∃ m : Nat, m ≤ k.tubes.length ∧ i = .int .i64 m ∧ Below w1.heap.size w1 wr ∧ ∀ j (hj : j < m) (hj' : j < k.tubes.length), takenB id c k.tubes[j] = false) (fun i _ => k.tubes.length - (intOf i).toNat)
        case atStart => exact ⟨0, Nat.zero_le _, rfl, Below.refl _ _, fun j hj => by omega⟩
        case round =>
          obtain ⟨m, hm, rfl, hbr, hno⟩ := hrel
          have HN := hid hno
          clear hno
          have hctr := (hbr.cell (p := ⟨b, 10, none⟩) hkl).trans hct
          have hzr := hbr.size
          have hCr := hC1.below hbr hz1
          have c5 := hCr.1 5 (by omega)
          have c6 := hCr.1 6 (by omega)
          have c7 := hCr.1 7 (by omega)
          rw [hbox] at c5
          have hwr : w.heap.size < wr.heap.size := by omega
          by_cases hlt2 : m < k.tubes.length
          · obtain ⟨g, rfl, hcap, _, hgl, hcell, _⟩ := HF.out m hlt2
            have HCe := hid (fun f hf => (hbr.cell (p := ⟨g, m * 11 + f, none⟩) hgl).trans (hcell f hf))
            clear hcell
            have t0 := HCe.out 0 (by omega)
            have t1 := HCe.out 1 (by omega)
            have t2 := HCe.out 2 (by omega)
            have t3 := HCe.out 3 (by omega)
            have t4 := HCe.out 4 (by omega)
            have t5 := HCe.out 5 (by omega)
            have t6 := HCe.out 6 (by omega)
            have t7 := HCe.out 7 (by omega)
            have t8 := HCe.out 8 (by omega)
            have t9 := HCe.out 9 (by omega)
            have t10 := HCe.out 10 (by omega)
            rw [Nat.add_zero] at t0
            clear HCe
            have hlt' : (m : Int) < (k.tubes.length : Int) := by omega
            cases hT : takenB id c k.tubes[m] with
            | true =>
              have HE : Hid (misI k id c = 10) := by rw [HM.out, if_pos (List.any_eq_true.2 ⟨_, List.getElem_mem hlt2, hT⟩)]; exact hid rfl
              obtain ⟨g0, g1, g2, g3, g4⟩ := takenB_yes hT
              rw [hbox] at g2
              clear hT
              generalize k.tubes[m] = t at *
              go_wp2
              go_ret
              exact ⟨ret_int HE.out.symm, hb1.trans ((hbr.mono (by omega)).trans ((Below.refl _ _).alloc (by omega) _))⟩
            | false =>
              have HT := hid hT
              have hno := takenB_no hT
              rw [hbox] at hno
              clear hT
              have HNe : Hid (∀ j (hj : j < m + 1) (hj' : j < k.tubes.length), takenB id c k.tubes[j] = false) := by
                intro j hj hj'
                by_cases e : j = m
                · subst e; exact HT.out
                · exact HN.out j (by omega) hj'
              clear HT
              generalize k.tubes[m] = t at *
              rcases hno with g0 | ⟨g0, g1⟩ | ⟨g0, g1, g2⟩ | ⟨g0, g1, g2, g3⟩ | ⟨g0, g1, g2, g3, g4⟩
              all_goals
                go_wp2
                go_roundw
                case rel => exact ⟨m + 1, by omega, by go_num, hbr.alloc hzr _, HNe.out⟩
                case measure => simp [intOf]; omega
          · have HE : Hid (misI k id c = 0) := by
              rw [HM.out, if_neg]
              · exact hid rfl
              · intro hh
                obtain ⟨t, ht, h2⟩ := List.any_eq_true.1 hh
                obtain ⟨j, hj, rfl⟩ := List.getElem_of_mem ht
                rw [HN.out j (by omega) hj] at h2
                cases h2
            go_wp2
            go_ret
            exact ⟨ret_int HE.out.symm, hb1.trans (hbr.mono (by omega))⟩

end Go.Proofs.YtbpnllhhmookcaaGreatDoor

/- The head of Errors of the books of package firnref: what it looks up ahead of its switch. -/
namespace Go.Proofs.YtbpnllhhmookcaaGreatDoor
open Go.RowKit

/-- A record of integers lies in a block of its own. -/
def HasR (n : Nat) (w : World) (b : Nat) (t : Nat → Int) : Prop := (∀ j, j < n → w.cell? ⟨b, j, none⟩ = some (.int .i64 (t j))) ∧ ∀ j, w.frozen? ⟨b, j, none⟩ = false
theorem HasR.below {n : Nat} {w w' : World} {b B : Nat} {c : Nat → Int} (h : HasR n w b c) (hb : Below B w w') (hB : b < B) : HasR n w' b c :=
  ⟨fun i hi => (hb.cell (by exact hB)).trans (h.1 i hi), fun i => (hb.frozen (by exact hB)).trans (h.2 i)⟩
theorem HasR.congr {n : Nat} {w : World} {b : Nat} {c d : Nat → Int} (h : HasR n w b c) (e : ∀ j, j < n → c j = d j) : HasR n w b d :=
  ⟨fun j hj => by rw [← e j hj]; exact h.1 j hj, h.2⟩
theorem HasR.new11 (w : World) (t : TypeId) (c : Nat → Int) : HasR 11 (w.alloc (.cells #[.int .i64 (c 0), .int .i64 (c 1), .int .i64 (c 2), .int .i64 (c 3), .int .i64 (c 4), .int .i64 (c 5), .int .i64 (c 6), .int .i64 (c 7), .int .i64 (c 8), .int .i64 (c 9), .int .i64 (c 10)] t)) w.heap.size c := by
  refine ⟨fun j hj => ?_, fun j => by simp⟩
  rw [World.cell?_alloc_new]
  match j, hj with
  | 0, _ => rfl
  | 1, _ => rfl
  | 2, _ => rfl
  | 3, _ => rfl
  | 4, _ => rfl
  | 5, _ => rfl
  | 6, _ => rfl
  | 7, _ => rfl
  | 8, _ => rfl
  | 9, _ => rfl
  | 10, _ => rfl
  | n + 11, h => omega

def zeroT : Nat → Int := fun _ => 0
def tubeAt (ts : List (Nat → Int)) (id : Int) : Nat → Int := if 0 ≤ findI ts id then ts.getD (findI ts id).toNat zeroT else zeroT
def pouredAt (ps : List (Nat → Int)) (a b : Int) : Int := if 0 ≤ pairI ps a b then (ps.getD (pairI ps a b).toNat zeroT) 2 else 0

theorem findI_cases (ts : List (Nat → Int)) (id : Int) : (findI ts id < 0 ∧ findI ts id = -1 ∧ tubeAt ts id = zeroT) ∨ ∃ hm : (findI ts id).toNat < ts.length, 0 ≤ findI ts id ∧ tubeAt ts id = ts[(findI ts id).toNat] := by
  by_cases h : ts.findIdx (fun t => t 0 == id) < ts.length
  · have e : findI ts id = (ts.findIdx (fun t => t 0 == id) : Nat) := by unfold findI; rw [if_pos h]
    have h' : (findI ts id).toNat < ts.length := by rw [e]; simpa using h
    refine .inr ⟨h', by omega, ?_⟩
    unfold tubeAt
    rw [if_pos (by omega), List.getD_eq_getElem?_getD, List.getElem?_eq_getElem h']; rfl
  · have e : findI ts id = -1 := by unfold findI; rw [if_neg h]
    refine .inl ⟨by omega, e, ?_⟩
    unfold tubeAt; rw [e, if_neg (by omega)]
theorem pairI_cases (ps : List (Nat → Int)) (a b : Int) : (pairI ps a b < 0 ∧ pairI ps a b = -1 ∧ pouredAt ps a b = 0) ∨ ∃ hm : (pairI ps a b).toNat < ps.length, 0 ≤ pairI ps a b ∧ pouredAt ps a b = ps[(pairI ps a b).toNat] 2 := by
  by_cases h : ps.findIdx (fun p => p 0 == a && p 1 == b) < ps.length
  · have e : pairI ps a b = (ps.findIdx (fun p => p 0 == a && p 1 == b) : Nat) := by unfold pairI; rw [if_pos h]
    have h' : (pairI ps a b).toNat < ps.length := by rw [e]; simpa using h
    refine .inr ⟨h', by omega, ?_⟩
    unfold pouredAt
    rw [if_pos (by omega), List.getD_eq_getElem?_getD, List.getElem?_eq_getElem h']; rfl
  · have e : pairI ps a b = -1 := by unfold pairI; rw [if_neg h]
    refine .inl ⟨by omega, e, ?_⟩
    unfold pouredAt; rw [e, if_neg (by omega)]

theorem HasR.set {n : Nat} {w : World} {b : Nat} {c : Nat → Int} (h : HasR n w b c) {j : Nat} (hj : j < n) (v : Int) : HasR n (w.setCell ⟨b, j, none⟩ (.int .i64 v)) b (upd c j v) := by
  refine ⟨fun i hi => ?_, fun i => by rw [World.frozen?_setCell]; exact h.2 i⟩
  by_cases e : i = j
  · subst e; rw [World.cell?_setCell_same (w := w) (h := h.1 i hi)]; simp [upd]
  · rw [World.cell?_setCell_other (w := w) (h := by intro h'; injection h' with _ h2 _; exact e h2.symm)]; rw [h.1 i hi]; simp [upd, e]
/-- A tube laid over the eleven cells of a block. -/
def put11 (w : World) (b : Nat) (d : Nat → Int) : World :=
  (((((((((((w.setCell ⟨b, 0, none⟩ (.int .i64 (d 0))).setCell ⟨b, 1, none⟩ (.int .i64 (d 1))).setCell ⟨b, 2, none⟩ (.int .i64 (d 2))).setCell ⟨b, 3, none⟩ (.int .i64 (d 3))).setCell ⟨b, 4, none⟩ (.int .i64 (d 4))).setCell ⟨b, 5, none⟩ (.int .i64 (d 5))).setCell ⟨b, 6, none⟩ (.int .i64 (d 6))).setCell ⟨b, 7, none⟩ (.int .i64 (d 7))).setCell ⟨b, 8, none⟩ (.int .i64 (d 8))).setCell ⟨b, 9, none⟩ (.int .i64 (d 9))).setCell ⟨b, 10, none⟩ (.int .i64 (d 10)))
theorem HasR.put11 {w : World} {b : Nat} {c : Nat → Int} (h : HasR 11 w b c) (d : Nat → Int) : HasR 11 (put11 w b d) b d := by
  refine (((((((((((h.set (j := 0) (by omega) (d 0)).set (j := 1) (by omega) (d 1)).set (j := 2) (by omega) (d 2)).set (j := 3) (by omega) (d 3)).set (j := 4) (by omega) (d 4)).set (j := 5) (by omega) (d 5)).set (j := 6) (by omega) (d 6)).set (j := 7) (by omega) (d 7)).set (j := 8) (by omega) (d 8)).set (j := 9) (by omega) (d 9)).set (j := 10) (by omega) (d 10)).congr ?_
  intro j hj
  match j, hj with
  | 0, _ => rfl
  | 1, _ => rfl
  | 2, _ => rfl
  | 3, _ => rfl
  | 4, _ => rfl
  | 5, _ => rfl
  | 6, _ => rfl
  | 7, _ => rfl
  | 8, _ => rfl
  | 9, _ => rfl
  | 10, _ => rfl
  | n + 11, h => omega
theorem below_put11 {w0 w : World} {B b : Nat} (h : Below B w0 w) (hb : B ≤ b) (d : Nat → Int) : Below B w0 (put11 w b d) :=
  (((((((((((h.setCell (by exact hb) _).setCell (by exact hb) _).setCell (by exact hb) _).setCell (by exact hb) _).setCell (by exact hb) _).setCell (by exact hb) _).setCell (by exact hb) _).setCell (by exact hb) _).setCell (by exact hb) _).setCell (by exact hb) _).setCell (by exact hb) _)
theorem keeps_put11 (w : World) (b : Nat) (d : Nat → Int) : Keeps (fun k => k = b) w (put11 w b d) :=
  ((((((((((((Keeps.refl (fun k => k = b) w).setCell (.inl rfl) _).setCell (.inl rfl) _).setCell (.inl rfl) _).setCell (.inl rfl) _).setCell (.inl rfl) _).setCell (.inl rfl) _).setCell (.inl rfl) _).setCell (.inl rfl) _).setCell (.inl rfl) _).setCell (.inl rfl) _).setCell (.inl rfl) _)
theorem HasR.keeps {S : Nat → Prop} {n : Nat} {w w' : World} {b : Nat} {c : Nat → Int} (h : HasR n w b c) (hk : Keeps S w w') (hb : b < w.heap.size) (hs : ¬ S b) : HasR n w' b c :=
  ⟨fun i hi => (hk.cell (by exact hb) (by exact hs)).trans (h.1 i hi), fun i => (hk.frozen (by exact hb) (by exact hs)).trans (h.2 i)⟩
theorem Has.keeps {S : Nat → Prop} {w w' : World} {b : Nat} {c : Nat → Int} (h : Has w b c) (hk : Keeps S w w') (hb : b < w.heap.size) (hs : ¬ S b) : Has w' b c :=
  ⟨fun i hi => (hk.cell (by exact hb) (by exact hs)).trans (h.1 i hi), fun i => (hk.frozen (by exact hb) (by exact hs)).trans (h.2 i)⟩
theorem put11_size (w : World) (b : Nat) (d : Nat → Int) : (put11 w b d).heap.size = w.heap.size := by simp [put11]
theorem HasR.newZ (w : World) : HasR 11 (w.alloc (.cells #[.int .i64 0, .int .i64 0, .int .i64 0, .int .i64 0, .int .i64 0, .int .i64 0, .int .i64 0, .int .i64 0, .int .i64 0, .int .i64 0, .int .i64 0] 93)) w.heap.size zeroT := HasR.new11 w 93 zeroT

/-- The cells of a tube in the list. -/
theorem BkAt.tube {w : World} {b n cap : Nat} {oa : Option Addr} {vp : Value} {k : Bk} (h : BkAt w b (.slice oa n cap) vp k) {m : Nat} (hm : m < k.tubes.length) :
    ∃ g, oa = some ⟨g, 0, none⟩ ∧ n = k.tubes.length ∧ n ≤ cap ∧ g < w.heap.size ∧ w.cell? ⟨g, m * 11, none⟩ = some (.int .i64 (k.tubes[m] 0)) ∧ w.cell? ⟨g, m * 11 + 1, none⟩ = some (.int .i64 (k.tubes[m] 1)) ∧ w.cell? ⟨g, m * 11 + 2, none⟩ = some (.int .i64 (k.tubes[m] 2)) ∧ w.cell? ⟨g, m * 11 + 3, none⟩ = some (.int .i64 (k.tubes[m] 3)) ∧ w.cell? ⟨g, m * 11 + 4, none⟩ = some (.int .i64 (k.tubes[m] 4)) ∧ w.cell? ⟨g, m * 11 + 5, none⟩ = some (.int .i64 (k.tubes[m] 5)) ∧ w.cell? ⟨g, m * 11 + 6, none⟩ = some (.int .i64 (k.tubes[m] 6)) ∧ w.cell? ⟨g, m * 11 + 7, none⟩ = some (.int .i64 (k.tubes[m] 7)) ∧ w.cell? ⟨g, m * 11 + 8, none⟩ = some (.int .i64 (k.tubes[m] 8)) ∧ w.cell? ⟨g, m * 11 + 9, none⟩ = some (.int .i64 (k.tubes[m] 9)) ∧ w.cell? ⟨g, m * 11 + 10, none⟩ = some (.int .i64 (k.tubes[m] 10)) ∧ ∀ j, w.frozen? ⟨g, j, none⟩ = false := by
  obtain ⟨oa2, cap2, e3, hform⟩ := h.tubes.form
  injection e3 with e4 e5 e6
  subst e4 e6 e5
  obtain ⟨g, e7, hle, _, hgl, hcell, hfz⟩ := hform m hm
  exact ⟨g, e7, rfl, hle, hgl, hcell 0 (by omega), hcell 1 (by omega), hcell 2 (by omega), hcell 3 (by omega), hcell 4 (by omega), hcell 5 (by omega), hcell 6 (by omega), hcell 7 (by omega), hcell 8 (by omega), hcell 9 (by omega), hcell 10 (by omega), hfz⟩
theorem BkAt.pouredCell {w : World} {b n cap : Nat} {oa : Option Addr} {vt : Value} {k : Bk} (h : BkAt w b vt (.slice oa n cap) k) {m : Nat} (hm : m < k.poured.length) :
    ∃ g, oa = some ⟨g, 0, none⟩ ∧ n = k.poured.length ∧ n ≤ cap ∧ g < w.heap.size ∧ w.cell? ⟨g, m * 3, none⟩ = some (.int .i64 (k.poured[m] 0)) ∧ w.cell? ⟨g, m * 3 + 1, none⟩ = some (.int .i64 (k.poured[m] 1)) ∧ w.cell? ⟨g, m * 3 + 2, none⟩ = some (.int .i64 (k.poured[m] 2)) ∧ ∀ j, w.frozen? ⟨g, j, none⟩ = false := by
  obtain ⟨oa2, cap2, e3, hform⟩ := h.poured.form
  injection e3 with e4 e5 e6
  subst e4 e6 e5
  obtain ⟨g, e7, hle, _, hgl, hcell, hfz⟩ := hform m hm
  exact ⟨g, e7, rfl, hle, hgl, hcell 0 (by omega), hcell 1 (by omega), hcell 2 (by omega), hfz⟩

/-- The errors of each kind. -/
def errNew (k : Bk) (c : Nat → Int) : Int := if 0 < k.sides (c 5).toNat then 9 else 0
def errBox (k : Bk) (c : Nat → Int) : Int := if k.sides (c 5).toNat = 0 then 9 else 0
def errDon (k : Bk) (c : Nat → Int) : Int := if givesB k.tubes (c 3) then 0 else 5
def errReg (k : Bk) (c : Nat → Int) : Int := if 0 ≤ findI k.tubes (c 1) then 4 else misI k (c 1) c
def errMov (k : Bk) (c : Nat → Int) (want : Int) : Int := if findI k.tubes (c 1) < 0 then 4 else if tubeAt k.tubes (c 1) 6 = want then misI k (c 1) c else 7
def errAli (k : Bk) (c : Nat → Int) : Int := if findI k.tubes (c 1) < 0 ∨ 0 ≤ findI k.tubes (c 2) then 4 else if c 2 < c 1 then 6 else if tubeAt k.tubes (c 1) 6 = 1 then (if tubeAt k.tubes (c 1) 3 < c 4 then 8 else misI k (c 2) c) else 7
def errPou (k : Bk) (c : Nat → Int) : Int := if findI k.tubes (c 1) < 0 ∨ findI k.tubes (c 2) < 0 then 4 else if c 2 ≤ c 1 then 6 else if tubeAt k.tubes (c 1) 6 = 1 ∧ tubeAt k.tubes (c 2) 6 = 1 then (if tubeAt k.tubes (c 1) 3 < c 4 ∨ 1000000 < tubeAt k.tubes (c 2) 3 + c 4 ∨ 1000000 < pouredAt k.poured (c 1) (c 2) + c 4 then 8 else 0) else 7
def errUse (k : Bk) (c : Nat → Int) : Int := if findI k.tubes (c 1) < 0 then 4 else if tubeAt k.tubes (c 1) 6 = 3 then 7 else if tubeAt k.tubes (c 1) 3 < c 4 ∨ 1000000 < tubeAt k.tubes (c 1) 4 + c 4 then 8 else 0
def errTak (k : Bk) (c : Nat → Int) : Int := if findI k.tubes (c 1) < 0 then 4 else if tubeAt k.tubes (c 1) 6 = 1 then 0 else 7
def errTub (k : Bk) (c : Nat → Int) : Int := if findI k.tubes (c 1) < 0 then 4 else 0
/-- The first error of a command. -/
def errI (k : Bk) (c : Nat → Int) : Int :=
  match (c 0).toNat with
  | 1 => errNew k c
  | 2 => errReg k c
  | 3 => errMov k c 1
  | 4 => errAli k c
  | 5 => errPou k c
  | 6 => errUse k c
  | 7 => errTak k c
  | 8 => errMov k c 2
  | 9 => errDon k c
  | 10 => errBox k c
  | 11 => errBox k c
  | 13 => errBox k c
  | 14 => errDon k c
  | _ => errTub k c

/-- No number in the books is great. -/
structure Small (k : Bk) : Prop where
  tubes : ∀ t ∈ k.tubes, ∀ i, 0 ≤ t i ∧ t i ≤ 1000000000
  poured : ∀ t ∈ k.poured, ∀ i, 0 ≤ t i ∧ t i ≤ 1000000000
theorem Small.tubeAt {k : Bk} (h : Small k) (id : Int) (i : Nat) : 0 ≤ tubeAt k.tubes id i ∧ tubeAt k.tubes id i ≤ 1000000000 := by
  rcases findI_cases k.tubes id with ⟨_, _, e⟩ | ⟨hm, _, e⟩
  · rw [e]; exact ⟨Int.le_refl _, by show (0 : Int) ≤ _; omega⟩
  · rw [e]; exact h.tubes _ (List.getElem_mem hm) i
theorem Small.pouredAt {k : Bk} (h : Small k) (a b : Int) : 0 ≤ pouredAt k.poured a b ∧ pouredAt k.poured a b ≤ 1000000000 := by
  rcases pairI_cases k.poured a b with ⟨_, _, e⟩ | ⟨hm, _, e⟩
  · rw [e]; exact ⟨by decide, by decide⟩
  · rw [e]; exact h.poured _ (List.getElem_mem hm) 2

set_option maxRecDepth 100000 in
set_option maxHeartbeats 1000000 in
theorem errors_any (b : Nat) (vt vp : Value) (k : Bk) (c : Nat → Int) (w : World) (h : BkAt w b vt vp k) (h0 : 0 ≤ c 5) (h9 : c 5 < 10) (hk1 : 1 ≤ c 0) (hk2 : c 0 ≤ 16) (hv : 0 ≤ c 4 ∧ c 4 ≤ 1000000000) (hsm : Small k) :
    Calls Tryz.prog 51 #[.pointer (some ⟨b, 0, none⟩), .agg #[.int .i64 (c 0), .int .i64 (c 1), .int .i64 (c 2), .int .i64 (c 3), .int .i64 (c 4), .int .i64 (c 5), .int .i64 (c 6), .int .i64 (c 7), .int .i64 (c 8)]] w fun e w' => e = .returned (.int .i64 (errI k c)) ∧ Below w.heap.size w w' := by
  have hC0 := Has.new w 31 c
  have hb0 := (Below.refl w.heap.size w).alloc (Nat.le_refl _) (.cells #[.int .i64 (c 0), .int .i64 (c 1), .int .i64 (c 2), .int .i64 (c 3), .int .i64 (c 4), .int .i64 (c 5), .int .i64 (c 6), .int .i64 (c 7), .int .i64 (c 8)] 31)
  have hK0 := h.below hb0
  have hlt := h.lt
  obtain ⟨oa, cap, rfl, _⟩ := h.tubes.form
  obtain ⟨op, cpp, rfl, _⟩ := h.poured.form
  have hfew := h.few
  have HOw := hid (fun g hg => h.own_lt (g := g) hg)
  go_enter Tryz.func51, Tryz.ntmps51
  go_upto_if 22 with (go_at_call 69; refine (find_any b _ _ k _ _ hK0).mono ?_; rintro e w' ⟨rfl, rfl⟩)
  have hC2 := (hC0.alloc (by simp) (.cells #[.int .i64 0, .int .i64 0, .int .i64 0, .int .i64 0, .int .i64 0, .int .i64 0, .int .i64 0, .int .i64 0, .int .i64 0, .int .i64 0, .int .i64 0] 93)).alloc (by simp; omega) (.cells #[.int .i64 0, .int .i64 0, .int .i64 0, .int .i64 0, .int .i64 0, .int .i64 0, .int .i64 0, .int .i64 0, .int .i64 0, .int .i64 0, .int .i64 0] 93)
  have hb2 := (hb0.alloc (by simp) (.cells #[.int .i64 0, .int .i64 0, .int .i64 0, .int .i64 0, .int .i64 0, .int .i64 0, .int .i64 0, .int .i64 0, .int .i64 0, .int .i64 0, .int .i64 0] 93)).alloc (by simp; omega) (.cells #[.int .i64 0, .int .i64 0, .int .i64 0, .int .i64 0, .int .i64 0, .int .i64 0, .int .i64 0, .int .i64 0, .int .i64 0, .int .i64 0, .int .i64 0] 93)
  have hK2 := h.below hb2
  have hT2 : HasR 11 (((w.alloc (.cells #[.int .i64 (c 0), .int .i64 (c 1), .int .i64 (c 2), .int .i64 (c 3), .int .i64 (c 4), .int .i64 (c 5), .int .i64 (c 6), .int .i64 (c 7), .int .i64 (c 8)] 31)).alloc (.cells #[.int .i64 0, .int .i64 0, .int .i64 0, .int .i64 0, .int .i64 0, .int .i64 0, .int .i64 0, .int .i64 0, .int .i64 0, .int .i64 0, .int .i64 0] 93)).alloc (.cells #[.int .i64 0, .int .i64 0, .int .i64 0, .int .i64 0, .int .i64 0, .int .i64 0, .int .i64 0, .int .i64 0, .int .i64 0, .int .i64 0, .int .i64 0] 93)) (w.heap.size + 1) zeroT := by
    have := (HasR.newZ (w.alloc (.cells #[.int .i64 (c 0), .int .i64 (c 1), .int .i64 (c 2), .int .i64 (c 3), .int .i64 (c 4), .int .i64 (c 5), .int .i64 (c 6), .int .i64 (c 7), .int .i64 (c 8)] 31))).below ((Below.refl _ _).alloc (Nat.le_refl _) (.cells #[.int .i64 0, .int .i64 0, .int .i64 0, .int .i64 0, .int .i64 0, .int .i64 0, .int .i64 0, .int .i64 0, .int .i64 0, .int .i64 0, .int .i64 0] 93)) (by simp)
    simpa using this
  have hU2 : HasR 11 (((w.alloc (.cells #[.int .i64 (c 0), .int .i64 (c 1), .int .i64 (c 2), .int .i64 (c 3), .int .i64 (c 4), .int .i64 (c 5), .int .i64 (c 6), .int .i64 (c 7), .int .i64 (c 8)] 31)).alloc (.cells #[.int .i64 0, .int .i64 0, .int .i64 0, .int .i64 0, .int .i64 0, .int .i64 0, .int .i64 0, .int .i64 0, .int .i64 0, .int .i64 0, .int .i64 0] 93)).alloc (.cells #[.int .i64 0, .int .i64 0, .int .i64 0, .int .i64 0, .int .i64 0, .int .i64 0, .int .i64 0, .int .i64 0, .int .i64 0, .int .i64 0, .int .i64 0] 93)) (w.heap.size + 2) zeroT := by
    have := HasR.newZ ((w.alloc (.cells #[.int .i64 (c 0), .int .i64 (c 1), .int .i64 (c 2), .int .i64 (c 3), .int .i64 (c 4), .int .i64 (c 5), .int .i64 (c 6), .int .i64 (c 7), .int .i64 (c 8)] 31)).alloc (.cells #[.int .i64 0, .int .i64 0, .int .i64 0, .int .i64 0, .int .i64 0, .int .i64 0, .int .i64 0, .int .i64 0, .int .i64 0, .int .i64 0, .int .i64 0] 93))
    simpa using this
  have hz2 : w.heap.size + 2 < (((w.alloc (.cells #[.int .i64 (c 0), .int .i64 (c 1), .int .i64 (c 2), .int .i64 (c 3), .int .i64 (c 4), .int .i64 (c 5), .int .i64 (c 6), .int .i64 (c 7), .int .i64 (c 8)] 31)).alloc (.cells #[.int .i64 0, .int .i64 0, .int .i64 0, .int .i64 0, .int .i64 0, .int .i64 0, .int .i64 0, .int .i64 0, .int .i64 0, .int .i64 0, .int .i64 0] 93)).alloc (.cells #[.int .i64 0, .int .i64 0, .int .i64 0, .int .i64 0, .int .i64 0, .int .i64 0, .int .i64 0, .int .i64 0, .int .i64 0, .int .i64 0, .int .i64 0] 93)).heap.size := by simp
  generalize ((w.alloc (.cells #[.int .i64 (c 0), .int .i64 (c 1), .int .i64 (c 2), .int .i64 (c 3), .int .i64 (c 4), .int .i64 (c 5), .int .i64 (c 6), .int .i64 (c 7), .int .i64 (c 8)] 31)).alloc (.cells #[.int .i64 0, .int .i64 0, .int .i64 0, .int .i64 0, .int .i64 0, .int .i64 0, .int .i64 0, .int .i64 0, .int .i64 0, .int .i64 0, .int .i64 0] 93)).alloc (.cells #[.int .i64 0, .int .i64 0, .int .i64 0, .int .i64 0, .int .i64 0, .int .i64 0, .int .i64 0, .int .i64 0, .int .i64 0, .int .i64 0, .int .i64 0] 93) = w2 at *
  clear hC0 hb0 hK0
  go_cut [] from 13 to 29 (fun wc => HasR 11 wc (w.heap.size + 1) (tubeAt k.tubes (c 1)) ∧ HasR 11 wc (w.heap.size + 2) zeroT ∧ Has wc w.heap.size c ∧ BkAt wc b (.slice oa k.tubes.length cap) (.slice op k.poured.length cpp) k ∧ Below w.heap.size w wc ∧ w.heap.size + 2 < wc.heap.size)
  case first =>
    rcases findI_cases k.tubes (c 1) with ⟨e1, _, e2⟩ | ⟨hm, e1, e2⟩
    · have E2 := hid e2
      clear e2
      generalize findI k.tubes (c 1) = kk at *
      generalize findI k.tubes (c 2) = oo at *
      go_wp2
      go_meet
      rw [E2.out]
      exact ⟨hT2, hU2, hC2, hK2, hb2, hz2⟩
    · obtain ⟨g, rfl, _, hcap, hgl, t0, t1, t2, t3, t4, t5, t6, t7, t8, t9, t10, _⟩ := hK2.tube hm
      have hc10 := hK2.ct
      have hfz := hT2.2
      have E2 := hid e2
      clear e2
      generalize k.tubes[(findI k.tubes (c 1)).toNat] = t at *
      generalize findI k.tubes (c 1) = kk at *
      generalize findI k.tubes (c 2) = oo at *
      have hm' : kk < (k.tubes.length : Int) := by omega
      have z0 := hT2.1 0 (by omega)
      have z1 := hT2.1 1 (by omega)
      have z2 := hT2.1 2 (by omega)
      have z3 := hT2.1 3 (by omega)
      have z4 := hT2.1 4 (by omega)
      have z5 := hT2.1 5 (by omega)
      have z6 := hT2.1 6 (by omega)
      have z7 := hT2.1 7 (by omega)
      have z8 := hT2.1 8 (by omega)
      have z9 := hT2.1 9 (by omega)
      have z10 := hT2.1 10 (by omega)
      simp only [zeroT] at z0 z1 z2 z3 z4 z5 z6 z7 z8 z9 z10
      go_wp2
      go_meet
      rw [E2.out]
      have q4 := put11_size w2 (w.heap.size + 1) t
      have q5 := keeps_put11 w2 (w.heap.size + 1) t
      have HO := HOw.out
      exact ⟨hT2.put11 t, hU2.keeps q5 hz2 (by omega), hC2.keeps q5 (by omega) (by omega), hK2.keeps q5 (fun g hg h => by have := HO g hg; omega), below_put11 hb2 (by omega) t, by rw [← q4] at hz2; exact hz2⟩
  case rest =>
    clear hT2 hU2 hC2 hK2 hb2 hz2
    obtain ⟨hT2, hU2, hC2, hK2, hb2, hz2⟩ := hcut
    clear w2
    generalize wc = w2 at *
    go_upto_if 31 with fail
    go_cut [] from 13 to 38 (fun wc => HasR 11 wc (w.heap.size + 1) (tubeAt k.tubes (c 1)) ∧ HasR 11 wc (w.heap.size + 2) (tubeAt k.tubes (c 2)) ∧ Has wc w.heap.size c ∧ BkAt wc b (.slice oa k.tubes.length cap) (.slice op k.poured.length cpp) k ∧ Below w.heap.size w wc ∧ w.heap.size + 2 < wc.heap.size)
    case first =>
      rcases findI_cases k.tubes (c 2) with ⟨e1, _, e2⟩ | ⟨hm, e1, e2⟩
      · have E2 := hid e2
        clear e2
        generalize tubeAt k.tubes (c 1) = tt at *
        generalize findI k.tubes (c 1) = kk at *
        generalize findI k.tubes (c 2) = oo at *
        go_wp2
        go_meet
        rw [E2.out]
        exact ⟨hT2, hU2, hC2, hK2, hb2, hz2⟩
      · obtain ⟨g, rfl, _, hcap, hgl, t0, t1, t2, t3, t4, t5, t6, t7, t8, t9, t10, _⟩ := hK2.tube hm
        have hc10 := hK2.ct
        have hfz := hU2.2
        have E2 := hid e2
        clear e2
        generalize tubeAt k.tubes (c 1) = tt at *
        generalize k.tubes[(findI k.tubes (c 2)).toNat] = t at *
        generalize findI k.tubes (c 1) = kk at *
        generalize findI k.tubes (c 2) = oo at *
        have hm' : oo < (k.tubes.length : Int) := by omega
        have z0 := hU2.1 0 (by omega)
        have z1 := hU2.1 1 (by omega)
        have z2 := hU2.1 2 (by omega)
        have z3 := hU2.1 3 (by omega)
        have z4 := hU2.1 4 (by omega)
        have z5 := hU2.1 5 (by omega)
        have z6 := hU2.1 6 (by omega)
        have z7 := hU2.1 7 (by omega)
        have z8 := hU2.1 8 (by omega)
        have z9 := hU2.1 9 (by omega)
        have z10 := hU2.1 10 (by omega)
        simp only [zeroT] at z0 z1 z2 z3 z4 z5 z6 z7 z8 z9 z10
        go_wp2
        go_meet
        rw [E2.out]
        have q4 := put11_size w2 (w.heap.size + 2) t
        have q5 := keeps_put11 w2 (w.heap.size + 2) t
        have HO := HOw.out
        exact ⟨hT2.keeps q5 (by omega) (by omega), hU2.put11 t, hC2.keeps q5 (by omega) (by omega), hK2.keeps q5 (fun g hg h => by have := HO g hg; omega), below_put11 hb2 (by omega) t, by rw [← q4] at hz2; exact hz2⟩
    case rest =>
      clear hT2 hU2 hC2 hK2 hb2 hz2
      obtain ⟨hT2, hU2, hC2, hK2, hb2, hz2⟩ := hcut
      clear w2
      generalize wc = w2 at *
      have c1 := hC2.1 1 (by omega)
      have c2 := hC2.1 2 (by omega)
      go_upto_if 46 with (go_at_call 70; refine (pair_any b _ _ k _ _ _ hK2).mono ?_; rintro e w2 ⟨rfl, rfl⟩)
      go_cut [9] from 13 to 54 (fun a wc => a = .int .i64 (pouredAt k.poured (c 1) (c 2)) ∧ wc = w2)
      case first =>
        rcases pairI_cases k.poured (c 1) (c 2) with ⟨e1, _, e2⟩ | ⟨hm, e1, e2⟩
        · have E2 := hid e2
          clear e2
          generalize pairI k.poured (c 1) (c 2) = pp at *
          go_wp2
          go_meet
          rw [E2.out]
          exact ⟨rfl, rfl⟩
        · obtain ⟨g, rfl, _, hcap, hgl, t0, t1, t2, _⟩ := hK2.pouredCell hm
          have hc11 := hK2.cp
          have E2 := hid e2
          clear e2
          generalize k.poured[(pairI k.poured (c 1) (c 2)).toNat] = t at *
          generalize pairI k.poured (c 1) (c 2) = pp at *
          have hm' : pp < (k.poured.length : Int) := by omega
          go_wp2
          go_meet
          rw [E2.out]
          exact ⟨rfl, rfl⟩
      case rest =>
        obtain ⟨rfl, rfl⟩ := hcut
        clear c1 c2
        have c0 := hC2.1 0 (by omega)
        have c1 := hC2.1 1 (by omega)
        have c2 := hC2.1 2 (by omega)
        have c3 := hC2.1 3 (by omega)
        have c4 := hC2.1 4 (by omega)
        have c5 := hC2.1 5 (by omega)
        have c6 := hC2.1 6 (by omega)
        have c7 := hC2.1 7 (by omega)
        have c8 := hC2.1 8 (by omega)
        go_wp2_with fail
        refine (gives_any b _ _ k _ _ hK2).mono ?_
        rintro e w2 ⟨rfl, rfl⟩
        have s13 := hsm.tubeAt (c 1) 3
        have s14 := hsm.tubeAt (c 1) 4
        have s23 := hsm.tubeAt (c 2) 3
        have spp := hsm.pouredAt (c 1) (c 2)
        have t3 := hT2.1 3 (by omega)
        have t4 := hT2.1 4 (by omega)
        have t6 := hT2.1 6 (by omega)
        have u3 := hU2.1 3 (by omega)
        have u6 := hU2.1 6 (by omega)
        have hwb : w.heap.size < w2.heap.size := by omega
        rcases kinds hk1 hk2 with hk | hk | hk | hk | hk | hk | hk | hk | hk | hk | hk | hk | hk | hk | hk | hk
        · have HE : Hid (errI k c = errNew k c) := by unfold errI; rw [hk]; exact hid rfl
          unfold errNew at HE
          obtain ⟨box, hbox⟩ := Int.eq_ofNat_of_zero_le h0
          rw [hbox, Int.toNat_natCast] at HE
          have hside := hK2.side box (by omega)
          have hbt : (box : Int) < 10 := by omega
          generalize k.sides box = sd at *
          generalize tubeAt k.tubes (c 1) 6 = t16 at *
          generalize tubeAt k.tubes (c 1) 3 = t13 at *
          generalize tubeAt k.tubes (c 1) 4 = t14 at *
          generalize tubeAt k.tubes (c 2) 6 = t26 at *
          generalize tubeAt k.tubes (c 2) 3 = t23 at *
          generalize pouredAt k.poured (c 1) (c 2) = pr at *
          generalize givesB k.tubes (c 3) = gv at *
          generalize findI k.tubes (c 1) = kk at *
          generalize findI k.tubes (c 2) = oo at *
          go_wp2_with fail
          go_quiet (fail)
          go_wp2
          all_goals
            go_ret
            refine ⟨ret_int ?_, below_drewN hb2 _⟩
            rw [HE.out]
            (repeat' split) <;> first | rfl | omega | (exfalso; simp_all; done)
        · have HE : Hid (errI k c = errReg k c) := by unfold errI; rw [hk]; exact hid rfl
          unfold errReg at HE
          have HM := misplaced_any b _ _ k (c 1) c w2 hK2 h0 h9
          rw [hk] at HM
          have HMI := hid HM
          clear HM
          generalize tubeAt k.tubes (c 1) 6 = t16 at *
          generalize tubeAt k.tubes (c 1) 3 = t13 at *
          generalize tubeAt k.tubes (c 1) 4 = t14 at *
          generalize tubeAt k.tubes (c 2) 6 = t26 at *
          generalize tubeAt k.tubes (c 2) 3 = t23 at *
          generalize pouredAt k.poured (c 1) (c 2) = pr at *
          generalize givesB k.tubes (c 3) = gv at *
          generalize findI k.tubes (c 1) = kk at *
          generalize findI k.tubes (c 2) = oo at *
          go_wp2_with (go_at_call 72; refine HMI.out.mono ?_; rintro e w3 ⟨rfl, hb3⟩)
          all_goals
            go_ret
            first
              | (refine ⟨ret_int ?_, hb2.trans (hb3.mono (Nat.le_of_lt hwb))⟩; rw [HE.out]; (repeat' split) <;> first | rfl | omega | (exfalso; simp_all; done))
              | (refine ⟨ret_int ?_, hb2⟩; rw [HE.out]; (repeat' split) <;> first | rfl | omega | (exfalso; simp_all; done))
        · have HE : Hid (errI k c = errMov k c 1) := by unfold errI; rw [hk]; exact hid rfl
          unfold errMov at HE
          have HM := misplaced_any b _ _ k (c 1) c w2 hK2 h0 h9
          rw [hk] at HM
          have HMI := hid HM
          clear HM
          generalize tubeAt k.tubes (c 1) 6 = t16 at *
          generalize tubeAt k.tubes (c 1) 3 = t13 at *
          generalize tubeAt k.tubes (c 1) 4 = t14 at *
          generalize tubeAt k.tubes (c 2) 6 = t26 at *
          generalize tubeAt k.tubes (c 2) 3 = t23 at *
          generalize pouredAt k.poured (c 1) (c 2) = pr at *
          generalize givesB k.tubes (c 3) = gv at *
          generalize findI k.tubes (c 1) = kk at *
          generalize findI k.tubes (c 2) = oo at *
          go_wp2_with (go_at_call 72; refine HMI.out.mono ?_; rintro e w3 ⟨rfl, hb3⟩)
          all_goals
            go_ret
            first
              | (refine ⟨ret_int ?_, hb2.trans (hb3.mono (Nat.le_of_lt hwb))⟩; rw [HE.out]; (repeat' split) <;> first | rfl | omega | (exfalso; simp_all; done))
              | (refine ⟨ret_int ?_, hb2⟩; rw [HE.out]; (repeat' split) <;> first | rfl | omega | (exfalso; simp_all; done))
        · have HE : Hid (errI k c = errAli k c) := by unfold errI; rw [hk]; exact hid rfl
          unfold errAli at HE
          have HM := misplaced_any b _ _ k (c 2) c w2 hK2 h0 h9
          rw [hk] at HM
          have HMI := hid HM
          clear HM
          generalize tubeAt k.tubes (c 1) 6 = t16 at *
          generalize tubeAt k.tubes (c 1) 3 = t13 at *
          generalize tubeAt k.tubes (c 1) 4 = t14 at *
          generalize tubeAt k.tubes (c 2) 6 = t26 at *
          generalize tubeAt k.tubes (c 2) 3 = t23 at *
          generalize pouredAt k.poured (c 1) (c 2) = pr at *
          generalize givesB k.tubes (c 3) = gv at *
          generalize findI k.tubes (c 1) = kk at *
          generalize findI k.tubes (c 2) = oo at *
          go_wp2_with (go_at_call 72; refine HMI.out.mono ?_; rintro e w3 ⟨rfl, hb3⟩)
          all_goals
            go_ret
            first
              | (refine ⟨ret_int ?_, hb2.trans (hb3.mono (Nat.le_of_lt hwb))⟩; rw [HE.out]; (repeat' split) <;> first | rfl | omega | (exfalso; simp_all; done))
              | (refine ⟨ret_int ?_, hb2⟩; rw [HE.out]; (repeat' split) <;> first | rfl | omega | (exfalso; simp_all; done))
        · have HE : Hid (errI k c = errPou k c) := by unfold errI; rw [hk]; exact hid rfl
          unfold errPou at HE
          generalize tubeAt k.tubes (c 1) 6 = t16 at *
          generalize tubeAt k.tubes (c 1) 3 = t13 at *
          generalize tubeAt k.tubes (c 1) 4 = t14 at *
          generalize tubeAt k.tubes (c 2) 6 = t26 at *
          generalize tubeAt k.tubes (c 2) 3 = t23 at *
          generalize pouredAt k.poured (c 1) (c 2) = pr at *
          generalize givesB k.tubes (c 3) = gv at *
          generalize findI k.tubes (c 1) = kk at *
          generalize findI k.tubes (c 2) = oo at *
          go_wp2
          all_goals
            go_ret
            refine ⟨ret_int ?_, hb2⟩
            rw [HE.out]
            (repeat' split) <;> first | rfl | omega | (exfalso; simp_all; done)
        · have HE : Hid (errI k c = errUse k c) := by unfold errI; rw [hk]; exact hid rfl
          unfold errUse at HE
          generalize tubeAt k.tubes (c 1) 6 = t16 at *
          generalize tubeAt k.tubes (c 1) 3 = t13 at *
          generalize tubeAt k.tubes (c 1) 4 = t14 at *
          generalize tubeAt k.tubes (c 2) 6 = t26 at *
          generalize tubeAt k.tubes (c 2) 3 = t23 at *
          generalize pouredAt k.poured (c 1) (c 2) = pr at *
          generalize givesB k.tubes (c 3) = gv at *
          generalize findI k.tubes (c 1) = kk at *
          generalize findI k.tubes (c 2) = oo at *
          go_wp2
          all_goals
            go_ret
            refine ⟨ret_int ?_, hb2⟩
            rw [HE.out]
            (repeat' split) <;> first | rfl | omega | (exfalso; simp_all; done)
        · have HE : Hid (errI k c = errTak k c) := by unfold errI; rw [hk]; exact hid rfl
          unfold errTak at HE
          generalize tubeAt k.tubes (c 1) 6 = t16 at *
          generalize tubeAt k.tubes (c 1) 3 = t13 at *
          generalize tubeAt k.tubes (c 1) 4 = t14 at *
          generalize tubeAt k.tubes (c 2) 6 = t26 at *
          generalize tubeAt k.tubes (c 2) 3 = t23 at *
          generalize pouredAt k.poured (c 1) (c 2) = pr at *
          generalize givesB k.tubes (c 3) = gv at *
          generalize findI k.tubes (c 1) = kk at *
          generalize findI k.tubes (c 2) = oo at *
          go_wp2
          all_goals
            go_ret
            refine ⟨ret_int ?_, hb2⟩
            rw [HE.out]
            (repeat' split) <;> first | rfl | omega | (exfalso; simp_all; done)
        · have HE : Hid (errI k c = errMov k c 2) := by unfold errI; rw [hk]; exact hid rfl
          unfold errMov at HE
          have HM := misplaced_any b _ _ k (c 1) c w2 hK2 h0 h9
          rw [hk] at HM
          have HMI := hid HM
          clear HM
          generalize tubeAt k.tubes (c 1) 6 = t16 at *
          generalize tubeAt k.tubes (c 1) 3 = t13 at *
          generalize tubeAt k.tubes (c 1) 4 = t14 at *
          generalize tubeAt k.tubes (c 2) 6 = t26 at *
          generalize tubeAt k.tubes (c 2) 3 = t23 at *
          generalize pouredAt k.poured (c 1) (c 2) = pr at *
          generalize givesB k.tubes (c 3) = gv at *
          generalize findI k.tubes (c 1) = kk at *
          generalize findI k.tubes (c 2) = oo at *
          go_wp2_with (go_at_call 72; refine HMI.out.mono ?_; rintro e w3 ⟨rfl, hb3⟩)
          all_goals
            go_ret
            first
              | (refine ⟨ret_int ?_, hb2.trans (hb3.mono (Nat.le_of_lt hwb))⟩; rw [HE.out]; (repeat' split) <;> first | rfl | omega | (exfalso; simp_all; done))
              | (refine ⟨ret_int ?_, hb2⟩; rw [HE.out]; (repeat' split) <;> first | rfl | omega | (exfalso; simp_all; done))
        · have HE : Hid (errI k c = errDon k c) := by unfold errI; rw [hk]; exact hid rfl
          unfold errDon at HE
          generalize tubeAt k.tubes (c 1) 6 = t16 at *
          generalize tubeAt k.tubes (c 1) 3 = t13 at *
          generalize tubeAt k.tubes (c 1) 4 = t14 at *
          generalize tubeAt k.tubes (c 2) 6 = t26 at *
          generalize tubeAt k.tubes (c 2) 3 = t23 at *
          generalize pouredAt k.poured (c 1) (c 2) = pr at *
          generalize givesB k.tubes (c 3) = gv at *
          generalize findI k.tubes (c 1) = kk at *
          generalize findI k.tubes (c 2) = oo at *
          go_wp2
          all_goals
            go_ret
            refine ⟨ret_int ?_, hb2⟩
            rw [HE.out]
            (repeat' split) <;> first | rfl | omega | (exfalso; simp_all; done)
        · have HE : Hid (errI k c = errBox k c) := by unfold errI; rw [hk]; exact hid rfl
          unfold errBox at HE
          obtain ⟨box, hbox⟩ := Int.eq_ofNat_of_zero_le h0
          rw [hbox, Int.toNat_natCast] at HE
          have hside := hK2.side box (by omega)
          have hbt : (box : Int) < 10 := by omega
          generalize k.sides box = sd at *
          generalize tubeAt k.tubes (c 1) 6 = t16 at *
          generalize tubeAt k.tubes (c 1) 3 = t13 at *
          generalize tubeAt k.tubes (c 1) 4 = t14 at *
          generalize tubeAt k.tubes (c 2) 6 = t26 at *
          generalize tubeAt k.tubes (c 2) 3 = t23 at *
          generalize pouredAt k.poured (c 1) (c 2) = pr at *
          generalize givesB k.tubes (c 3) = gv at *
          generalize findI k.tubes (c 1) = kk at *
          generalize findI k.tubes (c 2) = oo at *
          go_wp2_with fail
          go_quiet (fail)
          go_wp2
          all_goals
            go_ret
            refine ⟨ret_int ?_, below_drewN hb2 _⟩
            rw [HE.out]
            (repeat' split) <;> first | rfl | omega | (exfalso; simp_all; done)
        · have HE : Hid (errI k c = errBox k c) := by unfold errI; rw [hk]; exact hid rfl
          unfold errBox at HE
          obtain ⟨box, hbox⟩ := Int.eq_ofNat_of_zero_le h0
          rw [hbox, Int.toNat_natCast] at HE
          have hside := hK2.side box (by omega)
          have hbt : (box : Int) < 10 := by omega
          generalize k.sides box = sd at *
          generalize tubeAt k.tubes (c 1) 6 = t16 at *
          generalize tubeAt k.tubes (c 1) 3 = t13 at *
          generalize tubeAt k.tubes (c 1) 4 = t14 at *
          generalize tubeAt k.tubes (c 2) 6 = t26 at *
          generalize tubeAt k.tubes (c 2) 3 = t23 at *
          generalize pouredAt k.poured (c 1) (c 2) = pr at *
          generalize givesB k.tubes (c 3) = gv at *
          generalize findI k.tubes (c 1) = kk at *
          generalize findI k.tubes (c 2) = oo at *
          go_wp2_with fail
          go_quiet (fail)
          go_wp2
          all_goals
            go_ret
            refine ⟨ret_int ?_, below_drewN hb2 _⟩
            rw [HE.out]
            (repeat' split) <;> first | rfl | omega | (exfalso; simp_all; done)
        · have HE : Hid (errI k c = errTub k c) := by unfold errI; rw [hk]; exact hid rfl
          unfold errTub at HE
          generalize tubeAt k.tubes (c 1) 6 = t16 at *
          generalize tubeAt k.tubes (c 1) 3 = t13 at *
          generalize tubeAt k.tubes (c 1) 4 = t14 at *
          generalize tubeAt k.tubes (c 2) 6 = t26 at *
          generalize tubeAt k.tubes (c 2) 3 = t23 at *
          generalize pouredAt k.poured (c 1) (c 2) = pr at *
          generalize givesB k.tubes (c 3) = gv at *
          generalize findI k.tubes (c 1) = kk at *
          generalize findI k.tubes (c 2) = oo at *
          go_wp2
          all_goals
            go_ret
            refine ⟨ret_int ?_, hb2⟩
            rw [HE.out]
            (repeat' split) <;> first | rfl | omega | (exfalso; simp_all; done)
        · have HE : Hid (errI k c = errBox k c) := by unfold errI; rw [hk]; exact hid rfl
          unfold errBox at HE
          obtain ⟨box, hbox⟩ := Int.eq_ofNat_of_zero_le h0
          rw [hbox, Int.toNat_natCast] at HE
          have hside := hK2.side box (by omega)
          have hbt : (box : Int) < 10 := by omega
          generalize k.sides box = sd at *
          generalize tubeAt k.tubes (c 1) 6 = t16 at *
          generalize tubeAt k.tubes (c 1) 3 = t13 at *
          generalize tubeAt k.tubes (c 1) 4 = t14 at *
          generalize tubeAt k.tubes (c 2) 6 = t26 at *
          generalize tubeAt k.tubes (c 2) 3 = t23 at *
          generalize pouredAt k.poured (c 1) (c 2) = pr at *
          generalize givesB k.tubes (c 3) = gv at *
          generalize findI k.tubes (c 1) = kk at *
          generalize findI k.tubes (c 2) = oo at *
          go_wp2_with fail
          go_quiet (fail)
          go_wp2
          all_goals
            go_ret
            refine ⟨ret_int ?_, below_drewN hb2 _⟩
            rw [HE.out]
            (repeat' split) <;> first | rfl | omega | (exfalso; simp_all; done)
        · have HE : Hid (errI k c = errDon k c) := by unfold errI; rw [hk]; exact hid rfl
          unfold errDon at HE
          generalize tubeAt k.tubes (c 1) 6 = t16 at *
          generalize tubeAt k.tubes (c 1) 3 = t13 at *
          generalize tubeAt k.tubes (c 1) 4 = t14 at *
          generalize tubeAt k.tubes (c 2) 6 = t26 at *
          generalize tubeAt k.tubes (c 2) 3 = t23 at *
          generalize pouredAt k.poured (c 1) (c 2) = pr at *
          generalize givesB k.tubes (c 3) = gv at *
          generalize findI k.tubes (c 1) = kk at *
          generalize findI k.tubes (c 2) = oo at *
          go_wp2
          all_goals
            go_ret
            refine ⟨ret_int ?_, hb2⟩
            rw [HE.out]
            (repeat' split) <;> first | rfl | omega | (exfalso; simp_all; done)
        · have HE : Hid (errI k c = errTub k c) := by unfold errI; rw [hk]; exact hid rfl
          unfold errTub at HE
          generalize tubeAt k.tubes (c 1) 6 = t16 at *
          generalize tubeAt k.tubes (c 1) 3 = t13 at *
          generalize tubeAt k.tubes (c 1) 4 = t14 at *
          generalize tubeAt k.tubes (c 2) 6 = t26 at *
          generalize tubeAt k.tubes (c 2) 3 = t23 at *
          generalize pouredAt k.poured (c 1) (c 2) = pr at *
          generalize givesB k.tubes (c 3) = gv at *
          generalize findI k.tubes (c 1) = kk at *
          generalize findI k.tubes (c 2) = oo at *
          go_wp2
          all_goals
            go_ret
            refine ⟨ret_int ?_, hb2⟩
            rw [HE.out]
            (repeat' split) <;> first | rfl | omega | (exfalso; simp_all; done)
        · have HE : Hid (errI k c = errTub k c) := by unfold errI; rw [hk]; exact hid rfl
          unfold errTub at HE
          generalize tubeAt k.tubes (c 1) 6 = t16 at *
          generalize tubeAt k.tubes (c 1) 3 = t13 at *
          generalize tubeAt k.tubes (c 1) 4 = t14 at *
          generalize tubeAt k.tubes (c 2) 6 = t26 at *
          generalize tubeAt k.tubes (c 2) 3 = t23 at *
          generalize pouredAt k.poured (c 1) (c 2) = pr at *
          generalize givesB k.tubes (c 3) = gv at *
          generalize findI k.tubes (c 1) = kk at *
          generalize findI k.tubes (c 2) = oo at *
          go_wp2
          all_goals
            go_ret
            refine ⟨ret_int ?_, hb2⟩
            rw [HE.out]
            (repeat' split) <;> first | rfl | omega | (exfalso; simp_all; done)

end Go.Proofs.YtbpnllhhmookcaaGreatDoor
