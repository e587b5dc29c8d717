/- perform. -/
import Derived.Test.YtbpnllhhmookcaaGreatDoorKk25
import Derived.Test.YtbpnllhhmookcaaGreatDoorKk26
import Derived.Test.YtbpnllhhmookcaaGreatDoorKk27
import Derived.Test.YtbpnllhhmookcaaGreatDoorKk28
namespace Go.Proofs.YtbpnllhhmookcaaGreatDoor
open Go.RowKit Go.Shelf

/-- What a command that is not refused may count on. -/
structure Led.Can (L : Led) (m : Cm) : Prop where
  k1 : m.k = 3 ∨ m.k = 7 ∨ m.k = 8 → ∃ q, L.tube m.t = some q
  k4 : m.k = 4 → m.t < m.o ∧ ∃ q, L.tube m.t = some q ∧ m.v ≤ q.left ∧ L.pouredN m.t m.o + m.v ≤ 1000000
  k5 : m.k = 5 → m.t < m.o ∧ ∃ q q2, L.tube m.t = some q ∧ L.tube m.o = some q2 ∧ m.v ≤ q.left ∧ q2.left + m.v ≤ 1000000 ∧ L.pouredN m.t m.o + m.v ≤ 1000000
  k6 : m.k = 6 → ∃ q, L.tube m.t = some q ∧ m.v ≤ q.left ∧ q.used + m.v ≤ 1000000
  k10 : m.k = 10 ∨ m.k = 11 → ∀ t ∈ L.ts.filter (inBox m.b), t.2.x < L.sideN m.b ∧ t.2.y < L.sideN m.b

/-- How perform ends. -/
def PerfEnds (b : Nat) (L : Led) (zs : List Int) (w : World) (e : Ending) (w' : World) : Prop := ∃ v, e = .returned v ∧ IntsIn w' v zs ∧ (∃ n₁, TxL n₁ w' b L) ∧ Keeps (fun k => k = b) w w'

theorem perf_nil {b : Nat} {L : Led} {w w1 w' : World} (hB : Below w.heap.size w w1) {n₁ : Nat} (hT : TxL n₁ w' b L) (hk : Keeps (fun k => k = b) w1 w') : PerfEnds b L [] w (.returned (.slice none 0 0)) w' :=
  ⟨_, rfl, .inr ⟨rfl, rfl⟩, ⟨_, hT⟩, (below_toKeeps hB _).trans hk⟩
theorem perf_put {b : Nat} {L : Led} {w w1 w' : World} {e : Ending} (hB : Below w.heap.size w w1) (hP : PutL b L w1 e w') : PerfEnds b L [] w (.returned (.slice none 0 0)) w' := perf_nil hB hP.2.1 hP.2.2
theorem perf_tell {b n₀ : Nat} {L : Led} {w w1 w' : World} {v : Value} {zs : List Int} (hB : Below w.heap.size w w1) (hT : TxL n₀ w b L) (hi : IntsIn w' v zs) (hb : Below w1.heap.size w1 w') : PerfEnds b L zs w (.returned v) w' := by
  have h := hB.trans (hb.mono hB.size)
  exact ⟨v, rfl, hi, ⟨n₀, hT.below h⟩, below_toKeeps h _⟩

theorem TxL.below' {n₀ b : Nat} {L : Led} {w w' : World} (h : TxL n₀ w b L) (hk : Keeps (fun _ => False) w w') : TxL n₀ w' b L := h.below (hk.toBelow (fun _ h => h.elim) (Nat.le_refl _))

section
variable {n₀ b : Nat} {m : Cm} {L : Led} {w : World}

set_option maxRecDepth 8000 in
set_option maxHeartbeats 16000000 in
theorem perform_any (hm : m.Ok) (hT : TxL n₀ w b L) (hnb : n₀ ≤ b) (hf : L.kvs.length < 3000) (hC : L.Can m) :
    Calls Tryz.prog 86 #[.pointer (some ⟨b, 0, none⟩), m.val] w (PerfEnds b (L.act m) (L.tell m) w) := by
  have hb0 : Below w.heap.size w (w.alloc (.cells #[.int .i64 m.k, .int .i64 m.t, .int .i64 m.o, .int .i64 m.d, .int .i64 m.v, .int .i64 m.b, .int .i64 m.x, .int .i64 m.y, .int .i64 m.n] 31)) := (Below.refl _ w).alloc (Nat.le_refl _) _
  have hmf := Run.makeFunc
  have hT1 := hT.below hb0
  have hk := hm.k
  have HB := hid hb0
  have hbl : b < w.heap.size := by obtain ⟨⟨⟨r, hB, hI⟩, hf⟩, _, _⟩ := hT; exact hB.lt
  have hn0 : n₀ ≤ w.heap.size := by obtain ⟨⟨⟨r, hB, hI⟩, hf⟩, _, _⟩ := hT; exact hI.2.1
  have hok := hT.ok
  clear hb0
  have hkk : m.k = 1 ∨ m.k = 2 ∨ m.k = 3 ∨ m.k = 4 ∨ m.k = 5 ∨ m.k = 6 ∨ m.k = 7 ∨ m.k = 8 ∨ m.k = 9 ∨ m.k = 10 ∨ m.k = 11 ∨ m.k = 12 ∨ m.k = 13 ∨ m.k = 14 ∨ m.k = 15 ∨ m.k = 16 := by omega
  rcases hkk with e | e | e | e | e | e | e | e | e | e | e | e | e | e | e | e
  case inl =>
    have HS := hid (setSide_led n₀ b m.b m.n L _ hT1 ⟨hm.b1 (by omega), hm.b⟩ ⟨hm.n1 (by omega), hm.n⟩ (by omega))
    have HA := hid (show L.act m = { L with bs := insB L.bs m.b m.n } by simp [Led.act, e])
    have HN := hid (show L.tell m = [] by simp [Led.tell, e])
    have b1 : (((m.k : Nat) : Int) == 1) = true := beq_iff_eq.2 (by omega)
    unfold Cm.val at *
    clear e hC hT hT1 hok hm
    go_enter Tryz.func86, Tryz.ntmps86
    go_wp2_with (go_at_call 100; refine HS.out.mono ?_; clear HS; intro e w2 hP; have he := hP.1; subst he)
    go_ret
    rw [HA.out, HN.out]
    exact perf_put HB.out hP
  case inr.inl =>
    have HS := hid (register_any n₀ b m hm (hm.t1 (by omega)) (hm.d1 (by omega)) L _ hT1 (by omega))
    have HA := hid (show L.act m = L.putT m.t ⟨m.x, m.y, m.b, m.d, 1, 0, m.v, m.v, 0, 0⟩ by simp [Led.act, e])
    have HN := hid (show L.tell m = [] by simp [Led.tell, e])
    have b1 : (((m.k : Nat) : Int) == 1) = false := beq_eq_false_iff_ne.2 (by omega)
    have b2 : (((m.k : Nat) : Int) == 2) = true := beq_iff_eq.2 (by omega)
    unfold Cm.val at *
    clear e hC hT hT1 hok hm
    go_enter Tryz.func86, Tryz.ntmps86
    go_wp2_with (go_at_call 101; refine HS.out.mono ?_; clear HS; intro e w2 hP; have he := hP.1; subst he)
    go_ret
    rw [HA.out, HN.out]
    exact perf_put HB.out hP
  case inr.inr.inl =>
    obtain ⟨q, hq⟩ := hC.k1 (by omega)
    have hqG : q.Good := (hok.t1 _ ((Led.tube_mem hok).1 hq)).2.2
    have hqD : L.tubeD m.t = q := by unfold Led.tubeD; rw [hq]; rfl
    have hmb := hm.b
    have hmx := hm.x
    have hmy := hm.y
    have HS := hid (move_any n₀ b m hm (hm.t1 (by omega)) L _ hT1 (by omega) q hq ⟨by show m.x < 5; omega, by show m.y < 5; omega, by show m.b ≤ 9; omega, hqG.donor, by show 1 ≤ 1 ∧ 1 ≤ 3; omega, hqG.thaws, hqG.began, hqG.left, hqG.used, hqG.lost⟩)
    have HA := hid (show L.act m = L.putT m.t (q.stored m.b m.x m.y) by simp [Led.act, e, hqD])
    clear hqG hqD hq
    have HN := hid (show L.tell m = [] by simp [Led.tell, e])
    have b1 : (((m.k : Nat) : Int) == 1) = false := beq_eq_false_iff_ne.2 (by omega)
    have b2 : (((m.k : Nat) : Int) == 2) = false := beq_eq_false_iff_ne.2 (by omega)
    have b3 : (((m.k : Nat) : Int) == 3) = true := beq_iff_eq.2 (by omega)
    unfold Cm.val at *
    clear e hC hT hT1 hok hm
    go_enter Tryz.func86, Tryz.ntmps86
    go_wp2_with (go_at_call 102; refine HS.out.mono ?_; clear HS; intro e w2 hP; have he := hP.1; subst he)
    go_ret
    rw [HA.out, HN.out]
    exact perf_put HB.out hP
  case inr.inr.inr.inl =>
    obtain ⟨ho, q, hq, hv, hp⟩ := hC.k4 e
    have hqD : L.tubeD m.t = q := by unfold Led.tubeD; rw [hq]; rfl
    have HS := hid (aliquot_any n₀ b m hm ⟨hm.t1 (by omega), ho⟩ (hm.v1 (by omega)) L _ hT1 (by omega) q hq hv hp)
    have HA := hid (show L.act m = (L.putT m.o ⟨m.x, m.y, m.b, q.donor, 1, 0, 0, 0, 0, 0⟩).pourL m by simp [Led.act, e, hqD])
    clear hqD hq
    have HN := hid (show L.tell m = [] by simp [Led.tell, e])
    have b1 : (((m.k : Nat) : Int) == 1) = false := beq_eq_false_iff_ne.2 (by omega)
    have b2 : (((m.k : Nat) : Int) == 2) = false := beq_eq_false_iff_ne.2 (by omega)
    have b3 : (((m.k : Nat) : Int) == 3) = false := beq_eq_false_iff_ne.2 (by omega)
    have b4 : (((m.k : Nat) : Int) == 4) = true := beq_iff_eq.2 (by omega)
    unfold Cm.val at *
    clear e hC hT hT1 hok hm
    go_enter Tryz.func86, Tryz.ntmps86
    go_wp2_with (go_at_call 103; refine HS.out.mono ?_; clear HS; intro e w2 hP; have he := hP.1; subst he)
    go_ret
    rw [HA.out, HN.out]
    exact perf_put HB.out hP
  case inr.inr.inr.inr.inl =>
    obtain ⟨ho, q, q2, hq, hq2, hv, hv2, hp⟩ := hC.k5 e
    have HS := hid (pour_any n₀ b m hm ⟨hm.t1 (by omega), ho⟩ (hm.v1 (by omega)) L _ hT1 (by omega) q q2 hq hq2 hv hv2 hp)
    have HA := hid (show L.act m = L.pourL m by simp [Led.act, e])
    clear hq hq2
    have HN := hid (show L.tell m = [] by simp [Led.tell, e])
    have b1 : (((m.k : Nat) : Int) == 1) = false := beq_eq_false_iff_ne.2 (by omega)
    have b2 : (((m.k : Nat) : Int) == 2) = false := beq_eq_false_iff_ne.2 (by omega)
    have b3 : (((m.k : Nat) : Int) == 3) = false := beq_eq_false_iff_ne.2 (by omega)
    have b4 : (((m.k : Nat) : Int) == 4) = false := beq_eq_false_iff_ne.2 (by omega)
    have b5 : (((m.k : Nat) : Int) == 5) = true := beq_iff_eq.2 (by omega)
    unfold Cm.val at *
    clear e hC hT hT1 hok hm
    go_enter Tryz.func86, Tryz.ntmps86
    go_wp2_with (go_at_call 104; refine HS.out.mono ?_; clear HS; intro e w2 hP; have he := hP.1; subst he)
    go_ret
    rw [HA.out, HN.out]
    exact perf_put HB.out hP
  case inr.inr.inr.inr.inr.inl =>
    obtain ⟨q, hq, hv, hu⟩ := hC.k6 e
    have hqG : q.Good := (hok.t1 _ ((Led.tube_mem hok).1 hq)).2.2
    have hqD : L.tubeD m.t = q := by unfold Led.tubeD; rw [hq]; rfl
    have HS := hid (use_any n₀ b m hm (hm.t1 (by omega)) L _ hT1 (by omega) q hq hv ⟨hqG.x, hqG.y, hqG.box, hqG.donor, hqG.status, hqG.thaws, hqG.began, by have := hqG.left; show q.left - m.v ≤ 1000000; omega, hu, hqG.lost⟩)
    have HA := hid (show L.act m = L.putT m.t (q.usedBy m.v) by simp [Led.act, e, hqD])
    clear hqG hqD hq
    have HN := hid (show L.tell m = [] by simp [Led.tell, e])
    have b1 : (((m.k : Nat) : Int) == 1) = false := beq_eq_false_iff_ne.2 (by omega)
    have b2 : (((m.k : Nat) : Int) == 2) = false := beq_eq_false_iff_ne.2 (by omega)
    have b3 : (((m.k : Nat) : Int) == 3) = false := beq_eq_false_iff_ne.2 (by omega)
    have b4 : (((m.k : Nat) : Int) == 4) = false := beq_eq_false_iff_ne.2 (by omega)
    have b5 : (((m.k : Nat) : Int) == 5) = false := beq_eq_false_iff_ne.2 (by omega)
    have b6 : (((m.k : Nat) : Int) == 6) = true := beq_iff_eq.2 (by omega)
    unfold Cm.val at *
    clear e hC hT hT1 hok hm
    go_enter Tryz.func86, Tryz.ntmps86
    go_wp2_with (go_at_call 105; refine HS.out.mono ?_; clear HS; intro e w2 hP; have he := hP.1; subst he)
    go_ret
    rw [HA.out, HN.out]
    exact perf_put HB.out hP
  case inr.inr.inr.inr.inr.inr.inl =>
    obtain ⟨q, hq⟩ := hC.k1 (by omega)
    have hqG : q.Good := (hok.t1 _ ((Led.tube_mem hok).1 hq)).2.2
    have hqD : L.tubeD m.t = q := by unfold Led.tubeD; rw [hq]; rfl
    have HS := hid (take_any n₀ b m hm (hm.t1 (by omega)) L _ hT1 (by omega) q hq ⟨by show (0 : Nat) < 5; omega, by show (0 : Nat) < 5; omega, by show (0 : Nat) ≤ 9; omega, hqG.donor, by show 1 ≤ 2 ∧ 2 ≤ 3; omega, hqG.thaws, hqG.began, hqG.left, hqG.used, hqG.lost⟩)
    have HA := hid (show L.act m = L.putT m.t (q.gone 2) by simp [Led.act, e, hqD])
    clear hqG hqD hq
    have HN := hid (show L.tell m = [] by simp [Led.tell, e])
    have b1 : (((m.k : Nat) : Int) == 1) = false := beq_eq_false_iff_ne.2 (by omega)
    have b2 : (((m.k : Nat) : Int) == 2) = false := beq_eq_false_iff_ne.2 (by omega)
    have b3 : (((m.k : Nat) : Int) == 3) = false := beq_eq_false_iff_ne.2 (by omega)
    have b4 : (((m.k : Nat) : Int) == 4) = false := beq_eq_false_iff_ne.2 (by omega)
    have b5 : (((m.k : Nat) : Int) == 5) = false := beq_eq_false_iff_ne.2 (by omega)
    have b6 : (((m.k : Nat) : Int) == 6) = false := beq_eq_false_iff_ne.2 (by omega)
    have b7 : (((m.k : Nat) : Int) == 7) = true := beq_iff_eq.2 (by omega)
    unfold Cm.val at *
    clear e hC hT hT1 hok hm
    go_enter Tryz.func86, Tryz.ntmps86
    go_wp2_with (go_at_call 106; refine HS.out.mono ?_; clear HS; intro e w2 hP; have he := hP.1; subst he)
    go_ret
    rw [HA.out, HN.out]
    exact perf_put HB.out hP
  case inr.inr.inr.inr.inr.inr.inr.inl =>
    obtain ⟨q, hq⟩ := hC.k1 (by omega)
    have hqG : q.Good := (hok.t1 _ ((Led.tube_mem hok).1 hq)).2.2
    have hqD : L.tubeD m.t = q := by unfold Led.tubeD; rw [hq]; rfl
    have hmb := hm.b
    have hmx := hm.x
    have hmy := hm.y
    have HS := hid (give_any n₀ b m hm (hm.t1 (by omega)) L _ hT1 (by omega) q hq ⟨by show m.x < 5; omega, by show m.y < 5; omega, by show m.b ≤ 9; omega, hqG.donor, by show 1 ≤ 1 ∧ 1 ≤ 3; omega, by show min (q.thaws + 1) 9 ≤ 9; omega, hqG.began, hqG.left, hqG.used, hqG.lost⟩)
    have HA := hid (show L.act m = L.putT m.t (q.backAt m.b m.x m.y) by simp [Led.act, e, hqD])
    clear hqG hqD hq
    have HN := hid (show L.tell m = [] by simp [Led.tell, e])
    have b1 : (((m.k : Nat) : Int) == 1) = false := beq_eq_false_iff_ne.2 (by omega)
    have b2 : (((m.k : Nat) : Int) == 2) = false := beq_eq_false_iff_ne.2 (by omega)
    have b3 : (((m.k : Nat) : Int) == 3) = false := beq_eq_false_iff_ne.2 (by omega)
    have b4 : (((m.k : Nat) : Int) == 4) = false := beq_eq_false_iff_ne.2 (by omega)
    have b5 : (((m.k : Nat) : Int) == 5) = false := beq_eq_false_iff_ne.2 (by omega)
    have b6 : (((m.k : Nat) : Int) == 6) = false := beq_eq_false_iff_ne.2 (by omega)
    have b7 : (((m.k : Nat) : Int) == 7) = false := beq_eq_false_iff_ne.2 (by omega)
    have b8 : (((m.k : Nat) : Int) == 8) = true := beq_iff_eq.2 (by omega)
    unfold Cm.val at *
    clear e hC hT hT1 hok hm
    go_enter Tryz.func86, Tryz.ntmps86
    go_wp2_with (go_at_call 107; refine HS.out.mono ?_; clear HS; intro e w2 hP; have he := hP.1; subst he)
    go_ret
    rw [HA.out, HN.out]
    exact perf_put HB.out hP
  case inr.inr.inr.inr.inr.inr.inr.inr.inl =>
    have HS := hid (withdraw_led n₀ b m hm L _ hT1 hnb hf)
    have HA := hid (show L.act m = L.chg PT.lostAll (L.hits m.d) by simp [Led.act, e])
    have HN := hid (show L.tell m = [((L.hits m.d).length : Int)] by simp [Led.tell, e])
    have b1 : (((m.k : Nat) : Int) == 1) = false := beq_eq_false_iff_ne.2 (by omega)
    have b2 : (((m.k : Nat) : Int) == 2) = false := beq_eq_false_iff_ne.2 (by omega)
    have b3 : (((m.k : Nat) : Int) == 3) = false := beq_eq_false_iff_ne.2 (by omega)
    have b4 : (((m.k : Nat) : Int) == 4) = false := beq_eq_false_iff_ne.2 (by omega)
    have b5 : (((m.k : Nat) : Int) == 5) = false := beq_eq_false_iff_ne.2 (by omega)
    have b6 : (((m.k : Nat) : Int) == 6) = false := beq_eq_false_iff_ne.2 (by omega)
    have b7 : (((m.k : Nat) : Int) == 7) = false := beq_eq_false_iff_ne.2 (by omega)
    have b8 : (((m.k : Nat) : Int) == 8) = false := beq_eq_false_iff_ne.2 (by omega)
    have b9 : (((m.k : Nat) : Int) == 9) = true := beq_iff_eq.2 (by omega)
    unfold Cm.val at *
    clear e hC hT hT1 hok hm
    go_enter Tryz.func86, Tryz.ntmps86
    go_wp2_with (go_at_call 108; refine HS.out.mono ?_; clear HS; rintro e w2 ⟨rfl, ⟨n₁, hT2⟩, hk2⟩)
    go_ret
    rw [HA.out, HN.out]
    have hbC : Below w2.heap.size w2 (w2.alloc (.cells #[.int .i64 (L.hits m.d).length] 3)) := (Below.refl _ _).alloc (Nat.le_refl _) _
    exact ⟨_, rfl, one_ints w2 _, ⟨n₁, hT2.below hbC⟩, ((below_toKeeps HB.out _).trans hk2).trans (below_toKeeps hbC _)⟩
  case inr.inr.inr.inr.inr.inr.inr.inr.inr.inl =>
    have HS := hid (turn_any n₀ b m hm L _ hT1 hnb hf (hC.k10 (by omega)))
    have HA := hid (show L.act m = L.chg (fun q : PT => q.turnedBy (L.sideN m.b) m.n) (L.ts.filter (inBox m.b)) by simp [Led.act, e])
    have HN := hid (show L.tell m = [] by simp [Led.tell, e])
    have b1 : (((m.k : Nat) : Int) == 1) = false := beq_eq_false_iff_ne.2 (by omega)
    have b2 : (((m.k : Nat) : Int) == 2) = false := beq_eq_false_iff_ne.2 (by omega)
    have b3 : (((m.k : Nat) : Int) == 3) = false := beq_eq_false_iff_ne.2 (by omega)
    have b4 : (((m.k : Nat) : Int) == 4) = false := beq_eq_false_iff_ne.2 (by omega)
    have b5 : (((m.k : Nat) : Int) == 5) = false := beq_eq_false_iff_ne.2 (by omega)
    have b6 : (((m.k : Nat) : Int) == 6) = false := beq_eq_false_iff_ne.2 (by omega)
    have b7 : (((m.k : Nat) : Int) == 7) = false := beq_eq_false_iff_ne.2 (by omega)
    have b8 : (((m.k : Nat) : Int) == 8) = false := beq_eq_false_iff_ne.2 (by omega)
    have b9 : (((m.k : Nat) : Int) == 9) = false := beq_eq_false_iff_ne.2 (by omega)
    have b10 : (((m.k : Nat) : Int) == 10) = true := beq_iff_eq.2 (by omega)
    unfold Cm.val at *
    clear e hC hT hT1 hok hm
    go_enter Tryz.func86, Tryz.ntmps86
    go_wp2_with (go_at_call 109; refine HS.out.mono ?_; clear HS; rintro e w2 ⟨rfl, ⟨n₁, hT2⟩, hk2⟩)
    go_ret
    rw [HA.out, HN.out]
    exact perf_nil HB.out hT2 hk2
  case inr.inr.inr.inr.inr.inr.inr.inr.inr.inr.inl =>
    have HS := hid (flip_any n₀ b m hm L _ hT1 hnb hf (hC.k10 (by omega)))
    have HA := hid (show L.act m = L.chg (fun q : PT => q.flippedIn (L.sideN m.b)) (L.ts.filter (inBox m.b)) by simp [Led.act, e])
    have HN := hid (show L.tell m = [] by simp [Led.tell, e])
    have b1 : (((m.k : Nat) : Int) == 1) = false := beq_eq_false_iff_ne.2 (by omega)
    have b2 : (((m.k : Nat) : Int) == 2) = false := beq_eq_false_iff_ne.2 (by omega)
    have b3 : (((m.k : Nat) : Int) == 3) = false := beq_eq_false_iff_ne.2 (by omega)
    have b4 : (((m.k : Nat) : Int) == 4) = false := beq_eq_false_iff_ne.2 (by omega)
    have b5 : (((m.k : Nat) : Int) == 5) = false := beq_eq_false_iff_ne.2 (by omega)
    have b6 : (((m.k : Nat) : Int) == 6) = false := beq_eq_false_iff_ne.2 (by omega)
    have b7 : (((m.k : Nat) : Int) == 7) = false := beq_eq_false_iff_ne.2 (by omega)
    have b8 : (((m.k : Nat) : Int) == 8) = false := beq_eq_false_iff_ne.2 (by omega)
    have b9 : (((m.k : Nat) : Int) == 9) = false := beq_eq_false_iff_ne.2 (by omega)
    have b10 : (((m.k : Nat) : Int) == 10) = false := beq_eq_false_iff_ne.2 (by omega)
    have b11 : (((m.k : Nat) : Int) == 11) = true := beq_iff_eq.2 (by omega)
    unfold Cm.val at *
    clear e hC hT hT1 hok hm
    go_enter Tryz.func86, Tryz.ntmps86
    go_wp2_with (go_at_call 110; refine HS.out.mono ?_; clear HS; rintro e w2 ⟨rfl, ⟨n₁, hT2⟩, hk2⟩)
    go_ret
    rw [HA.out, HN.out]
    exact perf_nil HB.out hT2 hk2
  case inr.inr.inr.inr.inr.inr.inr.inr.inr.inr.inr.inl =>
    have HS := hid (show_any n₀ b m hm L _ hT1)
    have HA := hid (show L.act m = L by simp [Led.act, e])
    have HN := hid (show L.tell m = showQ (L.tubeD m.t) by simp [Led.tell, e])
    have HT := hid hT
    have b1 : (((m.k : Nat) : Int) == 1) = false := beq_eq_false_iff_ne.2 (by omega)
    have b2 : (((m.k : Nat) : Int) == 2) = false := beq_eq_false_iff_ne.2 (by omega)
    have b3 : (((m.k : Nat) : Int) == 3) = false := beq_eq_false_iff_ne.2 (by omega)
    have b4 : (((m.k : Nat) : Int) == 4) = false := beq_eq_false_iff_ne.2 (by omega)
    have b5 : (((m.k : Nat) : Int) == 5) = false := beq_eq_false_iff_ne.2 (by omega)
    have b6 : (((m.k : Nat) : Int) == 6) = false := beq_eq_false_iff_ne.2 (by omega)
    have b7 : (((m.k : Nat) : Int) == 7) = false := beq_eq_false_iff_ne.2 (by omega)
    have b8 : (((m.k : Nat) : Int) == 8) = false := beq_eq_false_iff_ne.2 (by omega)
    have b9 : (((m.k : Nat) : Int) == 9) = false := beq_eq_false_iff_ne.2 (by omega)
    have b10 : (((m.k : Nat) : Int) == 10) = false := beq_eq_false_iff_ne.2 (by omega)
    have b11 : (((m.k : Nat) : Int) == 11) = false := beq_eq_false_iff_ne.2 (by omega)
    have b12 : (((m.k : Nat) : Int) == 12) = true := beq_iff_eq.2 (by omega)
    unfold Cm.val at *
    clear e hC hT hT1 hok hm
    go_enter Tryz.func86, Tryz.ntmps86
    go_wp2_with (go_at_call 111; refine HS.out.mono ?_; clear HS; rintro e w2 ⟨v, rfl, hi2, hb2⟩)
    go_ret
    rw [HA.out, HN.out]
    exact perf_tell HB.out HT.out hi2 hb2
  case inr.inr.inr.inr.inr.inr.inr.inr.inr.inr.inr.inr.inl =>
    have HS := hid (content_any n₀ b m L _ hT1)
    have HA := hid (show L.act m = L by simp [Led.act, e])
    have HN := hid (show L.tell m = Led.contQ (L.ts.filter (inBox m.b)) by simp [Led.tell, e])
    have HT := hid hT
    have b1 : (((m.k : Nat) : Int) == 1) = false := beq_eq_false_iff_ne.2 (by omega)
    have b2 : (((m.k : Nat) : Int) == 2) = false := beq_eq_false_iff_ne.2 (by omega)
    have b3 : (((m.k : Nat) : Int) == 3) = false := beq_eq_false_iff_ne.2 (by omega)
    have b4 : (((m.k : Nat) : Int) == 4) = false := beq_eq_false_iff_ne.2 (by omega)
    have b5 : (((m.k : Nat) : Int) == 5) = false := beq_eq_false_iff_ne.2 (by omega)
    have b6 : (((m.k : Nat) : Int) == 6) = false := beq_eq_false_iff_ne.2 (by omega)
    have b7 : (((m.k : Nat) : Int) == 7) = false := beq_eq_false_iff_ne.2 (by omega)
    have b8 : (((m.k : Nat) : Int) == 8) = false := beq_eq_false_iff_ne.2 (by omega)
    have b9 : (((m.k : Nat) : Int) == 9) = false := beq_eq_false_iff_ne.2 (by omega)
    have b10 : (((m.k : Nat) : Int) == 10) = false := beq_eq_false_iff_ne.2 (by omega)
    have b11 : (((m.k : Nat) : Int) == 11) = false := beq_eq_false_iff_ne.2 (by omega)
    have b12 : (((m.k : Nat) : Int) == 12) = false := beq_eq_false_iff_ne.2 (by omega)
    have b13 : (((m.k : Nat) : Int) == 13) = true := beq_iff_eq.2 (by omega)
    unfold Cm.val at *
    clear e hC hT hT1 hok hm
    go_enter Tryz.func86, Tryz.ntmps86
    go_wp2_with (go_at_call 112; refine HS.out.mono ?_; clear HS; rintro e w2 ⟨v, rfl, hi2, hb2⟩)
    go_ret
    rw [HA.out, HN.out]
    exact perf_tell HB.out HT.out hi2 hb2
  case inr.inr.inr.inr.inr.inr.inr.inr.inr.inr.inr.inr.inr.inl =>
    have HS := hid (ofD_any n₀ b m.d L.kvs L.ts hT1.toks (Led.sel_ts hok) (by have := hT.fewT; omega) _ hT1.tx)
    have HA := hid (show L.act m = L by simp [Led.act, e])
    have HN := hid (show L.tell m = ofN m.d L.ts by simp [Led.tell, e])
    have HT := hid hT
    have b1 : (((m.k : Nat) : Int) == 1) = false := beq_eq_false_iff_ne.2 (by omega)
    have b2 : (((m.k : Nat) : Int) == 2) = false := beq_eq_false_iff_ne.2 (by omega)
    have b3 : (((m.k : Nat) : Int) == 3) = false := beq_eq_false_iff_ne.2 (by omega)
    have b4 : (((m.k : Nat) : Int) == 4) = false := beq_eq_false_iff_ne.2 (by omega)
    have b5 : (((m.k : Nat) : Int) == 5) = false := beq_eq_false_iff_ne.2 (by omega)
    have b6 : (((m.k : Nat) : Int) == 6) = false := beq_eq_false_iff_ne.2 (by omega)
    have b7 : (((m.k : Nat) : Int) == 7) = false := beq_eq_false_iff_ne.2 (by omega)
    have b8 : (((m.k : Nat) : Int) == 8) = false := beq_eq_false_iff_ne.2 (by omega)
    have b9 : (((m.k : Nat) : Int) == 9) = false := beq_eq_false_iff_ne.2 (by omega)
    have b10 : (((m.k : Nat) : Int) == 10) = false := beq_eq_false_iff_ne.2 (by omega)
    have b11 : (((m.k : Nat) : Int) == 11) = false := beq_eq_false_iff_ne.2 (by omega)
    have b12 : (((m.k : Nat) : Int) == 12) = false := beq_eq_false_iff_ne.2 (by omega)
    have b13 : (((m.k : Nat) : Int) == 13) = false := beq_eq_false_iff_ne.2 (by omega)
    have b14 : (((m.k : Nat) : Int) == 14) = true := beq_iff_eq.2 (by omega)
    unfold Cm.val at *
    clear e hC hT hT1 hok hm
    go_enter Tryz.func86, Tryz.ntmps86
    go_wp2_with (go_at_call 113; refine HS.out.mono ?_; clear HS; rintro e w2 ⟨v, rfl, hrow, hb2⟩)
    go_ret
    rw [HA.out, HN.out]
    exact perf_tell HB.out HT.out (own_intsIn hrow rfl) hb2
  case inr.inr.inr.inr.inr.inr.inr.inr.inr.inr.inr.inr.inr.inr.inl =>
    have hsz : (w.alloc (.cells #[.int .i64 m.k, .int .i64 m.t, .int .i64 m.o, .int .i64 m.d, .int .i64 m.v, .int .i64 m.b, .int .i64 m.x, .int .i64 m.y, .int .i64 m.n] 31)).heap.size = w.heap.size + 1 := by simp
    have HS := hid (kin_any m.t 115 #[.pointer (some ⟨b, 0, none⟩)] (fun S => upS S L.ps) _ (by have := hm.t; omega) (enters_of Tryz.func115 (by kernel_rfl) rfl) (fun u hu g S hG hg => addAbove_any n₀ b g S L.kvs L.ps hT.poks (by have := hT.fewP; omega) (Led.sel_ps hok) u (hT1.below' hu).tx hG (by omega)))
    clear hsz
    have HA := hid (show L.act m = L by simp [Led.act, e])
    have HN := hid (show L.tell m = natsI (memG (kinS (upS (single m.t) L.ps) m.t)) by simp [Led.tell, e])
    have HT := hid hT
    have b1 : (((m.k : Nat) : Int) == 1) = false := beq_eq_false_iff_ne.2 (by omega)
    have b2 : (((m.k : Nat) : Int) == 2) = false := beq_eq_false_iff_ne.2 (by omega)
    have b3 : (((m.k : Nat) : Int) == 3) = false := beq_eq_false_iff_ne.2 (by omega)
    have b4 : (((m.k : Nat) : Int) == 4) = false := beq_eq_false_iff_ne.2 (by omega)
    have b5 : (((m.k : Nat) : Int) == 5) = false := beq_eq_false_iff_ne.2 (by omega)
    have b6 : (((m.k : Nat) : Int) == 6) = false := beq_eq_false_iff_ne.2 (by omega)
    have b7 : (((m.k : Nat) : Int) == 7) = false := beq_eq_false_iff_ne.2 (by omega)
    have b8 : (((m.k : Nat) : Int) == 8) = false := beq_eq_false_iff_ne.2 (by omega)
    have b9 : (((m.k : Nat) : Int) == 9) = false := beq_eq_false_iff_ne.2 (by omega)
    have b10 : (((m.k : Nat) : Int) == 10) = false := beq_eq_false_iff_ne.2 (by omega)
    have b11 : (((m.k : Nat) : Int) == 11) = false := beq_eq_false_iff_ne.2 (by omega)
    have b12 : (((m.k : Nat) : Int) == 12) = false := beq_eq_false_iff_ne.2 (by omega)
    have b13 : (((m.k : Nat) : Int) == 13) = false := beq_eq_false_iff_ne.2 (by omega)
    have b14 : (((m.k : Nat) : Int) == 14) = false := beq_eq_false_iff_ne.2 (by omega)
    have b15 : (((m.k : Nat) : Int) == 15) = true := beq_iff_eq.2 (by omega)
    unfold Cm.val at *
    clear e hC hT hT1 hok hm
    go_enter Tryz.func86, Tryz.ntmps86
    go_wp2_with (go_at_call 114; refine HS.out.mono ?_; clear HS; rintro e w2 ⟨v, rfl, hrow, hb2⟩)
    go_ret
    rw [HA.out, HN.out]
    exact perf_tell HB.out HT.out (own_intsIn hrow (by simp [natsI])) hb2
  case inr.inr.inr.inr.inr.inr.inr.inr.inr.inr.inr.inr.inr.inr.inr =>
    have hsz : (w.alloc (.cells #[.int .i64 m.k, .int .i64 m.t, .int .i64 m.o, .int .i64 m.d, .int .i64 m.v, .int .i64 m.b, .int .i64 m.x, .int .i64 m.y, .int .i64 m.n] 31)).heap.size = w.heap.size + 1 := by simp
    have HS := hid (kin_any m.t 116 #[.pointer (some ⟨b, 0, none⟩)] (fun S => downS S L.ps) _ (by have := hm.t; omega) (enters_of Tryz.func116 (by kernel_rfl) rfl) (fun u hu g S hG hg => addBelow_any n₀ b g S L.kvs L.ps hT.poks (Led.sel_ps hok) u (hT1.below' hu).tx hG (by omega)))
    clear hsz
    have HA := hid (show L.act m = L by simp [Led.act, e])
    have HN := hid (show L.tell m = natsI (memG (kinS (downS (single m.t) L.ps) m.t)) by simp [Led.tell, e])
    have HT := hid hT
    have b1 : (((m.k : Nat) : Int) == 1) = false := beq_eq_false_iff_ne.2 (by omega)
    have b2 : (((m.k : Nat) : Int) == 2) = false := beq_eq_false_iff_ne.2 (by omega)
    have b3 : (((m.k : Nat) : Int) == 3) = false := beq_eq_false_iff_ne.2 (by omega)
    have b4 : (((m.k : Nat) : Int) == 4) = false := beq_eq_false_iff_ne.2 (by omega)
    have b5 : (((m.k : Nat) : Int) == 5) = false := beq_eq_false_iff_ne.2 (by omega)
    have b6 : (((m.k : Nat) : Int) == 6) = false := beq_eq_false_iff_ne.2 (by omega)
    have b7 : (((m.k : Nat) : Int) == 7) = false := beq_eq_false_iff_ne.2 (by omega)
    have b8 : (((m.k : Nat) : Int) == 8) = false := beq_eq_false_iff_ne.2 (by omega)
    have b9 : (((m.k : Nat) : Int) == 9) = false := beq_eq_false_iff_ne.2 (by omega)
    have b10 : (((m.k : Nat) : Int) == 10) = false := beq_eq_false_iff_ne.2 (by omega)
    have b11 : (((m.k : Nat) : Int) == 11) = false := beq_eq_false_iff_ne.2 (by omega)
    have b12 : (((m.k : Nat) : Int) == 12) = false := beq_eq_false_iff_ne.2 (by omega)
    have b13 : (((m.k : Nat) : Int) == 13) = false := beq_eq_false_iff_ne.2 (by omega)
    have b14 : (((m.k : Nat) : Int) == 14) = false := beq_eq_false_iff_ne.2 (by omega)
    have b15 : (((m.k : Nat) : Int) == 15) = false := beq_eq_false_iff_ne.2 (by omega)
    have b16 : (((m.k : Nat) : Int) == 16) = true := beq_iff_eq.2 (by omega)
    unfold Cm.val at *
    clear e hC hT hT1 hok hm
    go_enter Tryz.func86, Tryz.ntmps86
    go_wp2_with (go_at_call 114; refine HS.out.mono ?_; clear HS; rintro e w2 ⟨v, rfl, hrow, hb2⟩)
    go_ret
    rw [HA.out, HN.out]
    exact perf_tell HB.out HT.out (own_intsIn hrow (by simp [natsI])) hb2

end
end Go.Proofs.YtbpnllhhmookcaaGreatDoor
