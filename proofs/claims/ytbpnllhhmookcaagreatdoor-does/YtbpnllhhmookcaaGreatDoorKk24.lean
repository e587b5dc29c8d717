/- What is done to one tube: move, use, take, giveBack. -/
import Derived.Test.YtbpnllhhmookcaaGreatDoorKk23
import Derived.Deep.RegionHeld3
namespace Go.Proofs.YtbpnllhhmookcaaGreatDoor
open Go.RowKit Go.Shelf

theorem has_new_lt (w : World) (m : Cm) : w.heap.size < (w.alloc (.cells #[.int .i64 m.k, .int .i64 m.t, .int .i64 m.o, .int .i64 m.d, .int .i64 m.v, .int .i64 m.b, .int .i64 m.x, .int .i64 m.y, .int .i64 m.n] 31)).heap.size := by simp

theorem Run.makeFunc (fn : Fn) (first cap : Array Value) (w : World) : (Instr.makeFunc fn first cap).run Tryz.prog w = .ok (.func fn first cap) w := rfl

set_option maxHeartbeats 2000000 in
theorem move_any (n₀ b : Nat) (m : Cm) (hm : m.Ok) (ht : 1 ≤ m.t) (L : Led) (w : World) (hT : TxL n₀ w b L) (hf : L.kvs.length + 1 < 7000) (q : PT) (hq : L.tube m.t = some q) (hg : (q.stored m.b m.x m.y).Good) :
    Calls Tryz.prog 102 #[.pointer (some ⟨b, 0, none⟩), m.val] w (PutL b (L.putT m.t (q.stored m.b m.x m.y)) w) := by
  have hmf := Run.makeFunc
  have hC0 := Cm.has_new w 31 m
  have hl0 := has_new_lt w m
  have hb0 : Below w.heap.size w (w.alloc (.cells #[.int .i64 m.k, .int .i64 m.t, .int .i64 m.o, .int .i64 m.d, .int .i64 m.v, .int .i64 m.b, .int .i64 m.x, .int .i64 m.y, .int .i64 m.n] 31)) := (Below.refl _ w).alloc (Nat.le_refl _) _
  have HC := hid (change_led n₀ b m.t 132 #[.pointer (some ⟨w.heap.size, 0, none⟩)] q _ hg L _ (hT.below hb0) ⟨ht, hm.t⟩ hf hq (enters_of Tryz.func132 (by kernel_rfl) rfl) (move_turns hC0 hl0 rfl rfl rfl (by have := hm.x; omega) (by have := hm.y; omega)))
  have HB := hid hb0
  unfold Cm.val
  clear hT hC0 hb0 hl0
  go_enter Tryz.func102, Tryz.ntmps102
  go_wp2_with (go_at_call 131; refine HC.out.mono ?_; clear HC; intro e w2 hP; have he := hP.1; subst he)
  go_end0
  exact hP.from HB.out

set_option maxHeartbeats 2000000 in
theorem use_any (n₀ b : Nat) (m : Cm) (hm : m.Ok) (ht : 1 ≤ m.t) (L : Led) (w : World) (hT : TxL n₀ w b L) (hf : L.kvs.length + 1 < 7000) (q : PT) (hq : L.tube m.t = some q) (hv : m.v ≤ q.left) (hg : (q.usedBy m.v).Good) :
    Calls Tryz.prog 105 #[.pointer (some ⟨b, 0, none⟩), m.val] w (PutL b (L.putT m.t (q.usedBy m.v)) w) := by
  have hmf := Run.makeFunc
  have hC0 := Cm.has_new w 31 m
  have hl0 := has_new_lt w m
  have hb0 : Below w.heap.size w (w.alloc (.cells #[.int .i64 m.k, .int .i64 m.t, .int .i64 m.o, .int .i64 m.d, .int .i64 m.v, .int .i64 m.b, .int .i64 m.x, .int .i64 m.y, .int .i64 m.n] 31)) := (Below.refl _ w).alloc (Nat.le_refl _) _
  have HC := hid (change_led n₀ b m.t 136 #[.pointer (some ⟨w.heap.size, 0, none⟩)] q _ hg L _ (hT.below hb0) ⟨ht, hm.t⟩ hf hq (enters_of Tryz.func136 (by kernel_rfl) rfl) (use_turns hC0 hl0 rfl hv ((hT.ok.t1 _ ((Led.tube_mem hT.ok).1 hq)).2.2.ok)))
  have HB := hid hb0
  unfold Cm.val
  clear hT hC0 hb0 hl0
  go_enter Tryz.func105, Tryz.ntmps105
  go_wp2_with (go_at_call 131; refine HC.out.mono ?_; clear HC; intro e w2 hP; have he := hP.1; subst he)
  go_end0
  exact hP.from HB.out

set_option maxHeartbeats 2000000 in
theorem take_any (n₀ b : Nat) (m : Cm) (hm : m.Ok) (ht : 1 ≤ m.t) (L : Led) (w : World) (hT : TxL n₀ w b L) (hf : L.kvs.length + 1 < 7000) (q : PT) (hq : L.tube m.t = some q) (hg : (q.gone 2).Good) :
    Calls Tryz.prog 106 #[.pointer (some ⟨b, 0, none⟩), m.val] w (PutL b (L.putT m.t (q.gone 2)) w) := by
  have hmf := Run.makeFunc
  have hb0 : Below w.heap.size w (w.alloc (.cells #[.int .i64 m.k, .int .i64 m.t, .int .i64 m.o, .int .i64 m.d, .int .i64 m.v, .int .i64 m.b, .int .i64 m.x, .int .i64 m.y, .int .i64 m.n] 31)) := (Below.refl _ w).alloc (Nat.le_refl _) _
  have HC := hid (change_led n₀ b m.t 137 #[] q _ hg L _ (hT.below hb0) ⟨ht, hm.t⟩ hf hq (enters_of Tryz.func137 (by kernel_rfl) rfl) take_turns)
  have HB := hid hb0
  unfold Cm.val
  clear hT hb0
  go_enter Tryz.func106, Tryz.ntmps106
  go_wp2_with (go_at_call 131; refine HC.out.mono ?_; clear HC; intro e w2 hP; have he := hP.1; subst he)
  go_end0
  exact hP.from HB.out

set_option maxHeartbeats 2000000 in
theorem give_any (n₀ b : Nat) (m : Cm) (hm : m.Ok) (ht : 1 ≤ m.t) (L : Led) (w : World) (hT : TxL n₀ w b L) (hf : L.kvs.length + 1 < 7000) (q : PT) (hq : L.tube m.t = some q) (hg : (q.backAt m.b m.x m.y).Good) :
    Calls Tryz.prog 107 #[.pointer (some ⟨b, 0, none⟩), m.val] w (PutL b (L.putT m.t (q.backAt m.b m.x m.y)) w) := by
  have hmf := Run.makeFunc
  have hC0 := Cm.has_new w 31 m
  have hl0 := has_new_lt w m
  have hb0 : Below w.heap.size w (w.alloc (.cells #[.int .i64 m.k, .int .i64 m.t, .int .i64 m.o, .int .i64 m.d, .int .i64 m.v, .int .i64 m.b, .int .i64 m.x, .int .i64 m.y, .int .i64 m.n] 31)) := (Below.refl _ w).alloc (Nat.le_refl _) _
  have HC := hid (change_led n₀ b m.t 139 #[.pointer (some ⟨w.heap.size, 0, none⟩)] q _ hg L _ (hT.below hb0) ⟨ht, hm.t⟩ hf hq (enters_of Tryz.func139 (by kernel_rfl) rfl) (give_turns ((hT.ok.t1 _ ((Led.tube_mem hT.ok).1 hq)).2.2.ok) hC0 hl0 rfl rfl rfl (by have := hm.x; omega) (by have := hm.y; omega)))
  have HB := hid hb0
  unfold Cm.val
  clear hT hC0 hb0 hl0
  go_enter Tryz.func107, Tryz.ntmps107
  go_wp2_with (go_at_call 131; refine HC.out.mono ?_; clear HC; intro e w2 hP; have he := hP.1; subst he)
  go_end0
  exact hP.from HB.out

end Go.Proofs.YtbpnllhhmookcaaGreatDoor

/- pour. -/
namespace Go.Proofs.YtbpnllhhmookcaaGreatDoor
open Go.RowKit Go.Shelf

theorem Led.putT_tube (L : Led) (n k : Nat) (q : PT) : (L.putT n q).tube k = if k = n then some q else L.tube k := Led.tube_insT L n k q
theorem Led.putT_len (L : Led) (n : Nat) (q : PT) : (L.putT n q).kvs.length ≤ L.kvs.length + 1 := by
  have := insT_len L.ts n q
  rw [Led.len, Led.len]; simp only [Led.putT]; omega

set_option maxRecDepth 8000 in
set_option maxHeartbeats 8000000 in
theorem pour_any (n₀ b : Nat) (m : Cm) (hm : m.Ok) (ht : 1 ≤ m.t ∧ m.t < m.o) (hv1 : 1 ≤ m.v) (L : Led) (w : World) (hT : TxL n₀ w b L) (hf : L.kvs.length + 3 < 7000) (q q2 : PT) (hq : L.tube m.t = some q) (hq2 : L.tube m.o = some q2)
    (hv : m.v ≤ q.left) (hg2 : q2.left + m.v ≤ 1000000) (hp : L.pouredN m.t m.o + m.v ≤ 1000000) :
    Calls Tryz.prog 104 #[.pointer (some ⟨b, 0, none⟩), m.val] w (PutL b (L.pourL m) w) := by
  have hmf := Run.makeFunc
  have hC0 := Cm.has_new w 31 m
  have hl0 := has_new_lt w m
  have hb0 : Below w.heap.size w (w.alloc (.cells #[.int .i64 m.k, .int .i64 m.t, .int .i64 m.o, .int .i64 m.d, .int .i64 m.v, .int .i64 m.b, .int .i64 m.x, .int .i64 m.y, .int .i64 m.n] 31)) := (Below.refl _ w).alloc (Nat.le_refl _) _
  have hbl : b < w.heap.size := by obtain ⟨⟨⟨r, hB, hI⟩, hf⟩, _, _⟩ := hT; exact hB.lt
  have hGq : q.Good := (hT.ok.t1 _ ((Led.tube_mem hT.ok).1 hq)).2.2
  have hGq2 : q2.Good := (hT.ok.t1 _ ((Led.tube_mem hT.ok).1 hq2)).2.2
  have hG1 : (q.less m.v).Good := ⟨hGq.x, hGq.y, hGq.box, hGq.donor, hGq.status, hGq.thaws, hGq.began, by have := hGq.left; show q.left - m.v ≤ 1000000; omega, hGq.used, hGq.lost⟩
  have hG2 : (q2.more m.v).Good := ⟨hGq2.x, hGq2.y, hGq2.box, hGq2.donor, hGq2.status, hGq2.thaws, hGq2.began, hg2, hGq2.used, hGq2.lost⟩
  have hmt := hm.t
  have hmo := hm.o
  have hmv := hm.v
  have eD : L.tubeD m.t = q := by unfold Led.tubeD; rw [hq]; rfl
  have e1 : (L.putT m.t (q.less m.v)).tube m.o = some q2 := by rw [Led.putT_tube, if_neg (by omega)]; exact hq2
  have eD1 : (L.putT m.t (q.less m.v)).tubeD m.o = q2 := by unfold Led.tubeD; rw [e1]; rfl
  have hlen1 := Led.putT_len L m.t (q.less m.v)
  have hlen2 := Led.putT_len (L.putT m.t (q.less m.v)) m.o (q2.more m.v)
  have HC1 := hid (change_led n₀ b m.t 133 #[.pointer (some ⟨w.heap.size, 0, none⟩)] q (q.less m.v) hG1 L _ (hT.below hb0) ⟨ht.1, hmt⟩ (by omega) hq (enters_of Tryz.func133 (by kernel_rfl) rfl) (pour1_turns hC0 hl0 rfl hv hGq.ok))
  have HC2 := hid (fun u (hu : TxL u.heap.size u b (L.putT m.t (q.less m.v))) (hc : Has u w.heap.size m.ints) (hl : w.heap.size < u.heap.size) => change_led u.heap.size b m.o 134 #[.pointer (some ⟨w.heap.size, 0, none⟩)] q2 (q2.more m.v) hG2 (L.putT m.t (q.less m.v)) u hu ⟨by omega, hmo⟩ (by omega) e1 (enters_of Tryz.func134 (by kernel_rfl) rfl) (pour2_turns hc hl rfl (by omega) hGq2.ok))
  have HP := hid (fun n₁ u (hu : TxL n₁ u b ((L.putT m.t (q.less m.v)).putT m.o (q2.more m.v))) => poured_led n₁ b m.t m.o _ u hu (by omega) (by omega))
  have HS := hid (fun n₁ u (hu : TxL n₁ u b ((L.putT m.t (q.less m.v)).putT m.o (q2.more m.v))) => setPoured_led n₁ b m.t m.o (L.pouredN m.t m.o + m.v) _ u hu ⟨ht.1, ht.2, hmo⟩ ⟨by omega, hp⟩ (by omega))
  have HE := hid (show L.pourL m = { ((L.putT m.t (q.less m.v)).putT m.o (q2.more m.v)) with ps := insP ((L.putT m.t (q.less m.v)).putT m.o (q2.more m.v)).ps m.t m.o (L.pouredN m.t m.o + m.v) } by
    show ({ ((L.putT m.t ((L.tubeD m.t).less m.v)).putT m.o (((L.putT m.t ((L.tubeD m.t).less m.v)).tubeD m.o).more m.v)) with ps := _ } : Led) = _
    rw [eD, eD1]; rfl)
  have hpn : ((L.putT m.t (q.less m.v)).putT m.o (q2.more m.v)).pouredN m.t m.o = L.pouredN m.t m.o := rfl
  have HPn := hid hpn
  have HB := hid hb0
  have HCm := hid hC0
  have hwr : IntKind.i64.wrap ((L.pouredN m.t m.o : Int) + (m.v : Int)) = ((L.pouredN m.t m.o + m.v : Nat) : Int) := by rw [wraps63 _ (by omega) (by omega)]; omega
  clear hT hC0 hb0 hGq hGq2 hG1 hG2 eD e1 eD1 hpn hlen1 hlen2 hq hq2
  generalize L.pouredN m.t m.o = pd at *
  obtain ⟨L2, hL2⟩ : ∃ L2, L2 = (L.putT m.t (q.less m.v)).putT m.o (q2.more m.v) := ⟨_, rfl⟩
  rw [← hL2] at HP HS HE HPn
  have HL2 := hid hL2
  clear hL2
  unfold Cm.val
  go_enter Tryz.func104, Tryz.ntmps104
  go_wp2_with fail
  refine HC1.out.mono ?_
  clear HC1
  rintro e w1 ⟨rfl, hT1, hk1⟩
  have hc1 := has_keeps HCm.out hk1 hl0 (by show w.heap.size ≠ b; omega)
  have hl1 : w.heap.size < w1.heap.size := Nat.lt_of_lt_of_le hl0 hk1.size
  have c2 := hc1.1 2 (by omega)
  simp only [Cm.ints] at c2
  have HK1 := hid ((below_toKeeps HB.out (fun g => g = b)).trans hk1)
  have HH1 := hid hc1
  clear hk1 HB HCm hc1
  go_wp2_with fail
  refine (HC2.out w1 hT1 HH1.out hl1).mono ?_
  clear HC2 hT1 c2
  rintro e w2 ⟨rfl, hT2, hk2⟩
  have hc2 := has_keeps HH1.out hk2 hl1 (by show w.heap.size ≠ b; omega)
  have hl2 : w.heap.size < w2.heap.size := Nat.lt_of_lt_of_le hl1 hk2.size
  have c1 := hc2.1 1 (by omega)
  have c2 := hc2.1 2 (by omega)
  have c4 := hc2.1 4 (by omega)
  simp only [Cm.ints] at c1 c2 c4
  have HK2 := hid (HK1.out.trans hk2)
  have HT2 : Hid (TxL w2.heap.size w2 b L2) := hid (by rw [HL2.out]; exact hT2)
  have hPn := HPn.out
  have hne : w.heap.size ≠ b := by omega
  clear hk2 HK1 HH1 hc2 hT2 hl1 hl0 HPn
  go_wp2_with fail
  go_region_held3 (fun u => u.cell? ⟨w.heap.size, 1, none⟩ = some (.int .i64 m.t) ∧ u.cell? ⟨w.heap.size, 2, none⟩ = some (.int .i64 m.o) ∧ u.cell? ⟨w.heap.size, 4, none⟩ = some (.int .i64 m.v)) (go_keep) (first
    | (go_at_call 122; refine (HP.out w2.heap.size w2.drew (HT2.out.below ((Below.refl _ _).drew))).mono ?_; rintro e w3 ⟨rfl, hb3⟩; rw [hPn]; have c1 := (hb3.cell (p := ⟨w.heap.size, 1, none⟩) hl2).trans c1; have c2 := (hb3.cell (p := ⟨w.heap.size, 2, none⟩) hl2).trans c2; have c4 := (hb3.cell (p := ⟨w.heap.size, 4, none⟩) hl2).trans c4; have hl3 : w.heap.size < w3.heap.size := Nat.lt_of_lt_of_le hl2 hb3.size; have HT3 := hid (TxL.below (HT2.out.below ((Below.refl _ _).drew)) hb3); have HK3 := hid ((HK2.out.drew).trans (below_toKeeps hb3 (fun g => g = b))); clear hb3)
    | (go_at_call 135; refine (HS.out _ _ HT3.out).mono ?_; rintro e w4 ⟨rfl, hT4, hk4⟩; have c1 := (hk4.cell (p := ⟨w.heap.size, 1, none⟩) hl3 hne).trans c1; have c2 := (hk4.cell (p := ⟨w.heap.size, 2, none⟩) hl3 hne).trans c2; have c4 := (hk4.cell (p := ⟨w.heap.size, 4, none⟩) hl3 hne).trans c4; have HT4 := hid hT4; have HK4 := hid hk4; clear hT4 hk4))
  all_goals
    go_end0
    exact ⟨rfl, by rw [HE.out]; exact HT4.out, HK3.out.trans HK4.out⟩

end Go.Proofs.YtbpnllhhmookcaaGreatDoor

/- register. -/
namespace Go.Proofs.YtbpnllhhmookcaaGreatDoor
open Go.RowKit Go.Shelf
attribute [local go_sem] run_store_cplx

/-- The nine cells of a record, laid open, and that none is frozen. -/
theorem rec_val (q : PT) : q.val = .agg #[.complex .f64 (fl q.x) (fl q.y), .int .i64 q.box, .int .i64 q.donor, .int .i64 q.status, .int .i64 q.thaws, .int .i64 q.began, .int .i64 q.left, .int .i64 q.used, .int .i64 q.lost] := rfl

set_option maxRecDepth 8000 in
set_option maxHeartbeats 8000000 in
theorem register_any (n₀ b : Nat) (m : Cm) (hm : m.Ok) (ht : 1 ≤ m.t) (hd : 1 ≤ m.d) (L : Led) (w : World) (hT : TxL n₀ w b L) (hf : L.kvs.length + 1 < 7000) :
    Calls Tryz.prog 101 #[.pointer (some ⟨b, 0, none⟩), m.val] w (PutL b (L.putT m.t ⟨m.x, m.y, m.b, m.d, 1, 0, m.v, m.v, 0, 0⟩) w) := by
  have hbl : b < w.heap.size := by obtain ⟨⟨⟨r, hB, hI⟩, hf⟩, _, _⟩ := hT; exact hB.lt
  have hmx := hm.x
  have hmy := hm.y
  have hC0 := Cm.has_new w 31 m
  have hl0 := has_new_lt w m
  have hs0 : (w.alloc (.cells #[.int .i64 m.k, .int .i64 m.t, .int .i64 m.o, .int .i64 m.d, .int .i64 m.v, .int .i64 m.b, .int .i64 m.x, .int .i64 m.y, .int .i64 m.n] 31)).heap.size = w.heap.size + 1 := by simp
  have hb0 : Below w.heap.size w (w.alloc (.cells #[.int .i64 m.k, .int .i64 m.t, .int .i64 m.o, .int .i64 m.d, .int .i64 m.v, .int .i64 m.b, .int .i64 m.x, .int .i64 m.y, .int .i64 m.n] 31)) := (Below.refl _ w).alloc (Nat.le_refl _) _
  have hpl := @placeAt_any m.x m.y (by omega) (by omega)
  have hC1 := hC0.alloc hl0 (.cells #[.complex .f64 0 0, .int .i64 0, .int .i64 m.d, .int .i64 0, .int .i64 0, .int .i64 m.v, .int .i64 m.v, .int .i64 0, .int .i64 0] 182)
  have hb1 := hb0.alloc (by omega) (.cells #[.complex .f64 0 0, .int .i64 0, .int .i64 m.d, .int .i64 0, .int .i64 0, .int .i64 m.v, .int .i64 m.v, .int .i64 0, .int .i64 0] 182)
  have hX := World.alloc_heap_new (w.alloc (.cells #[.int .i64 m.k, .int .i64 m.t, .int .i64 m.o, .int .i64 m.d, .int .i64 m.v, .int .i64 m.b, .int .i64 m.x, .int .i64 m.y, .int .i64 m.n] 31)) (.cells #[.complex .f64 0 0, .int .i64 0, .int .i64 m.d, .int .i64 0, .int .i64 0, .int .i64 m.v, .int .i64 m.v, .int .i64 0, .int .i64 0] 182)
  rw [hs0] at hX
  have hX' : RecBox ((w.alloc (.cells #[.int .i64 m.k, .int .i64 m.t, .int .i64 m.o, .int .i64 m.d, .int .i64 m.v, .int .i64 m.b, .int .i64 m.x, .int .i64 m.y, .int .i64 m.n] 31)).alloc (.cells #[.complex .f64 0 0, .int .i64 0, .int .i64 m.d, .int .i64 0, .int .i64 0, .int .i64 m.v, .int .i64 m.v, .int .i64 0, .int .i64 0] 182)) (w.heap.size + 1) (⟨0, 0, 0, m.d, 0, 0, m.v, m.v, 0, 0⟩ : PT).cells := hX
  have hl1 : w.heap.size + 1 < ((w.alloc (.cells #[.int .i64 m.k, .int .i64 m.t, .int .i64 m.o, .int .i64 m.d, .int .i64 m.v, .int .i64 m.b, .int .i64 m.x, .int .i64 m.y, .int .i64 m.n] 31)).alloc (.cells #[.complex .f64 0 0, .int .i64 0, .int .i64 m.d, .int .i64 0, .int .i64 0, .int .i64 m.v, .int .i64 m.v, .int .i64 0, .int .i64 0] 182)).heap.size := by simp
  have hG : (⟨m.x, m.y, m.b, m.d, 1, 0, m.v, m.v, 0, 0⟩ : PT).Good := by
    have h1 := hm.b; have h2 := hm.d; have h3 := hm.v
    constructor <;> simp only <;> omega
  have HSt : Hid (∀ u, Below w.heap.size w u → Calls Tryz.prog 130 #[.pointer (some ⟨b, 0, none⟩), .int .i64 m.t, .agg #[.complex .f64 (fl m.x) (fl m.y), .int .i64 m.b, .int .i64 m.d, .int .i64 1, .int .i64 0, .int .i64 m.v, .int .i64 m.v, .int .i64 0, .int .i64 0]] u (PutL b (L.putT m.t ⟨m.x, m.y, m.b, m.d, 1, 0, m.v, m.v, 0, 0⟩) u)) :=
    hid (fun u hu => setTube_led n₀ b m.t ⟨m.x, m.y, m.b, m.d, 1, 0, m.v, m.v, 0, 0⟩ hG L u (hT.below hu) ⟨ht, hm.t⟩ hf)
  simp only [pl] at hpl
  unfold Cm.val
  go_enter Tryz.func101, Tryz.ntmps101
  go_upto_region 2 with fail
  generalize ((w.alloc (.cells #[.int .i64 m.k, .int .i64 m.t, .int .i64 m.o, .int .i64 m.d, .int .i64 m.v, .int .i64 m.b, .int .i64 m.x, .int .i64 m.y, .int .i64 m.n] 31)).alloc (.cells #[.complex .f64 0 0, .int .i64 0, .int .i64 m.d, .int .i64 0, .int .i64 0, .int .i64 m.v, .int .i64 m.v, .int .i64 0, .int .i64 0] 182)) = w1 at *
  have c1 := hC1.1 1 (by omega)
  have c5 := hC1.1 5 (by omega)
  have c6 := hC1.1 6 (by omega)
  have c7 := hC1.1 7 (by omega)
  simp only [Cm.ints] at c1 c5 c6 c7
  have HS := hid (store_any (w.heap.size + 1) _ m.b m.x m.y w1.drew hX')
  simp only [pl] at HS
  have HB1 := hid hb1
  clear hX hX' hC1 hC0 hb0 hb1 hs0 hT
  go_region_held3 (fun u => u.cell? ⟨w.heap.size, 1, none⟩ = some (.int .i64 m.t) ∧ u.cell? ⟨w.heap.size, 5, none⟩ = some (.int .i64 m.b) ∧ u.cell? ⟨w.heap.size, 6, none⟩ = some (.int .i64 m.x) ∧ u.cell? ⟨w.heap.size, 7, none⟩ = some (.int .i64 m.y)) (go_keep) (first
    | (go_at_call 124; refine (hpl _).mono ?_; rintro e w' ⟨rfl, rfl⟩)
    | (go_at_call 129; refine HS.out.mono ?_; rintro e w2 ⟨rfl, hr2, hk2⟩; have c1 := (hk2.cell (p := ⟨w.heap.size, 1, none⟩) (by show w.heap.size < w1.heap.size; omega) (by show w.heap.size ≠ w.heap.size + 1; omega)).trans c1; have c5 := (hk2.cell (p := ⟨w.heap.size, 5, none⟩) (by show w.heap.size < w1.heap.size; omega) (by show w.heap.size ≠ w.heap.size + 1; omega)).trans c5; have c6 := (hk2.cell (p := ⟨w.heap.size, 6, none⟩) (by show w.heap.size < w1.heap.size; omega) (by show w.heap.size ≠ w.heap.size + 1; omega)).trans c6; have c7 := (hk2.cell (p := ⟨w.heap.size, 7, none⟩) (by show w.heap.size < w1.heap.size; omega) (by show w.heap.size ≠ w.heap.size + 1; omega)).trans c7; have HR2 := hid hr2; have HK2 := hid hk2; clear hr2 hk2))
  all_goals
    obtain ⟨d0, d1, d2, d3, d4, d5, d6, d7, d8⟩ := HR2.out.cells
    simp only [PT.stored] at d0 d1 d2 d3 d4 d5 d6 d7 d8
    have HB2 := hid (HB1.out.drew.trans (HK2.out.toBelow (fun k h => by omega) (by have := HB1.out.size; exact this)))
    clear HR2 HK2 HS HB1
    go_wp2_with (go_at_call 130; refine (HSt.out _ HB2.out).mono ?_; clear HSt; intro e w4 hP; have he := hP.1; subst he)
    go_end0
    exact hP.from HB2.out

end Go.Proofs.YtbpnllhhmookcaaGreatDoor
