/- aliquot. -/
import Derived.Test.YtbpnllhhmookcaaGreatDoorKk24
import Derived.Test.YtbpnllhhmookcaaGreatDoorKk21
import Derived.Test.YtbpnllhhmookcaaGreatDoorKk18
namespace Go.Proofs.YtbpnllhhmookcaaGreatDoor
open Go.RowKit Go.Shelf
attribute [local go_sem] run_store_cplx

set_option maxRecDepth 8000 in
set_option maxHeartbeats 8000000 in
theorem aliquot_any (n₀ b : Nat) (m : Cm) (hm : m.Ok) (ht : 1 ≤ m.t ∧ m.t < m.o) (hv1 : 1 ≤ m.v) (L : Led) (w : World) (hT : TxL n₀ w b L) (hf : L.kvs.length + 4 < 7000) (q : PT) (hq : L.tube m.t = some q) (hv : m.v ≤ q.left) (hp : L.pouredN m.t m.o + m.v ≤ 1000000) :
    Calls Tryz.prog 103 #[.pointer (some ⟨b, 0, none⟩), m.val] w (PutL b ((L.putT m.o ⟨m.x, m.y, m.b, q.donor, 1, 0, 0, 0, 0, 0⟩).pourL m) w) := by
  have hbl : b < w.heap.size := by obtain ⟨⟨⟨r, hB, hI⟩, hf⟩, _, _⟩ := hT; exact hB.lt
  have hmx := hm.x
  have hmy := hm.y
  have hmo := hm.o
  have hmv := hm.v
  have hC0 := Cm.has_new w 31 m
  have hl0 := has_new_lt w m
  have hb0 : Below w.heap.size w (w.alloc (.cells #[.int .i64 m.k, .int .i64 m.t, .int .i64 m.o, .int .i64 m.d, .int .i64 m.v, .int .i64 m.b, .int .i64 m.x, .int .i64 m.y, .int .i64 m.n] 31)) := (Below.refl _ w).alloc (Nat.le_refl _) _
  have hpl := @placeAt_any m.x m.y (by omega) (by omega)
  have hqG : q.Good := (hT.ok.t1 _ ((Led.tube_mem hT.ok).1 hq)).2.2
  have hqD : L.tubeD m.t = q := by unfold Led.tubeD; rw [hq]; rfl
  have HTu := hid (tube_led n₀ b m.t L _ (hT.below hb0) (by have := hm.t; omega))
  rw [hqD, hq] at HTu
  have hG : (⟨m.x, m.y, m.b, q.donor, 1, 0, 0, 0, 0, 0⟩ : PT).Good := by
    have h1 := hm.b; have h2 := hqG.donor
    constructor <;> simp only <;> omega
  have HSt : Hid (∀ u, Below w.heap.size w u → Calls Tryz.prog 130 #[.pointer (some ⟨b, 0, none⟩), .int .i64 m.o, .agg #[.complex .f64 (fl m.x) (fl m.y), .int .i64 m.b, .int .i64 q.donor, .int .i64 1, .int .i64 0, .int .i64 0, .int .i64 0, .int .i64 0, .int .i64 0]] u (PutL b (L.putT m.o ⟨m.x, m.y, m.b, q.donor, 1, 0, 0, 0, 0, 0⟩) u)) :=
    hid (fun u hu => setTube_led n₀ b m.o ⟨m.x, m.y, m.b, q.donor, 1, 0, 0, 0, 0, 0⟩ hG L u (hT.below hu) ⟨by omega, hmo⟩ (by omega))
  have hlen := Led.putT_len L m.o ⟨m.x, m.y, m.b, q.donor, 1, 0, 0, 0, 0, 0⟩
  have HPo := hid (fun n₁ u (hu : TxL n₁ u b (L.putT m.o ⟨m.x, m.y, m.b, q.donor, 1, 0, 0, 0, 0, 0⟩)) => pour_any n₁ b m hm ht hv1 _ u hu (by omega) q ⟨m.x, m.y, m.b, q.donor, 1, 0, 0, 0, 0, 0⟩ (by rw [Led.putT_tube, if_neg (by omega)]; exact hq) (by rw [Led.putT_tube, if_pos rfl]) hv (by simp only; omega) (by exact hp))
  simp only [pl, PT.val, PT.cells, Option.isSome_some] at hpl HTu
  unfold Cm.val at *
  have HC0 := hid hC0
  have HB0 := hid hb0
  clear hT hC0 hb0 hG hqG hqD hlen hq
  go_enter Tryz.func103, Tryz.ntmps103
  go_wp2_with fail
  refine HTu.out.mono ?_
  clear HTu
  rintro e w1 ⟨rfl, hb1⟩
  have hs1 : w.heap.size + 1 ≤ w1.heap.size := by have := hb1.size; simp at this; exact this
  have hC1 := HC0.out.below hb1 hl0
  have hB1 : Below w.heap.size w w1 := HB0.out.trans (hb1.mono (by omega))
  have hbA : Below w1.heap.size w1 (w1.alloc (.cells #[.complex .f64 (fl q.x) (fl q.y), .int .i64 q.box, .int .i64 q.donor, .int .i64 q.status, .int .i64 q.thaws, .int .i64 q.began, .int .i64 q.left, .int .i64 q.used, .int .i64 q.lost] 182)) := (Below.refl _ w1).alloc (Nat.le_refl _) _
  have hsA : (w1.alloc (.cells #[.complex .f64 (fl q.x) (fl q.y), .int .i64 q.box, .int .i64 q.donor, .int .i64 q.status, .int .i64 q.thaws, .int .i64 q.began, .int .i64 q.left, .int .i64 q.used, .int .i64 q.lost] 182)).heap.size = w1.heap.size + 1 := by simp
  have hbB : Below w1.heap.size w1 ((w1.alloc (.cells #[.complex .f64 (fl q.x) (fl q.y), .int .i64 q.box, .int .i64 q.donor, .int .i64 q.status, .int .i64 q.thaws, .int .i64 q.began, .int .i64 q.left, .int .i64 q.used, .int .i64 q.lost] 182)).alloc (.cells #[.complex .f64 0 0, .int .i64 0, .int .i64 q.donor, .int .i64 0, .int .i64 0, .int .i64 0, .int .i64 0, .int .i64 0, .int .i64 0] 182)) := hbA.alloc (by omega) _
  have hX := World.alloc_heap_new (w1.alloc (.cells #[.complex .f64 (fl q.x) (fl q.y), .int .i64 q.box, .int .i64 q.donor, .int .i64 q.status, .int .i64 q.thaws, .int .i64 q.began, .int .i64 q.left, .int .i64 q.used, .int .i64 q.lost] 182)) (.cells #[.complex .f64 0 0, .int .i64 0, .int .i64 q.donor, .int .i64 0, .int .i64 0, .int .i64 0, .int .i64 0, .int .i64 0, .int .i64 0] 182)
  rw [hsA] at hX
  have hX' : RecBox ((w1.alloc (.cells #[.complex .f64 (fl q.x) (fl q.y), .int .i64 q.box, .int .i64 q.donor, .int .i64 q.status, .int .i64 q.thaws, .int .i64 q.began, .int .i64 q.left, .int .i64 q.used, .int .i64 q.lost] 182)).alloc (.cells #[.complex .f64 0 0, .int .i64 0, .int .i64 q.donor, .int .i64 0, .int .i64 0, .int .i64 0, .int .i64 0, .int .i64 0, .int .i64 0] 182)) (w1.heap.size + 1) (⟨0, 0, 0, q.donor, 0, 0, 0, 0, 0, 0⟩ : PT).cells := hX
  have hl1 : w1.heap.size + 1 < ((w1.alloc (.cells #[.complex .f64 (fl q.x) (fl q.y), .int .i64 q.box, .int .i64 q.donor, .int .i64 q.status, .int .i64 q.thaws, .int .i64 q.began, .int .i64 q.left, .int .i64 q.used, .int .i64 q.lost] 182)).alloc (.cells #[.complex .f64 0 0, .int .i64 0, .int .i64 q.donor, .int .i64 0, .int .i64 0, .int .i64 0, .int .i64 0, .int .i64 0, .int .i64 0] 182)).heap.size := by simp
  have hC2 := hC1.below hbB (by omega)
  have hB2 := hB1.trans (hbB.mono (by omega))
  have HB2 := hid hB2
  have HC2 := hid hC2
  have HX := hid hX'
  clear hX hX' hC2 hB2 hbB hsA hbA hB1 hC1 hb1 HB0 HC0
  go_upto_region 3 with fail
  generalize ((w1.alloc (.cells #[.complex .f64 (fl q.x) (fl q.y), .int .i64 q.box, .int .i64 q.donor, .int .i64 q.status, .int .i64 q.thaws, .int .i64 q.began, .int .i64 q.left, .int .i64 q.used, .int .i64 q.lost] 182)).alloc (.cells #[.complex .f64 0 0, .int .i64 0, .int .i64 q.donor, .int .i64 0, .int .i64 0, .int .i64 0, .int .i64 0, .int .i64 0, .int .i64 0] 182)) = w2 at *
  obtain ⟨c0, c1, c2, c3, c4, c5, c6, c7, c8⟩ := all9.1 HC2.out.1
  simp only [Cm.ints] at c0 c1 c2 c3 c4 c5 c6 c7 c8
  have HS := hid (store_any (w1.heap.size + 1) _ m.b m.x m.y w2.drew HX.out)
  simp only [pl] at HS
  clear HX
  have hlt : w.heap.size < w2.heap.size := by omega
  have hne : w.heap.size ≠ w1.heap.size + 1 := by omega
  go_region_held3 (fun u => u.cell? ⟨w.heap.size, 5, none⟩ = some (.int .i64 m.b) ∧ u.cell? ⟨w.heap.size, 6, none⟩ = some (.int .i64 m.x) ∧ u.cell? ⟨w.heap.size, 7, none⟩ = some (.int .i64 m.y)) (go_keep) (first
    | (go_at_call 124; refine (hpl _).mono ?_; rintro e w' ⟨rfl, rfl⟩)
    | (go_at_call 129; refine HS.out.mono ?_; rintro e w3 ⟨rfl, hr2, hk2⟩; have c5 := (hk2.cell (p := ⟨w.heap.size, 5, none⟩) hlt hne).trans c5; have c6 := (hk2.cell (p := ⟨w.heap.size, 6, none⟩) hlt hne).trans c6; have c7 := (hk2.cell (p := ⟨w.heap.size, 7, none⟩) hlt hne).trans c7; have HR2 := hid hr2; have HK2 := hid hk2; clear hr2 hk2))
  all_goals
    obtain ⟨d0, d1, d2, d3, d4, d5, d6, d7, d8⟩ := HR2.out.cells
    simp only [PT.stored] at d0 d1 d2 d3 d4 d5 d6 d7 d8
    have HB3 := hid (HB2.out.drew.trans (HK2.out.toBelow (fun k h => by omega) (by have := HB2.out.size; exact this)))
    have HC3 := hid (has_keeps (w := w2.drew) HC2.out HK2.out hlt hne)
    have hlt3 : w.heap.size < w3.heap.size := Nat.lt_of_lt_of_le hlt HK2.out.size
    clear HR2 HK2 HS HB2 HC2 c0 c1 c2 c3 c4 c5 c6 c7 c8
    have c2 := HC3.out.1 2 (by omega)
    simp only [Cm.ints] at c2
    go_wp2_with fail
    refine (HSt.out _ HB3.out).mono ?_
    clear HSt d0 d1 d2 d3 d4 d5 d6 d7 d8 c2
    rintro e w4 ⟨rfl, hT4, hk4⟩
    have HC4 := hid (has_keeps HC3.out hk4 hlt3 (by show w.heap.size ≠ b; omega))
    have HK4 := hid ((below_toKeeps HB3.out (fun g => g = b)).trans hk4)
    obtain ⟨c0, c1, c2, c3, c4, c5, c6, c7, c8⟩ := all9.1 HC4.out.1
    simp only [Cm.ints] at c0 c1 c2 c3 c4 c5 c6 c7 c8
    clear HC4 HC3 HB3 hk4
    go_wp2_with fail
    refine (HPo.out _ _ hT4).mono ?_
    clear HPo c0 c1 c2 c3 c4 c5 c6 c7 c8
    rintro e w5 ⟨rfl, hT5, hk5⟩
    go_wp2_with fail
    go_end0
    exact ⟨rfl, hT5, HK4.out.trans hk5⟩

end Go.Proofs.YtbpnllhhmookcaaGreatDoor

/- Many tubes changed, one behind the other. -/
namespace Go.Proofs.YtbpnllhhmookcaaGreatDoor
open Go.RowKit Go.Shelf

namespace Led
theorem chg_append (L : Led) (f : PT → PT) (pre : List TN) (x : TN) : L.chg f (pre ++ [x]) = (L.chg f pre).putT x.1 (f x.2) := by simp [chg]
theorem chg_cons (L : Led) (f : PT → PT) (pre : List TN) (x : TN) : L.chg f (x :: pre) = (L.putT x.1 (f x.2)).chg f pre := by simp [chg]
theorem chg_out (f : PT → PT) (n : Nat) : ∀ (pre : List TN) (L : Led), (∀ t ∈ pre, t.1 ≠ n) → (L.chg f pre).tube n = L.tube n
  | [], _, _ => rfl
  | x :: pre, L, h => by
    rw [chg_cons, chg_out f n pre _ (fun t ht => h t (List.mem_cons_of_mem _ ht)), putT_tube, if_neg (fun e => h x (List.mem_cons_self ..) e.symm)]
theorem chg_ok (f : PT → PT) : ∀ (pre : List TN) (L : Led), L.Ok → (∀ t ∈ pre, 1 ≤ t.1 ∧ t.1 ≤ 999 ∧ (f t.2).Good) → (L.chg f pre).Ok
  | [], _, h, _ => h
  | x :: pre, L, h, hp => by
    rw [chg_cons]
    have hx := hp x (List.mem_cons_self ..)
    exact chg_ok f pre _ (h.insT ⟨hx.1, hx.2.1⟩ hx.2.2) (fun t ht => hp t (List.mem_cons_of_mem _ ht))
theorem chg_len (f : PT → PT) : ∀ (pre : List TN) (L : Led), (L.chg f pre).kvs.length ≤ L.kvs.length + pre.length
  | [], _ => Nat.le_refl _
  | x :: pre, L => by
    rw [chg_cons]
    have h1 := chg_len f pre (L.putT x.1 (f x.2))
    have h2 := putT_len L x.1 (f x.2)
    simp only [List.length_cons]; omega
end Led

theorem noNode_of {W : World} {g : Nat} {o : Obj} (h : W.heap[g]? = some o) (hc : o.isCells = false) : NoNode W g := by
  have e : ∀ i, W.cell? ⟨g, i, none⟩ = none := fun i => by
    simp only [World.cell?, h]
    cases o <;> first | rfl | cases hc
  refine ⟨fun s l c h => ?_, fun o k h => ?_⟩
  · rw [e] at h; cases h
  · rw [e] at h; cases h

theorem own_txl {n₁ b : Nat} {L : Led} {W W' : World} {row : Option Nat} {B : Nat} (h : TxL n₁ W b L) (hg : W.grownBy W' row) (hr : ∀ r, row = some r → B ≤ r ∧ ∃ o : Obj, W.heap[r]? = some o ∧ o.isCells = false) : TxL n₁ W' b L := by
  obtain ⟨⟨⟨rt, h1, h2⟩, h3⟩, h4, h5⟩ := h
  refine ⟨⟨⟨rt, own_blk h1 hg hr, ?_⟩, h3⟩, h4, h5⟩
  refine h2.keptX (X := fun g => row = some g) hg.size (fun g o v hX hc => ?_) (fun g hX => ?_)
  · have hl : g < W.heap.size := by
      rcases Nat.lt_or_ge g W.heap.size with h | h
      · exact h
      · simp only [World.cell?, Array.getElem?_eq_none h] at hc; cases hc
    rw [World.cell?_of_block (w := W) (hg.block g hl (fun e => hX e.symm))]; exact hc
  · obtain ⟨_, o, ho, hc⟩ := hr g hX
    exact noNode_of ho hc

/-- What a loop that changes tubes goes through: no tube comes twice. -/
structure Sel (L : Led) (l : List TN) : Prop where
  mem : ∀ t ∈ l, t ∈ L.ts
  pw : l.Pairwise fun a b => a.1 < b.1
theorem Sel.filter {L : Led} (h : L.Ok) (p : TN → Bool) : Sel L (L.ts.filter p) := ⟨fun _ ht => (List.mem_filter.1 ht).1, h.ts.filter p⟩
theorem Sel.next {L : Led} (hL : L.Ok) {l pre : List TN} {x : TN} (h : Sel L l) (hp : (pre ++ [x]) <+: l) (f : PT → PT) : (L.chg f pre).tube x.1 = some x.2 := by
  have hpw : (pre ++ [x]).Pairwise fun a b : TN => a.1 < b.1 := h.pw.sublist hp.sublist
  rw [Led.chg_out f x.1 pre L (fun t ht => by
    have := (List.pairwise_append.1 hpw).2.2 t ht x (by simp); omega)]
  exact (Led.tube_mem hL).2 (h.mem x (hp.subset (by simp)))
theorem Sel.chg_ok {L : Led} (hL : L.Ok) {l pre : List TN} (h : Sel L l) (hp : pre <+: l) {f : PT → PT} (hf : ∀ t ∈ l, (f t.2).Good) : (L.chg f pre).Ok :=
  Led.chg_ok f pre L hL (fun t ht => ⟨(hL.t1 t (h.mem t (hp.subset ht))).1, (hL.t1 t (h.mem t (hp.subset ht))).2.1, hf t (hp.subset ht)⟩)

end Go.Proofs.YtbpnllhhmookcaaGreatDoor

/- turn. -/
namespace Go.Proofs.YtbpnllhhmookcaaGreatDoor
open Go.RowKit Go.Shelf

attribute [local go_sem] Oper.semAt_some

set_option maxRecDepth 8000 in
set_option maxHeartbeats 16000000 in
theorem turn_any (n₀ b : Nat) (m : Cm) (hm : m.Ok) (L : Led) (w : World) (hT : TxL n₀ w b L) (hnb : n₀ ≤ b) (hf : L.kvs.length < 3000) (hin : ∀ t ∈ L.ts.filter (inBox m.b), t.2.x < L.sideN m.b ∧ t.2.y < L.sideN m.b) :
    Calls Tryz.prog 109 #[.pointer (some ⟨b, 0, none⟩), m.val] w fun e w' => e = .returned (.tuple #[]) ∧ (∃ n₁, TxL n₁ w' b (L.chg (fun q : PT => q.turnedBy (L.sideN m.b) m.n) (L.ts.filter (inBox m.b)))) ∧ Keeps (fun k => k = b) w w' := by
  have hmf := Run.makeFunc
  have hbl : b < w.heap.size := by obtain ⟨⟨⟨r, hB, hI⟩, hf⟩, _, _⟩ := hT; exact hB.lt
  have hn0 : n₀ ≤ w.heap.size := by obtain ⟨⟨⟨r, hB, hI⟩, hf⟩, _, _⟩ := hT; exact hI.2.1
  have hmb := hm.b
  have hmn := hm.n
  have hL := hT.ok
  have hs5 := Led.sideN_lt hL m.b
  have hSel := Sel.filter hL (inBox m.b)
  have hgood : ∀ t ∈ L.ts.filter (inBox m.b), ((fun q : PT => q.turnedBy (L.sideN m.b) m.n) t.2).Good := fun t ht => by
    have h1 := (hL.t1 t (List.mem_filter.1 ht).1).2.2
    have h2 := hin t ht
    have h3 := turnXY_lt (p := (t.2.x, t.2.y)) h2.1 h2.2 m.n
    exact ⟨by show (turnXY _ _ _).1 < 5; omega, by show (turnXY _ _ _).2 < 5; omega, h1.box, h1.donor, h1.status, h1.thaws, h1.began, h1.left, h1.used, h1.lost⟩
  have hbA : Below w.heap.size w (w.alloc (.cells #[.pointer (some ⟨b, 0, none⟩)] 167)) := (Below.refl _ w).alloc (Nat.le_refl _) _
  have hsA : (w.alloc (.cells #[.pointer (some ⟨b, 0, none⟩)] 167)).heap.size = w.heap.size + 1 := by simp
  have hC0 := Cm.has_new (w.alloc (.cells #[.pointer (some ⟨b, 0, none⟩)] 167)) 31 m
  have hb0 := hbA.alloc (by omega) (.cells #[.int .i64 m.k, .int .i64 m.t, .int .i64 m.o, .int .i64 m.d, .int .i64 m.v, .int .i64 m.b, .int .i64 m.x, .int .i64 m.y, .int .i64 m.n] 31)
  have hs0 : ((w.alloc (.cells #[.pointer (some ⟨b, 0, none⟩)] 167)).alloc (.cells #[.int .i64 m.k, .int .i64 m.t, .int .i64 m.o, .int .i64 m.d, .int .i64 m.v, .int .i64 m.b, .int .i64 m.x, .int .i64 m.y, .int .i64 m.n] 31)).heap.size = w.heap.size + 2 := by simp
  have hBx := boxed_below (Boxed.new w 167 (.pointer (some ⟨b, 0, none⟩))) ((Below.refl _ _).alloc (Nat.le_refl _) (.cells #[.int .i64 m.k, .int .i64 m.t, .int .i64 m.o, .int .i64 m.d, .int .i64 m.v, .int .i64 m.b, .int .i64 m.x, .int .i64 m.y, .int .i64 m.n] 31))
  rw [hsA] at hC0
  have HSi := hid (side_led n₀ b m.b L _ (hT.below hb0) (by omega))
  have HB := hid hb0
  have HC := hid hC0
  have HBx := hid hBx
  have HT := hid hT
  clear hb0 hC0 hBx hbA hsA hT
  unfold Cm.val
  refine calls_marks Tryz.func109 rfl ?_
  simp only [Tryz.ntmps109, List.size_toArray, List.length_cons, List.length_nil, Nat.reduceAdd, Nat.reduceSub, Array.replicate_succ, Array.replicate_zero, List.push_toArray, List.append_toArray, List.nil_append, List.cons_append]
  go_wp2_with fail
  refine HSi.out.mono ?_
  clear HSi
  rintro e w1 ⟨rfl, hb1⟩
  have hB1 : Below w.heap.size w w1 := HB.out.trans (hb1.mono (by omega))
  have hs1 : w.heap.size + 2 ≤ w1.heap.size := by have := hb1.size; omega
  have hC1 := HC.out.below hb1 (by omega)
  have hBx1 := boxed_below HBx.out hb1
  have hbS : Below w1.heap.size w1 (w1.alloc (.cells #[.int .i64 (L.sideN m.b)] 3)) := (Below.refl _ _).alloc (Nat.le_refl _) _
  have hSB := Boxed.new w1 3 (.int .i64 (L.sideN m.b))
  have hsS : (w1.alloc (.cells #[.int .i64 (L.sideN m.b)] 3)).heap.size = w1.heap.size + 1 := by simp
  have hC2 := hC1.below hbS (by omega)
  have hBx2 := boxed_below hBx1 hbS
  have hB2 := hB1.trans (hbS.mono (by omega))
  have c5 := hC1.1 5 (by omega)
  have c5' := hC2.1 5 (by omega)
  have x0 := hBx1.cell
  have x0' := hBx2.cell
  simp only [Cm.ints] at c5 c5'
  have HIn := hid (in_any n₀ b m.b L.kvs L.ts HT.out.toks (Led.sel_ts hL) _ (HT.out.below hB2).tx)
  have HB2 := hid hB2
  have HC2 := hid hC2
  have HBx2 := hid hBx2
  have HSB := hid hSB
  have HsS := hid hsS
  clear hB2 hC2 hBx2 hSB hbS hC1 hBx1 hb1 hB1 HB HC HBx hsS hs0
  go_wp2_with (go_at_call 143; refine HIn.out.mono ?_; clear HIn; rintro e w3 ⟨lb, rfl, hG, hb3⟩)
  have hB2 := HB2.out
  have hC2 := HC2.out
  have hBx2 := HBx2.out
  have hSB2 := HSB.out
  have hs2 := HsS.out
  clear c5 c5' x0 x0' HB2 HC2 HBx2 HSB HsS
  generalize w1.alloc (.cells #[.int .i64 (L.sideN m.b)] 3) = w2 at *
  have hs3 := hb3.size
  have hB3 : Below w.heap.size w w3 := hB2.trans (hb3.mono (by omega))
  have hC3 := hC2.below hb3 (by omega)
  have hBx3 := boxed_below hBx2 hb3
  have hSB3 := boxed_below hSB2 hb3
  have hT3 := HT.out.below hB3
  have hk3 : Keeps (fun k => k = b) w w3 := below_toKeeps hB3 _
  refine (wpIn_wide (n := 0)).1 ?_
  refine rangeM_law (gf := 168) (lb := lb) rfl (enters_of Tryz.func168 (by kernel_rfl) rfl) (hG (fun _ => False) w3 (fun k => k = b) (Keeps.refl _ _) (fun _ h => h.elim) (fun k h => by omega)) (Below.refl _ _) (fun k h => by omega) (fun _ => rfl)
    (fun M pre V => pre <+: L.ts.filter (inBox m.b) ∧ Boxed V w.heap.size 167 (.pointer (some ⟨b, 0, none⟩)) ∧ Has V (w.heap.size + 1) m.ints ∧ Boxed V w1.heap.size 3 (.int .i64 (L.sideN m.b)) ∧ (∃ n₁, TxL n₁ V b (L.chg (fun q : PT => q.turnedBy (L.sideN m.b) m.n) pre)) ∧ Keeps (fun k => k = b) w V ∧ w.heap.size + 2 < V.heap.size)
    (fun _ _ _ _ => False)
    (fun _ s A B row hs hg hr => by
      obtain ⟨h0, h1, h2, h3, ⟨n₁, h4⟩, h5, h6⟩ := hs
      refine ⟨h0, own_boxed h1 hg hr, ?_, own_boxed h3 hg hr, ⟨n₁, own_txl h4 hg hr⟩, own_keeps h5 hk3.size hg hr, by have := hg.size; omega⟩
      have hb : B.heap[w.heap.size + 1]? = A.heap[w.heap.size + 1]? := hg.block _ (by omega) (fun e => by have := (hr _ e.symm).1; omega)
      exact ⟨fun i hi => (World.cell?_of_block (w := A) (a := ⟨w.heap.size + 1, i, none⟩) hb).trans (h2.1 i hi), fun i => (World.frozen?_of_block (w := A) (a := ⟨w.heap.size + 1, i, none⟩) hb).trans (h2.2 i)⟩)
    (fun _ c s A B row hs hg hr => hs.elim)
    (fun _ _ => ⟨List.nil_prefix, hBx3, hC3, hSB3, ⟨n₀, hT3⟩, hk3, by omega⟩)
    (fun x a' V => ∃ v15, a' = { tmps := #[.pointer (some ⟨b, 0, none⟩), .agg #[.int .i64 m.k, .int .i64 m.t, .int .i64 m.o, .int .i64 m.d, .int .i64 m.v, .int .i64 m.b, .int .i64 m.x, .int .i64 m.y, .int .i64 m.n], .pointer (some ⟨w.heap.size, 0, none⟩), .pointer (some ⟨w.heap.size + 1, 0, none⟩), .pointer (some ⟨w1.heap.size, 0, none⟩), .int .i64 x.1, .pointer (some ⟨b, 0, none⟩), .pointer (some ⟨w.heap.size + 1, 5, none⟩), .int .i64 m.b, .int .i64 (L.sideN m.b), .pointer (some ⟨b, 0, none⟩), .pointer (some ⟨w.heap.size + 1, 5, none⟩), .int .i64 m.b, .func (.func 168) #[] lb, .int .i64 x.1, v15, undef, undef, undef, undef], defers := [] })
    (fun x a' _ A B row hs hg hr => hs) ?assign ?body ?done ?stop
  case assign =>
    intro y M pre x V K hM1 hM2 _ hi hK
    simp only [encT]
    gi_wp2
    exact hK _ _ (Keeps.refl _ _) hi ⟨_, rfl⟩
  case body =>
    rintro y M pre x a' V hy1 hy2 hM1 hM2 hp ⟨hpre, hbox, hcm, hsd, ⟨n₁, htx⟩, hk, hsz⟩ ⟨v15, rfl⟩
    have hxm : x ∈ L.ts.filter (inBox m.b) := hp.subset (by simp)
    have hxt := hL.t1 x (List.mem_filter.1 hxm).1
    have hc2 := hbox.cell
    have hplen : pre.length ≤ L.kvs.length := by
      have h1 := hpre.length_le
      have h2 := List.length_filter_le (inBox m.b) L.ts
      rw [Led.len]; omega
    have HCh := hid (change_led n₁ b x.1 144 #[.pointer (some ⟨w.heap.size + 1, 0, none⟩), .pointer (some ⟨w1.heap.size, 0, none⟩)] x.2 ((fun q : PT => q.turnedBy (L.sideN m.b) m.n) x.2) (hgood x hxm) _ V htx ⟨hxt.1, hxt.2.1⟩ (by have := Led.chg_len (fun q : PT => q.turnedBy (L.sideN m.b) m.n) pre L; omega) (hSel.next hL hp _) (enters_of Tryz.func144 (by kernel_rfl) rfl) (turn_turns hcm (by omega) rfl (by omega) hsd.cell hsd.lt (hin x hxm).1 (hin x hxm).2 hs5))
    gi_wp2
    refine ⟨trivial, rfl, (CallsIn.inRound _ (callsIn_wide.2 HCh.out)).mono ?_⟩
    rintro e w5 ⟨rfl, hT5, hk5⟩
    gi_wp2
    refine ⟨hk5.mono (fun k _ h => .inl h), hp, keeps_same hk5 (by omega) hbox, has_keeps hcm hk5 (by omega) (by omega), keeps_same hk5 (by omega) hsd, ⟨w5.heap.size, ?_⟩, hk.trans hk5, by have := hk5.size; omega⟩
    rw [Led.chg_append]; exact hT5
  case done =>
    rintro M V hM ⟨hpre, hbox, hcm, hsd, ⟨n₁, htx⟩, hk, hsz⟩ hD
    go_wp2_with fail
    refine none_end (by kernel_rfl) hD ⟨rfl, ⟨n₁, ?_⟩, ?_⟩
    · exact own_txl (B := 0) htx (grownBy_putObj' V _ _) (fun r e => by cases e; exact ⟨Nat.zero_le _, _, hD, rfl⟩)
    · exact own_keeps hk hk3.size (grownBy_putObj' V _ _) (fun r e => by cases e; exact ⟨Nat.le_refl _, _, hD, rfl⟩)
  case stop =>
    rintro M c pre V hM hp h hD
    exact h.elim

end Go.Proofs.YtbpnllhhmookcaaGreatDoor
