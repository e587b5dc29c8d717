/- firnkeep: plays, among. -/
import Derived.Test.YtbpnllhhmookcaaGreatDoorKk39
import Derived.Test.YtbpnllhhmookcaaGreatDoorKk40
namespace Go.Proofs.YtbpnllhhmookcaaGreatDoor
open Go.RowKit Go.Shelf

/-- A ledger that a script may come to. -/
def Reach (L L' : Led) : Prop := ∀ P : Led → Prop, P L → (∀ (M : Led) (m : Cm), M.Inv → P M → CmR m → P (M.stepL 32 m)) → P L'
theorem Reach.refl (L : Led) : Reach L L := fun _ h _ => h
theorem Reach.step {L M : Led} {m : Cm} (h : Reach L M) (hI : M.Inv) (hm : CmR m) : Reach L (M.stepL 32 m) := fun P h0 hs => hs M m hI (h P h0 hs) hm

/-- What lies in memory at each round of plays. -/
structure PS (W : World) (sb l k : Nat) (p0 : Int) (L0 : Led) (p : Int) (L : Led) (wr : World) : Prop where
  st : KAt wr sb l p L
  bel : Below W.heap.size W wr
  far : W.heap.size ≤ sb ∧ W.heap.size ≤ l
  rch : Reach L0 L
  cnt : p0 ≤ p ∧ p ≤ p0 + k

theorem PS.below {W wr w' : World} {sb l k : Nat} {p0 p : Int} {L0 L : Led} (h : PS W sb l k p0 L0 p L wr) (hb : Below wr.heap.size wr w') : PS W sb l k p0 L0 p L w' :=
  ⟨h.st.below hb, h.bel.trans (hb.mono h.bel.size), h.far, h.rch, h.cnt⟩
theorem PS.may {W wr w' : World} {sb l k : Nat} {p0 p : Int} {L0 L : Led} {m : Cm} (h : PS W sb l k p0 L0 p L wr) (hs : KAt w' sb l (mayP m p) L) (hk : Keeps (fun k => k = sb) wr w') : PS W sb l (k + 1) p0 L0 (mayP m p) L w' :=
  ⟨hs, below_keeps h.bel hk (fun _ e => e ▸ h.far.1), h.far, h.rch, by have := h.cnt; unfold mayP; split <;> omega⟩
theorem PS.done {W wr w' : World} {sb l k : Nat} {p0 p : Int} {L0 L : Led} {m : Cm} (h : PS W sb l k p0 L0 p L wr) (hm : CmR m) (hs : KAt w' sb l p (L.stepL 32 m)) (hk : Keeps (fun k => k = l) wr w') : PS W sb l k p0 L0 p (L.stepL 32 m) w' :=
  ⟨hs, below_keeps h.bel hk (fun _ e => e ▸ h.far.2), h.far, h.rch.step h.st.inv hm, h.cnt⟩

set_option maxRecDepth 8000 in
set_option maxHeartbeats 4000000 in
theorem plays_any (v : Value) (n : Nat) (R : Nat → Nat → Int) (W : World) (hR : RawsIn W v n R) (sb l : Nat) (p0 : Int) (L0 : Led) (hp0 : 0 ≤ p0 ∧ p0 ≤ 100) (w : World) (hP : PS W sb l 0 p0 L0 p0 L0 w) :
    Calls Tryz.prog 13 #[.pointer (some ⟨sb, 0, none⟩), v] w fun e w' => e = .returned (.tuple #[]) ∧ ∃ p L, PS W sb l 60 p0 L0 p L w' := by
  obtain ⟨oa, cap, rfl, hn, hel⟩ := hR
  have HEl := hid hel
  have HP := hid hP
  clear hel hP
  go_enter Tryz.func13, Tryz.ntmps13
  go_wp2_with fail
  go_loopw [4] (fun i wr => ∃ k : Nat, k ≤ 60 ∧ k ≤ n ∧ i = .int .i64 k ∧ ∃ p L, PS W sb l k p0 L0 p L wr) (fun i _ => 60 - (intOf i).toNat)
  case atStart => exact ⟨0, by omega, by omega, rfl, p0, L0, HP.out⟩
  case round =>
    clear HP
    obtain ⟨k, hk60, hkn, rfl, p, L, hPS⟩ := hrel
    by_cases hlt : k < n ∧ k < 60
    · obtain ⟨a, rfl, hab, hcell, hi64⟩ := HEl.out k hlt.1
      obtain ⟨hl1, hl2⟩ := hlt
      have hbw := hPS.bel
      have x0 : wr.cell? (a.add (k * 5)) = some (.int .i64 (R k 0)) := by exact (hbw.cell (by rw [Addr.add_block]; exact hab)).trans (hcell 0 (by omega))
      have x1 : wr.cell? ⟨(a.add (k * 5)).block, (a.add (k * 5)).off + 1, none⟩ = some (.int .i64 (R k 1)) := by show wr.cell? ((a.add (k * 5)).add 1) = _; rw [Addr.addadd]; exact (hbw.cell (by rw [Addr.add_block]; exact hab)).trans (hcell 1 (by omega))
      have x2 : wr.cell? ⟨(a.add (k * 5)).block, (a.add (k * 5)).off + 2, none⟩ = some (.int .i64 (R k 2)) := by show wr.cell? ((a.add (k * 5)).add 2) = _; rw [Addr.addadd]; exact (hbw.cell (by rw [Addr.add_block]; exact hab)).trans (hcell 2 (by omega))
      have x3 : wr.cell? ⟨(a.add (k * 5)).block, (a.add (k * 5)).off + 3, none⟩ = some (.int .i64 (R k 3)) := by show wr.cell? ((a.add (k * 5)).add 3) = _; rw [Addr.addadd]; exact (hbw.cell (by rw [Addr.add_block]; exact hab)).trans (hcell 3 (by omega))
      have x4 : wr.cell? ⟨(a.add (k * 5)).block, (a.add (k * 5)).off + 4, none⟩ = some (.int .i64 (R k 4)) := by show wr.cell? ((a.add (k * 5)).add 4) = _; rw [Addr.addadd]; exact (hbw.cell (by rw [Addr.add_block]; exact hab)).trans (hcell 4 (by omega))
      have HX := hid hPS
      have HC := hid (command_any (R k 0) (R k 1) (R k 2) (R k 3) (R k 4) (hi64 0) (hi64 1) (hi64 2) (hi64 3) (hi64 4))
      have hl1' : (k : Int) < (n : Int) := by omega
      have hl2' : (k : Int) < 60 := by omega
      clear hcell hi64 hbw hPS
      go_wp2_with fail
      refine (HC.out _).mono ?_
      clear HC x0 x1 x2 x3 x4
      rintro e w2 ⟨m, rfl, hm, hb2⟩
      have hK2 := HX.out.below hb2
      have hc0 : Below w2.heap.size w2 (w2.alloc (.cells #[.int .i64 m.k, .int .i64 m.t, .int .i64 m.o, .int .i64 m.d, .int .i64 m.v, .int .i64 m.b, .int .i64 m.x, .int .i64 m.y, .int .i64 m.n] 31)) := (Below.refl _ w2).alloc (Nat.le_refl _) _
      have hK3 := hK2.below hc0
      have hH3 := Cm.has_new w2 31 m
      have hlt3 := has_new_lt w2 m
      have hcs : w2.heap.size ≠ sb := by have := hK2.st.lt; omega
      have hpp : 0 ≤ p ∧ p ≤ 1000 := by have := hK2.cnt; omega
      have HM := hid (may_any sb l p L m hpp _ hK3.st)
      have HY := hid (And.intro hm (And.intro hK3 (And.intro hH3 (And.intro hlt3 hcs))))
      unfold Cm.val at *
      clear hm hb2 hK2 hK3 hH3 hlt3 hc0 HX hcs hpp
      go_wp2_with fail
      refine HM.out.mono ?_
      clear HM
      rintro e w4 ⟨rfl, hS4, hk4⟩
      obtain ⟨hm, hK3, hH3, hlt3, hcs⟩ := HY.out
      have hK4 := hK3.may hS4 hk4
      have hH4 := has_keeps hH3 hk4 hlt3 hcs
      clear HY hK3 hH3 hlt3 hS4 hk4 hcs
      generalize w2.heap.size = cb at *
      cases hmb : mayB m p with
      | false =>
        have HE := hid hK4
        clear hK4 hH4 hm
        go_wp2_with fail
        exact ⟨⟨k + 1, by omega, by omega, by go_num, _, _, HE.out⟩, by simp [intOf]; omega⟩
      | true =>
        have HD := hid (kdone_any sb l (mayP m p) L m hm.enc w4 hK4.st)
        have z0 := hH4.1 0 (by omega)
        have z1 := hH4.1 1 (by omega)
        have z2 := hH4.1 2 (by omega)
        have z3 := hH4.1 3 (by omega)
        have z4 := hH4.1 4 (by omega)
        have z5 := hH4.1 5 (by omega)
        have z6 := hH4.1 6 (by omega)
        have z7 := hH4.1 7 (by omega)
        have z8 := hH4.1 8 (by omega)
        simp only [Cm.ints] at z0 z1 z2 z3 z4 z5 z6 z7 z8
        have HY := hid (And.intro hm hK4)
        unfold Cm.val at *
        clear hK4 hH4 hm
        go_wp2_with fail
        refine HD.out.mono ?_
        clear HD z0 z1 z2 z3 z4 z5 z6 z7 z8
        rintro e w5 ⟨vv, rfl, -, hS5, hk5⟩
        have HE := hid (HY.out.2.done HY.out.1 hS5 hk5)
        clear HY hS5 hk5
        go_wp2_with fail
        exact ⟨⟨k + 1, by omega, by omega, by go_num, _, _, HE.out⟩, by simp [intOf]; omega⟩
    · have HE := hid (show PS W sb l 60 p0 L0 p L wr from ⟨hPS.st, hPS.bel, hPS.far, hPS.rch, by have := hPS.cnt; omega⟩)
      have hge : ¬ ((k : Int) < (n : Int) ∧ (k : Int) < 60) := by omega
      clear HEl hPS hlt
      by_cases hA : (k : Int) < (n : Int)
      · have hB : ¬ (k : Int) < 60 := fun h => hge ⟨hA, h⟩
        clear hge
        go_wp2
        go_end0
        exact ⟨rfl, p, L, HE.out⟩
      · clear hge
        go_wp2
        go_end0
        exact ⟨rfl, p, L, HE.out⟩

theorem among_any (z : Int) (v : Value) (zs : List Int) (w : World) (hv : IntsIn w v zs) (hn : zs.length < 1000000) :
    Calls Tryz.prog 14 #[.int .i64 z, v] w fun e w' => e = .returned (.bool (zs.any fun x => x == z)) ∧ ∃ n, w' = w.drewN n := by
  obtain ⟨oa, ca, rfl, hca⟩ := hv.parts
  have HA := hid hca
  clear hca hv
  go_enter Tryz.func14, Tryz.ntmps14
  go_wp2_with fail
  go_loopw [5] (fun i wr => ∃ k nd : Nat, k ≤ zs.length ∧ i = .int .i64 k ∧ wr = w.drewN nd ∧ (zs.take k).any (fun x => x == z) = false) (fun i _ => zs.length - (intOf i).toNat)
  case atStart => exact ⟨0, 0, Nat.zero_le _, rfl, rfl, by simp⟩
  case round =>
    obtain ⟨k, nd, hk, rfl, rfl, hno⟩ := hrel
    have HN := hid hno
    clear hno
    by_cases hlt : k < zs.length
    · obtain ⟨pa, rfl, _, hpa⟩ := HA.out k hlt
      have HZ := hid (show (zs.take (k + 1)).any (fun x => x == z) = (zs[k] == z) by rw [List.take_succ_eq_append_getElem hlt, List.any_append, HN.out]; simp)
      have HT := hid (show (zs[k] == z) = true → (zs.any fun x => x == z) = true from fun h => List.any_eq_true.2 ⟨zs[k], List.getElem_mem hlt, h⟩)
      generalize zs[k] = y at *
      have hlt' : (k : Int) < (zs.length : Int) := by omega
      cases hy : (y == z) with
      | true =>
        have HR := hid (HT.out hy)
        go_wp2
        go_ret
        rw [HR.out]
        exact ⟨rfl, nd, rfl⟩
      | false =>
        have HF := hid (HZ.out.trans hy)
        clear HZ HT HN
        go_wp2_with fail
        exact ⟨⟨k + 1, nd, by omega, by go_num, rfl, HF.out⟩, by simp [intOf]; omega⟩
    · have HR := hid (show (zs.any fun x => x == z) = false by have h := HN.out; rwa [List.take_of_length_le (by omega)] at h)
      clear HN
      go_wp2
      go_ret
      rw [HR.out]
      exact ⟨rfl, nd, rfl⟩

end Go.Proofs.YtbpnllhhmookcaaGreatDoor

/- What scripts keep of a ledger: few tubes, two boxes, nothing in what is destroyed. -/
namespace Go.Proofs.YtbpnllhhmookcaaGreatDoor
namespace Led

def Each (L : Led) (Q : Nat → PT → Prop) : Prop := ∀ n q, L.tube n = some q → Q n q
variable {L : Led} {m : Cm} {Q : Nat → PT → Prop}

theorem Each.put (h : L.Each Q) (n : Nat) (q : PT) (hq : Q n q) : (L.putT n q).Each Q := fun k r hr => by
  rw [putT_tube] at hr
  split at hr
  · next e => subst e; cases hr; exact hq
  · exact h k r hr
theorem Each.chg (f : PT → PT) : ∀ (l : List TN) (L : Led), L.Each Q → (∀ t ∈ l, Q t.1 (f t.2)) → (L.chg f l).Each Q
  | [], _, h, _ => h
  | t :: l, L, h, hl => by
    rw [chg_cons]
    exact Each.chg f l _ (h.put _ _ (hl t (List.mem_cons_self ..))) (fun u hu => hl u (List.mem_cons_of_mem _ hu))
theorem Each.pour (h : L.Each Q) (ht : m.t < m.o) {q r : PT} (hq : L.tube m.t = some q) (hr : L.tube m.o = some r) (h1 : Q m.t (q.less m.v)) (h2 : Q m.o (r.more m.v)) : (L.pourL m).Each Q := by
  have e1 : L.tubeD m.t = q := tubeD_some hq
  have e2 : (L.putT m.t (q.less m.v)).tube m.o = some r := by rw [putT_tube, if_neg (by omega)]; exact hr
  have e3 : (L.putT m.t (q.less m.v)).tubeD m.o = r := tubeD_some e2
  have hT : ∀ n, (L.pourL m).tube n = ((L.putT m.t (q.less m.v)).putT m.o (r.more m.v)).tube n := fun n => by
    unfold pourL; rw [e1]; simp only [e3]; rfl
  intro n s hs
  rw [hT] at hs
  exact (h.put m.t _ h1).put m.o _ h2 n s hs

/-- What scripts keep. -/
def SmallQ (n : Nat) (q : PT) : Prop := n ≤ 12 ∧ q.box ≤ 2 ∧ (q.status = 3 → q.left = 0)
def Small (L : Led) : Prop := L.Each SmallQ

theorem Small.act (h : L.Small) (hI : L.Inv) (hm : CmR m) (he : L.err m = 0) : (L.act m).Small := by
  have hsum : ∀ t ∈ L.ts, SmallQ t.1 t.2 := fun t ht => h t.1 t.2 ((tube_mem hI.ok).2 ht)
  have hD : ∀ n, (L.tube n).isSome = true → SmallQ n (L.tubeD n) := fun n hn => by
    obtain ⟨_, _, e, _⟩ := good_tubeD hI hn
    exact h n _ e
  have hmt := hm.t
  have hmo := hm.o
  have hmb := hm.b
  by_cases h1 : m.k = 1
  · rw [Led.act, if_pos h1]; exact h
  by_cases h2 : m.k = 2
  · rw [Led.act, if_neg h1, if_pos h2]
    exact h.put _ _ ⟨hmt, hmb, fun e => by cases e⟩
  by_cases h3 : m.k = 3
  · rw [Led.act, if_neg h1, if_neg h2, if_pos h3]
    exact h.put _ _ ⟨hmt, hmb, fun e => by cases e⟩
  by_cases h4 : m.k = 4
  · rw [Led.act, if_neg h1, if_neg h2, if_neg h3, if_pos h4]
    obtain ⟨a1, a2, a3, a4, a5⟩ := no4 he h4
    obtain ⟨_, _, e, _⟩ := good_tubeD hI a4
    have hq := hD _ a4
    have h1' : (L.putT m.o ⟨m.x, m.y, m.b, (L.tubeD m.t).donor, 1, 0, 0, 0, 0, 0⟩).Each SmallQ := Each.put h _ _ ⟨hmo, hmb, fun e => by cases e⟩
    exact h1'.pour a1 (q := L.tubeD m.t) (by rw [putT_tube, if_neg (by omega)]; exact e) (r := ⟨m.x, m.y, m.b, (L.tubeD m.t).donor, 1, 0, 0, 0, 0, 0⟩) (by rw [putT_tube, if_pos rfl]) ⟨hmt, hq.2.1, fun e => by have e' : (L.tubeD m.t).status = 3 := e; omega⟩ ⟨hmo, hmb, fun e => by cases e⟩
  by_cases h5 : m.k = 5
  · rw [Led.act, if_neg h1, if_neg h2, if_neg h3, if_neg h4, if_pos h5]
    obtain ⟨a1, a2, a3, a4, a5, a6, a7, a8⟩ := no5 he h5
    obtain ⟨_, _, e, _⟩ := good_tubeD hI a4
    obtain ⟨_, _, e2, _⟩ := good_tubeD hI a5
    exact Each.pour h a1 e e2 ⟨hmt, (hD _ a4).2.1, fun e => by have e' : (L.tubeD m.t).status = 3 := e; omega⟩ ⟨hmo, (hD _ a5).2.1, fun e => by have e' : (L.tubeD m.o).status = 3 := e; omega⟩
  by_cases h6 : m.k = 6
  · rw [Led.act, if_neg h1, if_neg h2, if_neg h3, if_neg h4, if_neg h5, if_pos h6]
    obtain ⟨a1, a2, a3, a4⟩ := no6 he h6
    exact h.put _ _ ⟨hmt, (hD _ a4).2.1, fun e => absurd (show (L.tubeD m.t).status = 3 from e) a3⟩
  by_cases h7 : m.k = 7
  · rw [Led.act, if_neg h1, if_neg h2, if_neg h3, if_neg h4, if_neg h5, if_neg h6, if_pos h7]
    exact h.put _ _ ⟨hmt, Nat.zero_le _, fun e => by cases e⟩
  by_cases h8 : m.k = 8
  · rw [Led.act, if_neg h1, if_neg h2, if_neg h3, if_neg h4, if_neg h5, if_neg h6, if_neg h7, if_pos h8]
    exact h.put _ _ ⟨hmt, hmb, fun e => by cases e⟩
  by_cases h9 : m.k = 9
  · rw [Led.act, if_neg h1, if_neg h2, if_neg h3, if_neg h4, if_neg h5, if_neg h6, if_neg h7, if_neg h8, if_pos h9]
    exact Each.chg _ _ _ h (fun t ht => ⟨(hsum t (List.mem_filter.1 ht).1).1, Nat.zero_le _, fun _ => rfl⟩)
  by_cases h10 : m.k = 10
  · rw [Led.act, if_neg h1, if_neg h2, if_neg h3, if_neg h4, if_neg h5, if_neg h6, if_neg h7, if_neg h8, if_neg h9, if_pos h10]
    exact Each.chg _ _ _ h (fun t ht => hsum t (List.mem_filter.1 ht).1)
  by_cases h11 : m.k = 11
  · rw [Led.act, if_neg h1, if_neg h2, if_neg h3, if_neg h4, if_neg h5, if_neg h6, if_neg h7, if_neg h8, if_neg h9, if_neg h10, if_pos h11]
    exact Each.chg _ _ _ h (fun t ht => hsum t (List.mem_filter.1 ht).1)
  rw [Led.act, if_neg h1, if_neg h2, if_neg h3, if_neg h4, if_neg h5, if_neg h6, if_neg h7, if_neg h8, if_neg h9, if_neg h10, if_neg h11]
  exact h

theorem Small.step (h : L.Small) (hI : L.Inv) (hm : CmR m) : (L.stepL 32 m).Small := by
  unfold stepL
  split
  · next c => exact h.act hI hm c.1
  · exact h

end Led

theorem lg3_small : lg3.Small := fun n q hq => by
  have hT : ∀ n, lg3.tube n = if n = 5 then some ⟨0, 1, 1, 2, 1, 0, 100, 70, 0, 0⟩ else if n = 9 then some ⟨2, 2, 1, 2, 1, 0, 0, 30, 0, 0⟩ else none := fun n => by
    unfold Led.tube lg3
    by_cases h5 : n = 5
    · subst h5; rfl
    · by_cases h9 : n = 9
      · subst h9; rfl
      · have h5' : ¬ 5 = n := fun e => h5 e.symm
        have h9' : ¬ 9 = n := fun e => h9 e.symm
        simp [h5, h9, h5', h9']
  rw [hT] at hq
  split at hq
  · next e => cases hq; subst e; exact ⟨by omega, by show 1 ≤ 2; omega, fun e => by cases e⟩
  · split at hq
    · next e => cases hq; subst e; exact ⟨by omega, by show 1 ≤ 2; omega, fun e => by cases e⟩
    · cases hq

theorem Reach.small {L : Led} (h : Reach lg3 L) : L.Small := h Led.Small lg3_small (fun _ _ hI hP hm => hP.step hI hm)

/-! What lies below several tubes lies below one of them. -/
theorem downF_at (S : Nat → Bool) (p : PN) (j : Nat) : downF S p j = (S j || (S p.1 && decide (j = p.2.1))) := by
  unfold downF
  cases h : S p.1
  · rw [if_neg (by simp)]; simp
  · rw [if_pos rfl]; unfold orL; simp
theorem downF_or (S T : Nat → Bool) (p : PN) : downF (fun j => S j || T j) p = fun j => downF S p j || downF T p j := by
  funext j
  rw [downF_at, downF_at, downF_at]
  cases S j <;> cases T j <;> cases S p.1 <;> cases T p.1 <;> simp
theorem downS_or (ps : List PN) : ∀ S T : Nat → Bool, downS (fun j => S j || T j) ps = fun j => downS S ps j || downS T ps j := by
  induction ps with
  | nil => intro S T; rfl
  | cons p ps ih =>
    intro S T
    show downS (downF (fun j => S j || T j) p) ps = _
    rw [downF_or]
    exact ih _ _
theorem downS_none (ps : List PN) : downS (fun _ => false) ps = fun _ => false := by
  induction ps with
  | nil => rfl
  | cons p ps ih =>
    show downS (downF (fun _ => false) p) ps = _
    have : downF (fun _ => false) p = fun _ => false := by funext j; simp [downF]
    rw [this]; exact ih
theorem downS_list (ps : List PN) (zs : List Nat) (j : Nat) : downS (orL (fun _ => false) zs) ps j = zs.any fun z => downS (single z) ps j := by
  induction zs with
  | nil =>
    have : orL (fun _ => false) [] = fun _ => false := by funext j; simp [orL]
    rw [this, downS_none]; rfl
  | cons z zs ih =>
    have : orL (fun _ => false) (z :: zs) = fun j => single z j || orL (fun _ => false) zs j := by funext j; simp [orL, single]
    rw [this, downS_or]
    simp only [List.any_cons, ih]

end Go.Proofs.YtbpnllhhmookcaaGreatDoor

/- Withdrawn's mathematics: what a donor takes back. -/
namespace Go.Proofs.YtbpnllhhmookcaaGreatDoor
open Go.RowKit

theorem downS_mono (ps : List PN) : ∀ (S : Nat → Bool) (j : Nat), S j = true → downS S ps j = true := by
  induction ps with
  | nil => intro S j h; exact h
  | cons p ps ih =>
    intro S j h
    show downS (downF S p) ps j = true
    exact ih _ j (by rw [downF_at, h]; rfl)
theorem downS_self (ps : List PN) (z : Nat) : downS (single z) ps z = true := downS_mono ps _ z (by simp [single, orL])
/-- What is below was there, or something was poured into it. -/
theorem downS_from (ps : List PN) : ∀ (S : Nat → Bool) (j : Nat), downS S ps j = true → S j = true ∨ ∃ p ∈ ps, p.2.1 = j := by
  induction ps with
  | nil => intro S j h; exact .inl h
  | cons p ps ih =>
    intro S j h
    rcases ih (downF S p) j h with h1 | ⟨q, hq, e⟩
    · rw [downF_at] at h1
      simp only [Bool.or_eq_true, Bool.and_eq_true, decide_eq_true_eq] at h1
      rcases h1 with h1 | h1
      · exact .inl h1
      · exact .inr ⟨p, List.mem_cons_self .., h1.2.symm⟩
    · exact .inr ⟨q, List.mem_cons_of_mem _ hq, e⟩

namespace Led
variable {L : Led}

def cmOf (d : Nat) : Cm := ⟨14, 0, 0, d, 0, 0, 0, 0, 0⟩
def cmDown (n : Nat) : Cm := ⟨16, n, 0, 0, 0, 0, 0, 0, 0⟩
def cmWd (d : Nat) : Cm := ⟨9, 0, 0, d, 0, 0, 0, 0, 0⟩

theorem cmOf_enc {d : Nat} (h : 1 ≤ d ∧ d ≤ 3) : encB (cmOf d).ints = true := by
  refine enc_of (fs := [2]) rfl (by simp only [cmOf]; omega) ?_ (all9.2 ⟨rfl, rfl, rfl, rfl, rfl, rfl, rfl, rfl, rfl⟩)
  simp [okAll, okB, lo, hi, off, Cm.ints, cmOf]; omega
theorem cmDown_enc {n : Nat} (h : 1 ≤ n ∧ n ≤ 12) : encB (cmDown n).ints = true := by
  refine enc_of (fs := [0]) rfl (by simp only [cmDown]; omega) ?_ (all9.2 ⟨rfl, rfl, rfl, rfl, rfl, rfl, rfl, rfl, rfl⟩)
  simp [okAll, okB, lo, hi, off, Cm.ints, cmDown]; omega

theorem of_act (L : Led) (d : Nat) : L.act (cmOf d) = L := by simp [Led.act, cmOf]
theorem down_act (L : Led) (n : Nat) : L.act (cmDown n) = L := by simp [Led.act, cmDown]

/-- The donor's tubes. -/
def ids (L : Led) (d : Nat) : List Nat := (L.ts.filter fun t => decide ((t.2.donor : Int) = d)).map Prod.fst
theorem ofN_ids (L : Led) (d : Nat) : ofN d L.ts = natsI (L.ids d) := by simp [ofN, natsI, ids, Function.comp_def]
theorem goneS_ids (L : Led) (d k : Nat) : L.goneS d k = (L.ids d).any fun z => downS (single z) L.ps k := downS_list L.ps (L.ids d) k

theorem of_some {d : Nat} (h : L.ids d ≠ []) (hf : L.kvs.length ≤ 32) : L.stepE 32 (cmOf d) = 0 ∧ L.stepN 32 (cmOf d) = natsI (L.ids d) ∧ L.stepL 32 (cmOf d) = L := by
  have hl : (ofN d L.ts).length ≠ 0 := by
    rw [ofN_ids]
    cases hq : L.ids d with
    | nil => exact absurd hq h
    | cons a l => simp [natsI]
  have he : L.err (cmOf d) = 0 := by
    have : (((ofN d L.ts).length : Int) == 0) = false := beq_eq_false_iff_ne.2 (by omega)
    simp only [Led.err, Led.asksT, Led.asksO, Led.asksD, Led.asksB, cmOf]
    simp [askAll, askI, this]
  have ht : L.tell (cmOf d) = natsI (L.ids d) := by rw [← ofN_ids]; simp [Led.tell, cmOf]
  simp [Led.stepE, Led.stepN, Led.stepL, he, of_act, hf, ht]
theorem of_none {d : Nat} (h : L.ids d = []) : L.stepE 32 (cmOf d) = 5 ∧ L.stepN 32 (cmOf d) = [] ∧ L.stepL 32 (cmOf d) = L := by
  have hl : ofN d L.ts = [] := by rw [ofN_ids, h]; rfl
  have he : L.err (cmOf d) = 5 := by
    simp only [Led.err, Led.asksT, Led.asksO, Led.asksD, Led.asksB, cmOf]
    simp [askAll, askI, hl]
  simp [Led.stepE, Led.stepN, Led.stepL, he]

/-- What Down answers. -/
def below (L : Led) (n : Nat) : List Nat := memG (kinS (downS (single n) L.ps) n)
theorem mem_below {n k : Nat} : k ∈ L.below n ↔ k < 1000 ∧ k ≠ n ∧ downS (single n) L.ps k = true := by
  unfold below memG memTo kinS
  rw [List.mem_filter, List.mem_range]
  constructor
  · rintro ⟨h1, h2⟩
    split at h2
    · cases h2
    · next e => exact ⟨h1, e, h2⟩
  · rintro ⟨h1, h2, h3⟩
    exact ⟨h1, by rw [if_neg h2]; exact h3⟩
theorem down_some {n : Nat} {q : PT} (h : L.tube n = some q) (hf : L.kvs.length ≤ 32) : L.stepE 32 (cmDown n) = 0 ∧ L.stepN 32 (cmDown n) = natsI (L.below n) ∧ L.stepL 32 (cmDown n) = L := by
  have he : L.err (cmDown n) = 0 := by
    simp [Led.err, Led.asksT, Led.asksO, Led.asksD, Led.asksB, cmDown, h, askAll, askI]
  have ht : L.tell (cmDown n) = natsI (L.below n) := by simp [Led.tell, cmDown, below]
  simp [Led.stepE, Led.stepN, Led.stepL, he, down_act, hf, ht]
theorem down_none {n : Nat} (h : L.tube n = Option.none) : L.stepE 32 (cmDown n) = 4 ∧ L.stepN 32 (cmDown n) = [] ∧ L.stepL 32 (cmDown n) = L := by
  have he : L.err (cmDown n) = 4 := by
    simp [Led.err, Led.asksT, Led.asksO, Led.asksD, Led.asksB, cmDown, h, askAll, askI]
  simp [Led.stepE, Led.stepN, Led.stepL, he]

/-- What is gone, as the law finds it: the donor's own, and what lies below them. -/
theorem goneS_iff (L : Led) (d k : Nat) (hk : k < 1000) : L.goneS d k = true ↔ k ∈ L.ids d ∨ ∃ z ∈ L.ids d, k ∈ L.below z := by
  rw [goneS_ids, List.any_eq_true]
  constructor
  · rintro ⟨z, hz, h⟩
    by_cases e : k = z
    · exact .inl (e ▸ hz)
    · exact .inr ⟨z, hz, mem_below.2 ⟨hk, e, h⟩⟩
  · rintro (h | ⟨z, hz, h⟩)
    · exact ⟨k, h, downS_self _ _⟩
    · exact ⟨z, hz, (mem_below.1 h).2.2⟩
theorem ids_tube (hI : L.Inv) {d z : Nat} (h : z ∈ L.ids d) : (L.tube z).isSome = true := by
  obtain ⟨t, ht, rfl⟩ := List.mem_map.1 h
  rw [(tube_mem hI.ok).2 (List.mem_filter.1 ht).1]; rfl
theorem gone_tube (hI : L.Inv) {d k : Nat} (h : L.goneS d k = true) : (L.tube k).isSome = true := by
  rw [goneS_ids, List.any_eq_true] at h
  obtain ⟨z, hz, h⟩ := h
  rcases downS_from L.ps _ k h with h1 | ⟨p, hp, rfl⟩
  · have e : k = z := by simpa [single, orL] using h1
    exact e ▸ ids_tube hI hz
  · exact (hI.wired p hp).2

/-- A withdrawal. -/
theorem wd_good (hI : L.Inv) (d : Nat) : ∀ t ∈ L.ts, (L.goneS d t.1 && !decide (t.2.status = 3)) = true → (PT.lostAll t.2).Good := fun t ht _ => by
  have g := (hI.ok.t1 t ht).2.2
  exact ⟨by show (0 : Nat) < 5; omega, by show (0 : Nat) < 5; omega, by show (0 : Nat) ≤ 9; omega, g.donor, by show 1 ≤ 3 ∧ 3 ≤ 3; omega, g.thaws, g.began, by show (0 : Nat) ≤ 1000000; omega, g.used, g.left⟩
theorem wd_act (hI : L.Inv) (d : Nat) : L.act (cmWd d) = L.mapT (fun t => L.goneS d t.1 && !decide (t.2.status = 3)) PT.lostAll := by
  have : L.act (cmWd d) = L.chg PT.lostAll (L.hits d) := by simp [Led.act, cmWd]
  rw [this]
  unfold hits
  exact chg_map hI.ok _ _ (wd_good hI d)
theorem wd_some (hI : L.Inv) {d : Nat} (h : L.ids d ≠ []) (hf : L.kvs.length ≤ 32) : L.stepE 32 (cmWd d) = 0 ∧ L.stepN 32 (cmWd d) = [((L.hits d).length : Int)] ∧ L.stepL 32 (cmWd d) = L.mapT (fun t => L.goneS d t.1 && !decide (t.2.status = 3)) PT.lostAll := by
  have hl : (ofN d L.ts).length ≠ 0 := by
    rw [ofN_ids]
    cases hq : L.ids d with
    | nil => exact absurd hq h
    | cons a l => simp [natsI]
  have he : L.err (cmWd d) = 0 := by
    simp only [Led.err, Led.asksT, Led.asksO, Led.asksD, Led.asksB, cmWd]
    simp [askAll, askI]
    intro h0; exact absurd (by simp [h0]) hl
  have ht : L.tell (cmWd d) = [((L.hits d).length : Int)] := by simp [Led.tell, cmWd]
  have hlen : (L.mapT (fun t => L.goneS d t.1 && !decide (t.2.status = 3)) PT.lostAll).kvs.length ≤ 32 := by
    have : (L.mapT (fun t => L.goneS d t.1 && !decide (t.2.status = 3)) PT.lostAll).kvs.length = L.kvs.length := by simp [kvs, mapT]
    omega
  simp [Led.stepE, Led.stepN, Led.stepL, he, wd_act hI, hlen, ht]
theorem wd_none {d : Nat} (h : L.ids d = []) : L.stepE 32 (cmWd d) = 5 ∧ L.stepN 32 (cmWd d) = [] ∧ L.stepL 32 (cmWd d) = L := by
  have hl : ofN d L.ts = [] := by rw [ofN_ids, h]; rfl
  have he : L.err (cmWd d) = 5 := by
    simp only [Led.err, Led.asksT, Led.asksO, Led.asksD, Led.asksB, cmWd]
    simp [askAll, askI, hl]
  simp [Led.stepE, Led.stepN, Led.stepL, he]

end Led
end Go.Proofs.YtbpnllhhmookcaaGreatDoor
