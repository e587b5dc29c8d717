/- What Show answers of a ledger. -/
import Derived.Test.YtbpnllhhmookcaaGreatDoorKk39
import Derived.BigQuiet
import Derived.Deep.Slices
import Derived.Carry
import Derived.ProofKit
namespace Go.Proofs.YtbpnllhhmookcaaGreatDoor
open Go.RowKit Go.Shelf

def cmShow (n : Nat) : Cm := ⟨12, n, 0, 0, 0, 0, 0, 0, 0⟩
theorem cmShow_enc {n : Nat} (h : 1 ≤ n ∧ n ≤ 12) : encB (cmShow n).ints = true := by
  refine enc_of (fs := [0]) rfl (by simp only [cmShow]; omega) ?_ (all9.2 ⟨rfl, rfl, rfl, rfl, rfl, rfl, rfl, rfl, rfl⟩)
  simp [okAll, okB, lo, hi, off, Cm.ints, cmShow]; omega

theorem show_act (L : Led) (n : Nat) : L.act (cmShow n) = L := by simp [Led.act, cmShow]
theorem show_some {L : Led} {n : Nat} {q : PT} (h : L.tube n = some q) (hf : L.kvs.length ≤ 32) : L.stepE 32 (cmShow n) = 0 ∧ L.stepN 32 (cmShow n) = showQ q ∧ L.stepL 32 (cmShow n) = L := by
  have he : L.err (cmShow n) = 0 := by
    simp [Led.err, Led.asksT, Led.asksO, Led.asksD, Led.asksB, cmShow, h, askAll, askI]
  have ht : L.tell (cmShow n) = showQ q := by
    have : L.tubeD n = q := Led.tubeD_some h
    simp [Led.tell, cmShow, this]
  simp [Led.stepE, Led.stepN, Led.stepL, he, show_act, hf, ht]
theorem show_none {L : Led} {n : Nat} (h : L.tube n = none) : L.stepE 32 (cmShow n) = 4 ∧ L.stepN 32 (cmShow n) = [] ∧ L.stepL 32 (cmShow n) = L := by
  have he : L.err (cmShow n) = 4 := by
    simp [Led.err, Led.asksT, Led.asksO, Led.asksD, Led.asksB, cmShow, h, askAll, askI]
  simp [Led.stepE, Led.stepN, Led.stepL, he]

/-- Show of a store's tube. -/
theorem kshow_some {sb l : Nat} {p : Int} {L : Led} {n : Nat} {q : PT} (hq : L.tube n = some q) (hn : 1 ≤ n ∧ n ≤ 12) (w : World) (hS : KAt w sb l p L) :
    Calls Tryz.prog 12 #[.pointer (some ⟨sb, 0, none⟩), .agg #[.int .i64 12, .int .i64 n, .int .i64 0, .int .i64 0, .int .i64 0, .int .i64 0, .int .i64 0, .int .i64 0, .int .i64 0]] w fun e w' => ∃ vv, e = .returned (.tuple #[vv, .int .i64 0]) ∧ IntsIn w' vv (showQ q) ∧ KAt w' sb l p L ∧ Keeps (fun k => k = l) w w' := by
  obtain ⟨e1, e2, e3⟩ := show_some hq hS.led.few
  have := kdone_any sb l p L (cmShow n) (cmShow_enc hn) w hS
  rw [e1, e2, e3] at this
  exact this
theorem kshow_none {sb l : Nat} {p : Int} {L : Led} {n : Nat} (hq : L.tube n = none) (hn : 1 ≤ n ∧ n ≤ 12) (w : World) (hS : KAt w sb l p L) :
    Calls Tryz.prog 12 #[.pointer (some ⟨sb, 0, none⟩), .agg #[.int .i64 12, .int .i64 n, .int .i64 0, .int .i64 0, .int .i64 0, .int .i64 0, .int .i64 0, .int .i64 0, .int .i64 0]] w fun e w' => ∃ vv, e = .returned (.tuple #[vv, .int .i64 4]) ∧ IntsIn w' vv [] ∧ KAt w' sb l p L ∧ Keeps (fun k => k = l) w w' := by
  obtain ⟨e1, e2, e3⟩ := show_none hq
  have := kdone_any sb l p L (cmShow n) (cmShow_enc hn) w hS
  rw [e1, e2, e3] at this
  exact this

theorem show_cells {w : World} {vv : Value} {q : PT} (h : IntsIn w vv (showQ q)) : ∃ g cv, vv = .slice (some ⟨g, 0, none⟩) 10 cv ∧ g < w.heap.size ∧ w.cell? ⟨g, 0, none⟩ = some (.int .i64 q.donor) ∧ w.cell? ⟨g, 1, none⟩ = some (.int .i64 q.began) ∧ w.cell? ⟨g, 2, none⟩ = some (.int .i64 q.left) ∧ w.cell? ⟨g, 3, none⟩ = some (.int .i64 q.used) ∧ w.cell? ⟨g, 4, none⟩ = some (.int .i64 q.lost) ∧ w.cell? ⟨g, 5, none⟩ = some (.int .i64 q.status) ∧ w.cell? ⟨g, 6, none⟩ = some (.int .i64 q.thaws) ∧ w.cell? ⟨g, 7, none⟩ = some (.int .i64 q.box) ∧ w.cell? ⟨g, 8, none⟩ = some (.int .i64 q.x) ∧ w.cell? ⟨g, 9, none⟩ = some (.int .i64 q.y) := by
  rcases h with ⟨g, cv, rfl, hg, hc⟩ | ⟨_, h⟩
  · exact ⟨g, cv, rfl, hg, hc 0 (by simp [showQ]), hc 1 (by simp [showQ]), hc 2 (by simp [showQ]), hc 3 (by simp [showQ]), hc 4 (by simp [showQ]), hc 5 (by simp [showQ]), hc 6 (by simp [showQ]), hc 7 (by simp [showQ]), hc 8 (by simp [showQ]), hc 9 (by simp [showQ])⟩
  · cases h

end Go.Proofs.YtbpnllhhmookcaaGreatDoor

/- firnkeep.Kept: the walk. -/
namespace Go.Proofs.YtbpnllhhmookcaaGreatDoor
open Go.RowKit Go.Shelf

theorem KS.drewN {w wr : World} {sb l bi bo : Nat} {p : Int} {L : Led} {ii oo : Nat → Nat} (h : KS w sb l bi bo p L ii oo wr) (n : Nat) : KS w sb l bi bo p L ii oo (wr.drewN n) := h.below (below_drewN (Below.refl _ wr) n)

theorem stepE_neg (L : Led) (m : Cm) : (L.stepE 32 m == -1) = false := by
  have := Led.stepE_range L 32 m
  exact beq_eq_false_iff_ne.2 (by omega)

set_option maxRecDepth 8000 in
set_option maxHeartbeats 4000000 in
theorem kept_any (v : Value) (n : Nat) (R : Nat → Nat → Int) (w : World) (hR : RawsIn w v n R) :
    Calls Tryz.prog 4 #[v] w fun e w' => e = .returned (.bool true) ∧ Below w.heap.size w w' := by
  obtain ⟨oa, cap, rfl, hn, hel⟩ := hR
  have HEl := hid hel
  have HSt := hid (kstore_any w)
  clear hel
  go_enter Tryz.func4, Tryz.ntmps4
  go_wp2_with fail
  refine HSt.out.mono ?_
  clear HSt
  rintro e w1 ⟨sb, l, rfl, hS1, hsb, hl, hb1⟩
  have HS1 := hid (show KAt w1 sb l 0 lg3 from hS1)
  have HB1 := hid hb1
  have HSb := hid (And.intro hsb hl)
  clear hS1 hsb hl hb1
  go_wp2_with fail
  go_loopw [7] (fun i wr => ∃ k : Nat, k ≤ 60 ∧ k ≤ n ∧ i = .int .i64 k ∧ KR w sb l w1.heap.size (w1.heap.size + 1) k wr) (fun i _ => 60 - (intOf i).toNat)
  case atStart => exact ⟨0, by omega, by omega, rfl, kr_start HS1.out HB1.out HSb.out.1 HSb.out.2⟩
  case round =>
    clear HS1 HB1 HSb
    generalize w1.heap.size = bi at *
    generalize hbo : bi + 1 = bo at *
    clear hbo
    obtain ⟨k, hk60, hkn, rfl, p, L, ii, oo, hKS, hKp, hp, hbd⟩ := hrel
    by_cases hlt : k < n ∧ k < 60
    · obtain ⟨a, rfl, hab, hcell, hi64⟩ := HEl.out k hlt.1
      obtain ⟨hl1, hl2⟩ := hlt
      have hbw := hKS.bel
      have x0 : wr.cell? (a.add (k * 5)) = some (.int .i64 (R k 0)) := by exact (hbw.cell (by rw [Addr.add_block]; exact hab)).trans (hcell 0 (by omega))
      have x1 : wr.cell? ⟨(a.add (k * 5)).block, (a.add (k * 5)).off + 1, none⟩ = some (.int .i64 (R k 1)) := by show wr.cell? ((a.add (k * 5)).add 1) = _; rw [Addr.addadd]; exact (hbw.cell (by rw [Addr.add_block]; exact hab)).trans (hcell 1 (by omega))
      have x2 : wr.cell? ⟨(a.add (k * 5)).block, (a.add (k * 5)).off + 2, none⟩ = some (.int .i64 (R k 2)) := by show wr.cell? ((a.add (k * 5)).add 2) = _; rw [Addr.addadd]; exact (hbw.cell (by rw [Addr.add_block]; exact hab)).trans (hcell 2 (by omega))
      have x3 : wr.cell? ⟨(a.add (k * 5)).block, (a.add (k * 5)).off + 3, none⟩ = some (.int .i64 (R k 3)) := by show wr.cell? ((a.add (k * 5)).add 3) = _; rw [Addr.addadd]; exact (hbw.cell (by rw [Addr.add_block]; exact hab)).trans (hcell 3 (by omega))
      have x4 : wr.cell? ⟨(a.add (k * 5)).block, (a.add (k * 5)).off + 4, none⟩ = some (.int .i64 (R k 4)) := by show wr.cell? ((a.add (k * 5)).add 4) = _; rw [Addr.addadd]; exact (hbw.cell (by rw [Addr.add_block]; exact hab)).trans (hcell 4 (by omega))
      have HX := hid (And.intro hKp (And.intro hKS hbd))
      have HC := hid (command_any (R k 0) (R k 1) (R k 2) (R k 3) (R k 4) (hi64 0) (hi64 1) (hi64 2) (hi64 3) (hi64 4))
      have hl1' : (k : Int) < (n : Int) := by omega
      have hl2' : (k : Int) < 60 := by omega
      clear hcell hi64 hKp hbw hKS hbd
      go_wp2_with fail
      refine (HC.out _).mono ?_
      clear HC x0 x1 x2 x3 x4
      rintro e w2 ⟨m, rfl, hm, hb2⟩
      obtain ⟨hKp, hKS, hbd⟩ := HX.out
      have hK2 := hKS.below hb2
      have hc0 : Below w2.heap.size w2 (w2.alloc (.cells #[.int .i64 m.k, .int .i64 m.t, .int .i64 m.o, .int .i64 m.d, .int .i64 m.v, .int .i64 m.b, .int .i64 m.x, .int .i64 m.y, .int .i64 m.n] 31)) := (Below.refl _ w2).alloc (Nat.le_refl _) _
      have hK3 := hK2.below hc0
      have hH3 := Cm.has_new w2 31 m
      have hlt3 := has_new_lt w2 m
      have hcs : w2.heap.size ≠ sb := by have := hK2.st.lt; omega
      have hcl : w2.heap.size ≠ l := by have := hK2.st.lt; omega
      have hci : w2.heap.size ≠ bi := by have := hK2.i.lt; omega
      have hco : w2.heap.size ≠ bo := by have := hK2.o.lt; omega
      have HM := hid (may_any sb l p L m (by omega) _ hK3.st)
      have HY := hid (And.intro hKp (And.intro hbd (And.intro hm (And.intro hK3 (And.intro hH3 hlt3)))))
      unfold Cm.val at *
      clear hm hb2 hK2 hK3 hH3 hlt3 hc0 HX hKp hKS hbd
      go_wp2_with fail
      refine HM.out.mono ?_
      clear HM
      rintro e w4 ⟨rfl, hS4, hk4⟩
      obtain ⟨hKp, hbd, hm, hK3, hH3, hlt3⟩ := HY.out
      have hK4 := hK3.may hS4 hk4
      have hH4 := has_keeps hH3 hk4 hlt3 hcs
      have hlt4 : w2.heap.size < w4.heap.size := Nat.lt_of_lt_of_le hlt3 hk4.size
      clear HY hK3 hH3 hlt3 hS4 hk4
      generalize w2.heap.size = cb at *
      cases hmb : mayB m p with
      | false =>
        have HE := hid (kr_next hK4 hKp (mayP_le m hp) (fun j => by have := hbd j; omega))
        clear hK4 hH4 hlt4 hKp hbd hm
        go_wp2_with fail
        exact ⟨⟨k + 1, by omega, by omega, by go_num, HE.out⟩, by simp [intOf]; omega⟩
      | true =>
        have HD := hid (kdone_any sb l (mayP m p) L m hm.enc w4 hK4.st)
        have z0 := hH4.1 0 (by omega)
        have z1 := hH4.1 1 (by omega)
        have z2 := hH4.1 2 (by omega)
        have z3 := hH4.1 3 (by omega)
        have z4 := hH4.1 4 (by omega)
        have z5 := hH4.1 5 (by omega)
        have z6 := hH4.1 6 (by omega)
        have z7 := hH4.1 7 (by omega)
        have z8 := hH4.1 8 (by omega)
        simp only [Cm.ints] at z0 z1 z2 z3 z4 z5 z6 z7 z8
        have HY := hid (And.intro hKp (And.intro hbd (And.intro hm (And.intro hK4 (And.intro hH4 hlt4)))))
        unfold Cm.val at *
        clear hK4 hH4 hlt4 hKp hbd hm
        go_wp2_with fail
        refine HD.out.mono ?_
        clear HD z0 z1 z2 z3 z4 z5 z6 z7 z8
        rintro e w5 ⟨vv, rfl, -, hS5, hk5⟩
        obtain ⟨hKp, hbd, hm, hK4, hH4, hlt4⟩ := HY.out
        have hK5 := hK4.done hS5 hk5
        have hH5 := has_keeps hH4 hk5 hlt4 hcl
        have hinv := hK4.st.inv
        have hmo : m.Ok := by have := Cm.of_ok hm.enc; have e : Cm.of m.ints = m := rfl; rwa [e] at this
        have hng := stepE_neg L m
        clear HY hS5 hk5 hK4 hH4 hlt4
        by_cases hP : L.stepE 32 m = 0 ∧ (m.k = 4 ∨ m.k = 5)
        · have y0 := hH5.1 0 (by omega)
          have y1 := hH5.1 1 (by omega)
          have y2 := hH5.1 2 (by omega)
          have y4 := hH5.1 4 (by omega)
          simp only [Cm.ints] at y0 y1 y2 y4
          obtain ⟨hP1, hP2⟩ := hP
          have hKp2 := hKp.stepP hinv 32 hP1 hP2
          have ht := hm.t
          have ho := hm.o
          have hv := hmo.v
          have q1 := hK5.o.cell m.t (by omega)
          have q2 := hK5.i.cell m.o (by omega)
          have g1 := hK5.o.fz m.t
          have g2 := hK5.i.fz m.o
          have b1 := (hbd m.t).2
          have b2 := (hbd m.o).1
          have HE := hid (And.intro hKp2 (And.intro hK5 hbd))
          have t13 : (m.t : Int) < 13 := by omega
          have o13 : (m.o : Int) < 13 := by omega
          have HT := hid (And.intro (show m.t < 13 by omega) (And.intro (show m.o < 13 by omega) hv))
          have hif : ¬ bi = bo := hK5.ne.2.2.2.2
          have hibo : ¬ bo = bi := fun e => hif e.symm
          have hcbi : ¬ cb = bi := hci
          have hcbo : ¬ cb = bo := hco
          clear hKp hKp2 hK5 hbd hm hmo hinv hH5 ht ho
          rcases hP2 with hk4 | hk5
          · have k4 : ((m.k : Int) == 4) = true := beq_iff_eq.2 (by omega)
            clear hk4
            go_wp2_with fail
            go_region
            go_wp2_with fail
            go_region
            go_wp2_with fail
            obtain ⟨h1, h2, h3⟩ := HE.out
            obtain ⟨h4, h5, h6⟩ := HT.out
            exact ⟨⟨k + 1, by omega, by omega, by go_num, kr_next ((h2.setO h4 m.v).drew.setI h5 m.v).drew h1 (mayP_le m hp) (fun j => ⟨addAt_le m.o h6 (fun j => (h3 j).1) j, addAt_le m.t h6 (fun j => (h3 j).2) j⟩)⟩, by simp [intOf]; omega⟩
          · have k4 : ((m.k : Int) == 4) = false := beq_eq_false_iff_ne.2 (by omega)
            have k5 : ((m.k : Int) == 5) = true := beq_iff_eq.2 (by omega)
            clear hk5
            go_wp2_with fail
            go_region
            go_wp2_with fail
            go_region
            go_wp2_with fail
            obtain ⟨h1, h2, h3⟩ := HE.out
            obtain ⟨h4, h5, h6⟩ := HT.out
            exact ⟨⟨k + 1, by omega, by omega, by go_num, kr_next ((h2.setO h4 m.v).drew.setI h5 m.v).drew h1 (mayP_le m hp) (fun j => ⟨addAt_le m.o h6 (fun j => (h3 j).1) j, addAt_le m.t h6 (fun j => (h3 j).2) j⟩)⟩, by simp [intOf]; omega⟩
        · have HE := hid (kr_next hK5 (hKp.step hinv hmo 32 hP) (mayP_le m hp) (fun j => by have := hbd j; omega))
          have y0 := hH5.1 0 (by omega)
          simp only [Cm.ints] at y0
          clear hKp hK5 hbd hm hmo hinv hH5
          by_cases hE0 : L.stepE 32 m = 0
          · have k4 : ((m.k : Int) == 4) = false := beq_eq_false_iff_ne.2 (by omega)
            have k5 : ((m.k : Int) == 5) = false := beq_eq_false_iff_ne.2 (by omega)
            clear hP
            go_wp2_with fail
            exact ⟨⟨k + 1, by omega, by omega, by go_num, HE.out⟩, by simp [intOf]; omega⟩
          · have h0 : (L.stepE 32 m == 0) = false := beq_eq_false_iff_ne.2 hE0
            clear hP hE0
            go_wp2_with fail
            exact ⟨⟨k + 1, by omega, by omega, by go_num, HE.out⟩, by simp [intOf]; omega⟩
    · have HE := hid hKp
      have HS := hid hKS
      have hge : ¬ ((k : Int) < (n : Int) ∧ (k : Int) < 60) := by omega
      clear HEl hKp hKS hlt
      by_cases hA : (k : Int) < (n : Int)
      · have hB : ¬ (k : Int) < 60 := fun h => hge ⟨hA, h⟩
        clear hge
        go_wp2_with fail
        go_loopw [12] (fun i wr => ∃ c : Nat, 1 ≤ c ∧ c ≤ 13 ∧ i = .int .i64 c ∧ KS w sb l bi bo p L ii oo wr) (fun i _ => 13 - (intOf i).toNat)
        case atStart => exact ⟨1, by omega, by omega, rfl, HS.out⟩
        case round =>
          clear HS
          obtain ⟨c, hc1, hc13, rfl, hKS⟩ := hrel
          by_cases hc : c ≤ 12
          · have hci : (c : Int) ≤ 12 := by omega
            have hci13 : (c : Int) < 13 := by omega
            cases hq : L.tube c with
            | some q =>
              have HD := hid (kshow_some hq ⟨hc1, hc⟩ _ hKS.st)
              have HK := hid hKS
              have hev := HE.out.is c q hq
              have hgood := (hKS.st.inv.ok.t1 _ ((Led.tube_mem hKS.st.inv.ok).1 hq)).2.2
              have hg1 := hgood.began
              have hg2 := hgood.left
              have hg3 := hgood.used
              have hg4 := hgood.lost
              have HBd := hid (hbd c)
              unfold Led.Even at hev
              clear hKS hgood hq
              go_wp2_with fail
              refine HD.out.mono ?_
              clear HD
              rintro e w5 ⟨vv, rfl, hI5, hS5, hk5⟩
              have hK5 := HK.out.done hS5 hk5
              clear HK hS5 hk5
              obtain ⟨g, cv, rfl, _, _, e1, e2, e3, e4, _⟩ := show_cells hI5
              clear hI5
              have j1 := hK5.i.cell c (by omega)
              have j2 := hK5.o.cell c (by omega)
              have hsum : (q.began : Int) + (ii c : Int) = (q.left : Int) + (q.used : Int) + (q.lost : Int) + (oo c : Int) := by omega
              have bi1 : (ii c : Int) ≤ 60000030 := by have := HBd.out; omega
              have bo1 : (oo c : Int) ≤ 60000030 := by have := HBd.out; omega
              have HK := hid hK5
              clear hK5 hev HBd
              go_wp2_with fail
              go_quiet (fail)
              go_wp2_with fail
              exact ⟨⟨c + 1, by omega, by omega, by go_num, HK.out.drewN _⟩, by simp [intOf]; omega⟩
            | none =>
              have HD := hid (kshow_none hq ⟨hc1, hc⟩ _ hKS.st)
              have HK := hid hKS
              obtain ⟨hz1, hz2⟩ := HE.out.non c hq
              clear hKS hq
              go_wp2_with fail
              refine HD.out.mono ?_
              clear HD
              rintro e w5 ⟨vv, rfl, hI5, hS5, hk5⟩
              have hK5 := HK.out.done hS5 hk5
              clear HK hS5 hk5 hI5
              have j1 := hK5.i.cell c (by omega)
              have j2 := hK5.o.cell c (by omega)
              rw [hz1] at j1
              rw [hz2] at j2
              have HK := hid hK5
              clear hK5 hz1 hz2
              go_wp2_with fail
              go_quiet (fail)
              go_wp2_with fail
              exact ⟨⟨c + 1, by omega, by omega, by go_num, HK.out.drewN _⟩, by simp [intOf]; omega⟩
          · have hci : ¬ (c : Int) ≤ 12 := by omega
            go_wp2_with fail
            go_ret
            exact ⟨rfl, hKS.bel⟩
      · clear hge
        go_wp2_with fail
        go_loopw [12] (fun i wr => ∃ c : Nat, 1 ≤ c ∧ c ≤ 13 ∧ i = .int .i64 c ∧ KS w sb l bi bo p L ii oo wr) (fun i _ => 13 - (intOf i).toNat)
        case atStart => exact ⟨1, by omega, by omega, rfl, HS.out⟩
        case round =>
          clear HS
          obtain ⟨c, hc1, hc13, rfl, hKS⟩ := hrel
          by_cases hc : c ≤ 12
          · have hci : (c : Int) ≤ 12 := by omega
            have hci13 : (c : Int) < 13 := by omega
            cases hq : L.tube c with
            | some q =>
              have HD := hid (kshow_some hq ⟨hc1, hc⟩ _ hKS.st)
              have HK := hid hKS
              have hev := HE.out.is c q hq
              have hgood := (hKS.st.inv.ok.t1 _ ((Led.tube_mem hKS.st.inv.ok).1 hq)).2.2
              have hg1 := hgood.began
              have hg2 := hgood.left
              have hg3 := hgood.used
              have hg4 := hgood.lost
              have HBd := hid (hbd c)
              unfold Led.Even at hev
              clear hKS hgood hq
              go_wp2_with fail
              refine HD.out.mono ?_
              clear HD
              rintro e w5 ⟨vv, rfl, hI5, hS5, hk5⟩
              have hK5 := HK.out.done hS5 hk5
              clear HK hS5 hk5
              obtain ⟨g, cv, rfl, _, _, e1, e2, e3, e4, _⟩ := show_cells hI5
              clear hI5
              have j1 := hK5.i.cell c (by omega)
              have j2 := hK5.o.cell c (by omega)
              have hsum : (q.began : Int) + (ii c : Int) = (q.left : Int) + (q.used : Int) + (q.lost : Int) + (oo c : Int) := by omega
              have bi1 : (ii c : Int) ≤ 60000030 := by have := HBd.out; omega
              have bo1 : (oo c : Int) ≤ 60000030 := by have := HBd.out; omega
              have HK := hid hK5
              clear hK5 hev HBd
              go_wp2_with fail
              go_quiet (fail)
              go_wp2_with fail
              exact ⟨⟨c + 1, by omega, by omega, by go_num, HK.out.drewN _⟩, by simp [intOf]; omega⟩
            | none =>
              have HD := hid (kshow_none hq ⟨hc1, hc⟩ _ hKS.st)
              have HK := hid hKS
              obtain ⟨hz1, hz2⟩ := HE.out.non c hq
              clear hKS hq
              go_wp2_with fail
              refine HD.out.mono ?_
              clear HD
              rintro e w5 ⟨vv, rfl, hI5, hS5, hk5⟩
              have hK5 := HK.out.done hS5 hk5
              clear HK hS5 hk5 hI5
              have j1 := hK5.i.cell c (by omega)
              have j2 := hK5.o.cell c (by omega)
              rw [hz1] at j1
              rw [hz2] at j2
              have HK := hid hK5
              clear hK5 hz1 hz2
              go_wp2_with fail
              go_quiet (fail)
              go_wp2_with fail
              exact ⟨⟨c + 1, by omega, by omega, by go_num, HK.out.drewN _⟩, by simp [intOf]; omega⟩
          · have hci : ¬ (c : Int) ≤ 12 := by omega
            go_wp2_with fail
            go_ret
            exact ⟨rfl, hKS.bel⟩

end Go.Proofs.YtbpnllhhmookcaaGreatDoor

/- A script among the arguments: what its slice holds. -/
namespace Go.Proofs.YtbpnllhhmookcaaGreatDoor
open Go.ChangeShapes Go.WideShapes Go.ChangeAt Go.RowKit Go.Shelf Go.Deep

theorem Tryz.cellsRaw : Tryz.prog.cellsOf 34 = 5 := by kernel_rfl
theorem Tryz.cellsI : Tryz.prog.cellsOf 3 = 1 := by kernel_rfl
theorem Tryz.laidOut : laidOutB Tryz.prog = true := by kernel_rfl

theorem list5 {α : Type} {l : List α} (h : l.length = 5) : ∃ c0 c1 c2 c3 c4, l = [c0, c1, c2, c3, c4] := by
  match l, h with
  | [c0, c1, c2, c3, c4], _ => exact ⟨c0, c1, c2, c3, c4, rfl⟩

theorem I64.of_wf {z : Int} (h : (Lit.int .i64 z).wf = true) : I64 z := by
  simp only [Lit.wf, Bool.and_eq_true, decide_eq_true_eq] at h
  exact h

theorem cell_lt {w : World} {a : Addr} {v : Value} (h : w.cell? a = some v) : a.block < w.heap.size := by
  by_cases hb : a.block < w.heap.size
  · exact hb
  · have : w.heap[a.block]? = none := Array.getElem?_eq_none (by omega)
    simp [World.cell?, this] at h

theorem raw_cells {H : Type} {enc : TypeId × Value → H} {w : World} {base n : Nat} {spare : Nat → Bool} {held : Bool} {cs : List Value} {x : DataW H × List MemPlace}
    (h : DataW.trod enc Tryz.prog w base spare held n 34 cs = some x) : ∃ z : Nat → Int, cs = [.int .i64 (z 0), .int .i64 (z 1), .int .i64 (z 2), .int .i64 (z 3), .int .i64 (z 4)] ∧ ∀ j, I64 (z j) := by
  obtain ⟨xs, k, _, hx, hcl, hlen, hall⟩ := DataW.trod_struct Tryz.underlying34 h
  obtain ⟨v0, v1, v2, v3, v4, rfl⟩ := list5 (hcl.trans Tryz.cellsRaw)
  obtain ⟨y0, y1, y2, y3, y4, rfl⟩ := list5 hlen
  have g0 := hall 0 _ rfl
  have g1 := hall 1 _ rfl
  have g2 := hall 2 _ rfl
  have g3 := hall 3 _ rfl
  have g4 := hall 4 _ rfl
  obtain ⟨n0, e0, rfl, w0⟩ := DataW.trod_int Tryz.underlying3 g0
  obtain ⟨n1, e1, rfl, w1⟩ := DataW.trod_int Tryz.underlying3 g1
  obtain ⟨n2, e2, rfl, w2⟩ := DataW.trod_int Tryz.underlying3 g2
  obtain ⟨n3, e3, rfl, w3⟩ := DataW.trod_int Tryz.underlying3 g3
  obtain ⟨n4, e4, rfl, w4⟩ := DataW.trod_int Tryz.underlying3 g4
  simp [Tryz.cellsI] at e0 e1 e2 e3 e4
  subst e0 e1 e2 e3 e4
  refine ⟨fun i => [n0, n1, n2, n3, n4].getD i 0, rfl, fun i => ?_⟩
  match i with
  | 0 => exact .of_wf w0
  | 1 => exact .of_wf w1
  | 2 => exact .of_wf w2
  | 3 => exact .of_wf w3
  | 4 => exact .of_wf w4
  | n + 5 => exact ⟨by simp, by simp⟩

set_option maxRecDepth 100000 in
/-- A slice of raw commands that came in. -/
theorem open_raws {H : Type} {enc : TypeId × Value → H} {W : World} {base : Nat} {v : Value} {d : DataW H} {p : List MemPlace}
    (hval : Value.okWide Tryz.prog W .any base 25 v) (h : DataW.Trod enc Tryz.prog W 0 (fun _ => true) true 25 v d p) : ∃ n R, RawsIn W v n R := by
  obtain ⟨a1, len1, cap1, rfl⟩ := okWide_slice Tryz.underlying25 hval
  obtain ⟨fuel, hf⟩ := h
  rcases open_slice Tryz.underlying25 hf with ⟨hcs, _⟩ | ⟨a, len, cap, m, n, D, Pl, hcs, hb, hl, hm, hmm, _, hx⟩
  · simp [Value.cells] at hcs
    obtain ⟨rfl, rfl, rfl⟩ := hcs
    exact ⟨0, fun _ _ => 0, none, 0, rfl, by unfold maxLen; omega, fun i hi => by omega⟩
  · simp [Value.cells] at hcs
    obtain ⟨rfl, rfl, rfl⟩ := hcs
    simp only [if_true] at hmm
    subst hmm
    have each : ∀ i, i < len1 → ∃ z : Nat → Int, (∀ j, j < 5 → W.cell? (a.add (i * 5 + j)) = some (.int .i64 (z j))) ∧ ∀ j, I64 (z j) := fun i hi => by
      obtain ⟨cs', h1, h2⟩ := hx i (by omega)
      rw [Tryz.cellsRaw] at h1
      obtain ⟨_, hlen, hcell⟩ := World.cells?_some h1
      obtain ⟨z, rfl, hz⟩ := raw_cells h2
      refine ⟨z, fun j hj => ?_, hz⟩
      have := hcell j hj
      rw [Addr.addadd] at this
      match j, hj, this with
      | 0, _, e => simpa using e
      | 1, _, e => simpa using e
      | 2, _, e => simpa using e
      | 3, _, e => simpa using e
      | 4, _, e => simpa using e
    obtain ⟨R, hR⟩ := choose_lt each
    refine ⟨len1, R, some a, _, rfl, by omega, fun i hi => ⟨a, rfl, ?_, (hR i hi).1, (hR i hi).2⟩⟩
    have := cell_lt ((hR i hi).1 0 (by omega))
    rwa [Addr.add_block] at this

end Go.Proofs.YtbpnllhhmookcaaGreatDoor
