/- The books of a ledger, in memory of their own; what Do must leave. -/
import Derived.Test.YtbpnllhhmookcaaGreatDoorKm05
import Derived.Test.YtbpnllhhmookcaaGreatDoorKm03
import Derived.Test.YtbpnllhhmookcaaGreatDoorKm04
import Derived.Test.YtbpnllhhmookcaaGreatDoorKk39
import Derived.Test.YtbpnllhhmookcaaGreatDoorKk11
namespace Go.Proofs.YtbpnllhhmookcaaGreatDoor
open Go.RowKit Go.Shelf

/-- Books that say what a ledger says, all that is theirs from a bound on. -/
structure BkF (B : Nat) (w : World) (b : Nat) (vt vp : Value) (L : Led) (k : Bk) : Prop where
  bk : BkAt w b vt vp k
  sim : Sim L k
  nt : k.tubes = [] → vt = .slice none 0 0
  np : k.poured = [] → vp = .slice none 0 0
  fb : B ≤ b
  ft : ∀ g, vt.ownBlock = some g → B ≤ g
  fp : ∀ g, vp.ownBlock = some g → B ≤ g
def BkX (B : Nat) (w : World) (b : Nat) (L : Led) : Prop := ∃ vt vp k, BkF B w b vt vp L k
/-- What Do answers, and leaves. -/
def DoPost (B : Nat) (w : World) (b : Nat) (L : Led) (m : Cm) (e : Ending) (w' : World) : Prop := ∃ v, e = .returned v ∧ IntsIn w' v (L.tell m) ∧ BkX B w' b (L.act m) ∧ Keeps (fun g => B ≤ g) w w'

variable {B b : Nat} {w w' : World} {vt vp : Value} {L : Led} {k : Bk} {m : Cm}
theorem BkF.below (h : BkF B w b vt vp L k) (hb : Below w.heap.size w w') : BkF B w' b vt vp L k := ⟨h.bk.below hb, h.sim, h.nt, h.np, h.fb, h.ft, h.fp⟩
theorem BkF.tubes (h : BkF B w b vt vp L k) {ts : List (Nat → Int)} {L' : Led} (hs : Sim L' (k.withTubes ts)) (hk : BkAt w' b vt vp (k.withTubes ts)) (hl : ts.length = k.tubes.length) : BkX B w' b L' :=
  ⟨vt, vp, _, hk, hs, fun e => h.nt (List.eq_nil_of_length_eq_zero (by rw [← hl, show ts = [] from e]; rfl)), h.np, h.fb, h.ft, h.fp⟩
theorem kp_new {w1 : World} (hb : Below w.heap.size w w1) : Keeps (fun g => B ≤ g) w w1 := below_toKeeps hb _

theorem BkAt.setSide (h : BkAt w b vt vp k) {j : Nat} (hj : j < 10) (n : Int) : BkAt (w.setCell ⟨b, j, none⟩ (.int .i64 n)) b vt vp { k with sides := upd k.sides j n } := by
  have ho : ∀ i, i ≠ j → (w.setCell ⟨b, j, none⟩ (.int .i64 n)).cell? ⟨b, i, none⟩ = w.cell? ⟨b, i, none⟩ := fun i hi => World.cell?_setCell_other w ⟨b, j, none⟩ ⟨b, i, none⟩ _ (by intro h'; injection h' with _ h2 _; exact hi h2.symm)
  refine ⟨by simpa using h.lt, fun i hi => ?_, (ho 10 (by omega)).trans h.ct, (ho 11 (by omega)).trans h.cp, fun i => by rw [World.frozen?_setCell]; exact h.fz i, h.tubes.setOther h.nt _, h.poured.setOther h.np _, h.nt, h.np, h.tp, h.few⟩
  by_cases e : i = j
  · subst e
    show _ = some (Value.int .i64 (upd k.sides i n i))
    unfold upd
    rw [if_pos rfl]
    have hc := h.side i hi
    exact World.cell?_setCell_same w ⟨b, i, none⟩ _ hc
  · show _ = some (Value.int .i64 (upd k.sides j n i))
    unfold upd
    rw [if_neg e, ho i e]
    exact h.side i hi

theorem act_inv (hI : L.Inv) (hm : m.Ok) (he : L.err m = 0) : (L.act m).Inv := by
  have := Led.inv_step hI hm (L.act m).kvs.length
  unfold Led.stepL at this
  rwa [if_pos ⟨he, Nat.le_refl _⟩] at this
theorem turn_inv (hI : L.Inv) {c j : Nat} (hc : 1 ≤ c ∧ c ≤ 9) (hs : L.sideN c ≠ 0) (hj : j ≤ 3) : (L.mvB c (turnXY (L.sideN c) j)).Inv := by
  by_cases h0 : j = 0
  · subst h0
    have : L.mvB c (turnXY (L.sideN c) 0) = L := Led.mvB_id (fun t _ _ => rfl)
    rw [this]; exact hI
  · rw [← Led.turn_act hI hc.1]
    refine act_inv hI ?_ ?_
    · constructor <;> simp [Led.cmTurn] <;> omega
    · simp only [Led.err, Led.asksT, Led.asksO, Led.asksD, Led.asksB, Led.cmTurn]
      simp [askAll, askI, hs]
theorem one_int (w : World) (x : Int) (t : TypeId) : IntsIn (w.alloc (.cells #[.int .i64 x] t)) (.slice (some ⟨w.heap.size, 0, none⟩) 1 1) [x] := by
  refine .inl ⟨w.heap.size, 1, rfl, by simp, fun i hi => ?_⟩
  simp only [World.cell?, heap_alloc_new]
  match i, hi with
  | 0, _ => rfl
theorem BkX.below (h : BkX B w b L) (hb : Below w.heap.size w w') : BkX B w' b L := by
  obtain ⟨vt, vp, k, hf⟩ := h
  exact ⟨vt, vp, k, hf.below hb⟩

end Go.Proofs.YtbpnllhhmookcaaGreatDoor

/- Do of the books: a box; a flip. -/
namespace Go.Proofs.YtbpnllhhmookcaaGreatDoor
open Go.RowKit Go.Shelf
variable {B b : Nat} {w w' : World} {vt vp : Value} {L : Led} {k : Bk} {m : Cm}

set_option maxRecDepth 8000 in
set_option maxHeartbeats 2000000 in
theorem bdo_box (h : BkF B w b vt vp L k) (_hI : L.Inv) (hm : m.Ok) (hk : ((m.k : Nat) : Int) = 1) (_he : L.err m = 0) (_hB : B ≤ w.heap.size) : Calls Tryz.prog 53 #[.pointer (some ⟨b, 0, none⟩), m.val] w (DoPost B w b L m) := by
  have hC0 := Cm.has_new w 31 m
  have hb0 : Below w.heap.size w (w.alloc (.cells #[.int .i64 m.k, .int .i64 m.t, .int .i64 m.o, .int .i64 m.d, .int .i64 m.v, .int .i64 m.b, .int .i64 m.x, .int .i64 m.y, .int .i64 m.n] 31)) := (Below.refl _ w).alloc (Nat.le_refl _) _
  have hlt0 := has_new_lt w m
  have hF0 := h.below hb0
  have hK0 := hF0.bk
  have hkn : m.k = 1 := by omega
  unfold Cm.val
  rw [hk] at hC0 hb0 hF0 hK0 hlt0 ⊢
  go_enter Tryz.func53, Tryz.ntmps53
  go_wp2_with (go_at_call 69; refine (find_any b _ _ k _ _ hK0).mono ?_; rintro e w' ⟨rfl, rfl⟩)
  generalize w.alloc (.cells #[.int .i64 1, .int .i64 m.t, .int .i64 m.o, .int .i64 m.d, .int .i64 m.v, .int .i64 m.b, .int .i64 m.x, .int .i64 m.y, .int .i64 m.n] 31) = w1 at *
  have c5 := hC0.1 5 (by omega)
  have c8 := hC0.1 8 (by omega)
  simp only [Cm.ints] at c5 c8
  have hmb := hm.b
  have hs5 := hK0.side m.b (by omega)
  have fz5 := hK0.fz m.b
  have hb10 : (m.b : Int) < 10 := by omega
  have hbl := h.bk.lt
  have hne : ¬ w.heap.size = b := by omega
  have HF := hid hF0
  have HB0 := hid hb0
  clear hC0 hF0 hK0 hb0
  go_region
  go_wp2
  go_ret
  have hX : BkX B ((w1.setCell ⟨b, m.b, none⟩ (.int .i64 m.n)).drew) b (L.act m) := by
    refine ⟨vt, vp, _, (HF.out.bk.setSide (j := m.b) (by omega) m.n).drew, ?_, h.nt, h.np, h.fb, h.ft, h.fp⟩
    have e : L.act m = { L with bs := insB L.bs m.b m.n } := by simp [Led.act, hkn]
    rw [e]
    exact h.sim.newBox
  refine ⟨_, rfl, .inr ⟨rfl, by simp [Led.tell, hkn]⟩, ?_, ?_⟩
  · exact hX
  · exact ((kp_new HB0.out).set1 h.fb _ _).drew
set_option maxRecDepth 8000 in
set_option maxHeartbeats 2000000 in
theorem bdo_flip (h : BkF B w b vt vp L k) (hI : L.Inv) (hm : m.Ok) (hk : ((m.k : Nat) : Int) = 11) (_he : L.err m = 0) (_hB : B ≤ w.heap.size) : Calls Tryz.prog 53 #[.pointer (some ⟨b, 0, none⟩), m.val] w (DoPost B w b L m) := by
  have hC0 := Cm.has_new w 31 m
  have hb0 : Below w.heap.size w (w.alloc (.cells #[.int .i64 m.k, .int .i64 m.t, .int .i64 m.o, .int .i64 m.d, .int .i64 m.v, .int .i64 m.b, .int .i64 m.x, .int .i64 m.y, .int .i64 m.n] 31)) := (Below.refl _ w).alloc (Nat.le_refl _) _
  have hlt0 := has_new_lt w m
  have hF0 := h.below hb0
  have hK0 := hF0.bk
  have hkn : m.k = 11 := by omega
  unfold Cm.val
  rw [hk] at hC0 hb0 hF0 hK0 hlt0 ⊢
  go_enter Tryz.func53, Tryz.ntmps53
  go_wp2_with (go_at_call 69; refine (find_any b _ _ k _ _ hK0).mono ?_; rintro e w' ⟨rfl, rfl⟩)
  generalize w.alloc (.cells #[.int .i64 11, .int .i64 m.t, .int .i64 m.o, .int .i64 m.d, .int .i64 m.v, .int .i64 m.b, .int .i64 m.x, .int .i64 m.y, .int .i64 m.n] 31) = w1 at *
  have c5 := hC0.1 5 (by omega)
  simp only [Cm.ints] at c5
  have hmb := hm.b
  have hb1 := hm.b1 (by omega)
  have hsd : 0 ≤ k.sides m.b ∧ k.sides m.b ≤ 1000000 := by
    rw [h.sim.sides m.b (by omega)]
    have := Led.sideN_lt hI.ok m.b
    omega
  have HF := hid hF0
  have HB0 := hid hb0
  have HT := hid (bturned_any b vt vp k m.b true (by omega) w1 hK0 (h.sim.small hI.ok) hsd)
  clear hC0 hF0 hK0 hb0
  go_wp2_with fail
  refine HT.out.mono ?_
  rintro e w2 ⟨rfl, hK2, hk2⟩
  have HX := hid (show BkX B w2 b (L.act m) from by
    refine h.tubes ?_ hK2 (by simp)
    have e1 : L.act m = L.mvB m.b (flipXY (L.sideN m.b)) := by
      rw [← Led.flip_act hI hb1]
      simp [Led.act, hkn, Led.cmFlip]
    rw [e1]
    have := h.sim.flip hI hb1
    rw [h.sim.sides m.b (by omega)]
    exact this)
  have HK := hid ((kp_new (B := B) HB0.out).trans (hk2.mono (fun g _ hg => h.ft g hg)))
  clear hK2 hk2
  go_wp2
  go_ret
  exact ⟨_, rfl, .inr ⟨rfl, by simp [Led.tell, hkn]⟩, HX.out, HK.out⟩

end Go.Proofs.YtbpnllhhmookcaaGreatDoor

/- Do of the books: a withdrawal; a turn. -/
namespace Go.Proofs.YtbpnllhhmookcaaGreatDoor
open Go.RowKit Go.Shelf
variable {B b : Nat} {w w' : World} {vt vp : Value} {L : Led} {k : Bk} {m : Cm}

set_option maxRecDepth 8000 in
set_option maxHeartbeats 2000000 in
theorem bdo_wd (h : BkF B w b vt vp L k) (hI : L.Inv) (_hm : m.Ok) (hk : ((m.k : Nat) : Int) = 9) (_he : L.err m = 0) (_hB : B ≤ w.heap.size) : Calls Tryz.prog 53 #[.pointer (some ⟨b, 0, none⟩), m.val] w (DoPost B w b L m) := by
  have hC0 := Cm.has_new w 31 m
  have hb0 : Below w.heap.size w (w.alloc (.cells #[.int .i64 m.k, .int .i64 m.t, .int .i64 m.o, .int .i64 m.d, .int .i64 m.v, .int .i64 m.b, .int .i64 m.x, .int .i64 m.y, .int .i64 m.n] 31)) := (Below.refl _ w).alloc (Nat.le_refl _) _
  have hlt0 := has_new_lt w m
  have hF0 := h.below hb0
  have hK0 := hF0.bk
  have hkn : m.k = 9 := by omega
  unfold Cm.val
  rw [hk] at hC0 hb0 hF0 hK0 hlt0 ⊢
  go_enter Tryz.func53, Tryz.ntmps53
  go_wp2_with (go_at_call 69; refine (find_any b _ _ k _ _ hK0).mono ?_; rintro e w' ⟨rfl, rfl⟩)
  generalize w.alloc (.cells #[.int .i64 9, .int .i64 m.t, .int .i64 m.o, .int .i64 m.d, .int .i64 m.v, .int .i64 m.b, .int .i64 m.x, .int .i64 m.y, .int .i64 m.n] 31) = w1 at *
  have c3 := hC0.1 3 (by omega)
  simp only [Cm.ints] at c3
  have HF := hid hF0
  have HB0 := hid hb0
  have HT := hid (withdraw_any b vt vp k m.d w1 hK0 (h.sim.small hI.ok) (h.sim.wired hI))
  have hN : wdN k m.d = (L.hits m.d).length := h.sim.wdN hI m.d
  rw [hN] at HT
  clear hC0 hF0 hK0 hb0 hN
  go_wp2_with fail
  refine HT.out.mono ?_
  rintro e w2 ⟨rfl, hK2, hk2⟩
  have HX := hid (show BkX B w2 b (L.act m) from by
    have e1 : L.act m = L.chg PT.lostAll (L.hits m.d) := by simp [Led.act, hkn]
    rw [e1]
    exact h.tubes (h.sim.wd hI m.d) hK2 (by rw [hitTo_len]))
  have HK := hid ((kp_new (B := B) HB0.out).trans (hk2.mono (fun g _ hg => h.ft g hg)))
  have HTl := hid (show L.tell m = [((L.hits m.d).length : Int)] by simp [Led.tell, hkn])
  clear hK2 hk2
  go_wp2
  go_ret
  have hba : Below w2.heap.size w2 (w2.alloc (.cells #[.int .i64 ((L.hits m.d).length : Nat)] 3)) := (Below.refl _ w2).alloc (Nat.le_refl _) _
  exact ⟨_, rfl, by rw [HTl.out]; exact one_int w2 _ _, HX.out.below hba, HK.out.trans (below_toKeeps hba _)⟩
set_option maxRecDepth 8000 in
set_option maxHeartbeats 2000000 in
theorem bdo_turn (h : BkF B w b vt vp L k) (hI : L.Inv) (hm : m.Ok) (hk : ((m.k : Nat) : Int) = 10) (_he : L.err m = 0) (_hB : B ≤ w.heap.size) : Calls Tryz.prog 53 #[.pointer (some ⟨b, 0, none⟩), m.val] w (DoPost B w b L m) := by
  have hC0 := Cm.has_new w 31 m
  have hb0 : Below w.heap.size w (w.alloc (.cells #[.int .i64 m.k, .int .i64 m.t, .int .i64 m.o, .int .i64 m.d, .int .i64 m.v, .int .i64 m.b, .int .i64 m.x, .int .i64 m.y, .int .i64 m.n] 31)) := (Below.refl _ w).alloc (Nat.le_refl _) _
  have hlt0 := has_new_lt w m
  have hF0 := h.below hb0
  have hK0 := hF0.bk
  have hkn : m.k = 10 := by omega
  unfold Cm.val
  rw [hk] at hC0 hb0 hF0 hK0 hlt0 ⊢
  go_enter Tryz.func53, Tryz.ntmps53
  go_wp2_with (go_at_call 69; refine (find_any b _ _ k _ _ hK0).mono ?_; rintro e w' ⟨rfl, rfl⟩)
  generalize w.alloc (.cells #[.int .i64 10, .int .i64 m.t, .int .i64 m.o, .int .i64 m.d, .int .i64 m.v, .int .i64 m.b, .int .i64 m.x, .int .i64 m.y, .int .i64 m.n] 31) = w1 at *
  have c5 := hC0.1 5 (by omega)
  have c8 := hC0.1 8 (by omega)
  simp only [Cm.ints] at c5 c8
  have hmb := hm.b
  have hb1 := hm.b1 (by omega)
  have hmn := hm.n
  have hs := h.sim.sides m.b (by omega)
  have hsl := Led.sideN_lt hI.ok m.b
  have HF := hid hF0
  have HB0 := hid hb0
  have HC := hid hC0
  have e1 : L.act m = L.mvB m.b (turnXY (L.sideN m.b) m.n) := by
    rw [← Led.turn_act hI hb1]
    simp [Led.act, hkn, Led.cmTurn]
  have HE := hid e1
  have H0 := hid (show BkF B w1 b vt vp (L.mvB m.b (turnXY (L.sideN m.b) 0)) k from ⟨hF0.bk, by
    have : L.mvB m.b (turnXY (L.sideN m.b) 0) = L := Led.mvB_id (fun t _ _ => rfl)
    rw [this]; exact h.sim, h.nt, h.np, h.fb, h.ft, h.fp⟩)
  have hn3 := hm.n3 (by omega)
  have HSd := hid (show L.sideN m.b ≠ 0 from fun e0 => by
    have h1 := h.sim.err hI hm
    rw [_he] at h1
    unfold errI at h1
    rw [show (m.ints 0).toNat = 10 by show ((m.k : Nat) : Int).toNat = 10; omega] at h1
    have h2 : errBox k m.ints = 0 := h1
    unfold errBox at h2
    rw [h.sim.side hm, e0] at h2
    simp at h2)
  have HVt := hid (fun g (hg : vt.ownBlock = some g) => show g ≠ w.heap.size from by have := h.bk.own_lt (g := g) (.inr (.inl hg)); omega)
  clear hC0 hF0 hK0 hb0 e1 c5 c8
  go_wp2_with fail
  go_loopw [6] (fun i wr => ∃ (j : Nat) (k' : Bk), j ≤ m.n ∧ i = .int .i64 j ∧ BkF B wr b vt vp (L.mvB m.b (turnXY (L.sideN m.b) j)) k' ∧ Keeps (fun g => B ≤ g) w wr ∧ Has wr w.heap.size m.ints ∧ w.heap.size < wr.heap.size) (fun i _ => m.n - (intOf i).toNat)
  case atStart => exact ⟨0, k, by omega, rfl, H0.out, kp_new HB0.out, HC.out, hlt0⟩
  case round =>
    clear H0 HC HF
    obtain ⟨j, k', hj, rfl, hF, hkp, hC, hlw⟩ := hrel
    have c5 := hC.1 5 (by omega)
    have c8 := hC.1 8 (by omega)
    simp only [Cm.ints] at c5 c8
    by_cases hjn : j < m.n
    · have hji : (j : Int) < (m.n : Int) := by omega
      have hs' : k'.sides m.b = L.sideN m.b := hF.sim.sides m.b (by omega)
      have HT := hid (bturned_any b vt vp k' m.b false (by omega) _ hF.bk (hF.sim.small (turn_inv hI ⟨hb1, hmb⟩ HSd.out (by omega)).ok) (by rw [hs']; omega))
      rw [hs'] at HT
      have HX := hid (And.intro hF (And.intro hkp (And.intro hC hlw)))
      clear hF hkp hC hs'
      go_wp2_with fail
      refine HT.out.mono ?_
      clear HT
      rintro e w2 ⟨rfl, hK2, hk2⟩
      obtain ⟨hF, hkp, hC, hlw⟩ := HX.out
      have HY := hid (show BkF B w2 b vt vp (L.mvB m.b (turnXY (L.sideN m.b) (j + 1))) (k'.withTubes (k'.tubes.map (turnF m.b (L.sideN m.b) false))) from ⟨hK2, Sim.turn hI hb1 hF.sim, fun e => hF.nt (List.map_eq_nil_iff.1 e), hF.np, hF.fb, hF.ft, hF.fp⟩)
      have HZ := hid (And.intro (hkp.trans (hk2.mono (fun g _ hg => hF.ft g hg))) (And.intro (has_keeps hC hk2 hlw (fun e => HVt.out _ e rfl)) (Nat.lt_of_lt_of_le hlw hk2.size)))
      clear HX hF hkp hC hK2 hk2
      go_wp2_with fail
      exact ⟨⟨j + 1, _, by omega, by go_num, HY.out, HZ.out.1, HZ.out.2.1, HZ.out.2.2⟩, by simp [intOf]; omega⟩
    · have hji : ¬ (j : Int) < (m.n : Int) := by omega
      have e : j = m.n := by omega
      subst e
      have HX := hid (And.intro hF hkp)
      clear hF hkp hC
      go_wp2
      go_ret
      exact ⟨_, rfl, .inr ⟨rfl, by simp [Led.tell, hkn]⟩, by rw [HE.out]; exact ⟨_, _, _, HX.out.1⟩, HX.out.2⟩

end Go.Proofs.YtbpnllhhmookcaaGreatDoor

/- Do of the books: questions. -/
namespace Go.Proofs.YtbpnllhhmookcaaGreatDoor
open Go.RowKit Go.Shelf
variable {B b : Nat} {w w' : World} {vt vp : Value} {L : Led} {k : Bk} {m : Cm}

set_option maxRecDepth 8000 in
set_option maxHeartbeats 2000000 in
theorem bdo_show (h : BkF B w b vt vp L k) (hI : L.Inv) (_hm : m.Ok) (hk : ((m.k : Nat) : Int) = 12) (he : L.err m = 0) (_hB : B ≤ w.heap.size) : Calls Tryz.prog 53 #[.pointer (some ⟨b, 0, none⟩), m.val] w (DoPost B w b L m) := by
  have hC0 := Cm.has_new w 31 m
  have hb0 : Below w.heap.size w (w.alloc (.cells #[.int .i64 m.k, .int .i64 m.t, .int .i64 m.o, .int .i64 m.d, .int .i64 m.v, .int .i64 m.b, .int .i64 m.x, .int .i64 m.y, .int .i64 m.n] 31)) := (Below.refl _ w).alloc (Nat.le_refl _) _
  have hlt0 := has_new_lt w m
  have hF0 := h.below hb0
  have hK0 := hF0.bk
  have hkn : m.k = 12 := by omega
  unfold Cm.val
  rw [hk] at hC0 hb0 hF0 hK0 hlt0 ⊢
  go_enter Tryz.func53, Tryz.ntmps53
  go_wp2_with (go_at_call 69; refine (find_any b _ _ k _ _ hK0).mono ?_; rintro e w' ⟨rfl, rfl⟩)
  generalize w.alloc (.cells #[.int .i64 12, .int .i64 m.t, .int .i64 m.o, .int .i64 m.d, .int .i64 m.v, .int .i64 m.b, .int .i64 m.x, .int .i64 m.y, .int .i64 m.n] 31) = w1 at *
  obtain ⟨q, hq, hD⟩ := Led.tube_of (Led.noShow he (by omega))
  obtain ⟨i, hi, ei, hf⟩ := h.sim.find_some hI.ok hq
  have hil : i < k.tubes.length := by rw [h.sim.tubes, List.length_map]; exact hi
  have HT := hid (tells_show b vt vp k m.ints i w1 hK0 hk hf hil)
  have HTl := hid (show L.tell m = showL k.tubes[i] by
    have e1 : k.tubes[i] = tF L.ts[i] := by have := h.sim.at hi; rwa [getD_T hil] at this
    rw [e1, ei, show_tF]
    simp [Led.tell, hkn, hD])
  simp only [Cm.ints] at HT
  rw [hk] at HT
  have c0 := hC0.1 0 (by omega)
  have c1 := hC0.1 1 (by omega)
  have c2 := hC0.1 2 (by omega)
  have c3 := hC0.1 3 (by omega)
  have c4 := hC0.1 4 (by omega)
  have c5 := hC0.1 5 (by omega)
  have c6 := hC0.1 6 (by omega)
  have c7 := hC0.1 7 (by omega)
  have c8 := hC0.1 8 (by omega)
  simp only [Cm.ints] at c0 c1 c2 c3 c4 c5 c6 c7 c8
  rw [hk] at c0
  have HF := hid hF0
  have HB0 := hid hb0
  have HA := hid (show L.act m = L by simp [Led.act, hkn])
  clear hC0 hF0 hK0 hb0
  go_wp2_with fail
  refine HT.out.mono ?_
  clear HT
  rintro e w2 ⟨v, rfl, hi2, hb2⟩
  go_wp2
  go_ret
  exact ⟨v, rfl, by rw [HTl.out]; exact hi2, by rw [HA.out]; exact ⟨_, _, _, HF.out.below hb2⟩, (kp_new HB0.out).trans (below_toKeeps hb2 _)⟩
set_option maxRecDepth 8000 in
set_option maxHeartbeats 2000000 in
theorem bdo_cont (h : BkF B w b vt vp L k) (_hI : L.Inv) (_hm : m.Ok) (hk : ((m.k : Nat) : Int) = 13) (_he : L.err m = 0) (_hB : B ≤ w.heap.size) : Calls Tryz.prog 53 #[.pointer (some ⟨b, 0, none⟩), m.val] w (DoPost B w b L m) := by
  have hC0 := Cm.has_new w 31 m
  have hb0 : Below w.heap.size w (w.alloc (.cells #[.int .i64 m.k, .int .i64 m.t, .int .i64 m.o, .int .i64 m.d, .int .i64 m.v, .int .i64 m.b, .int .i64 m.x, .int .i64 m.y, .int .i64 m.n] 31)) := (Below.refl _ w).alloc (Nat.le_refl _) _
  have hlt0 := has_new_lt w m
  have hF0 := h.below hb0
  have hK0 := hF0.bk
  have hkn : m.k = 13 := by omega
  unfold Cm.val
  rw [hk] at hC0 hb0 hF0 hK0 hlt0 ⊢
  go_enter Tryz.func53, Tryz.ntmps53
  go_wp2_with (go_at_call 69; refine (find_any b _ _ k _ _ hK0).mono ?_; rintro e w' ⟨rfl, rfl⟩)
  generalize w.alloc (.cells #[.int .i64 13, .int .i64 m.t, .int .i64 m.o, .int .i64 m.d, .int .i64 m.v, .int .i64 m.b, .int .i64 m.x, .int .i64 m.y, .int .i64 m.n] 31) = w1 at *
  have HT := hid (tells_content b vt vp k m.ints w1 hK0 hk)
  have HTl := hid (show L.tell m = contL k.tubes (m.b : Nat) by rw [h.sim.tells_cont]; simp [Led.tell, hkn])
  simp only [Cm.ints] at HT
  rw [hk] at HT
  have c0 := hC0.1 0 (by omega)
  have c1 := hC0.1 1 (by omega)
  have c2 := hC0.1 2 (by omega)
  have c3 := hC0.1 3 (by omega)
  have c4 := hC0.1 4 (by omega)
  have c5 := hC0.1 5 (by omega)
  have c6 := hC0.1 6 (by omega)
  have c7 := hC0.1 7 (by omega)
  have c8 := hC0.1 8 (by omega)
  simp only [Cm.ints] at c0 c1 c2 c3 c4 c5 c6 c7 c8
  rw [hk] at c0
  have HF := hid hF0
  have HB0 := hid hb0
  have HA := hid (show L.act m = L by simp [Led.act, hkn])
  clear hC0 hF0 hK0 hb0
  go_wp2_with fail
  refine HT.out.mono ?_
  clear HT
  rintro e w2 ⟨v, rfl, hi2, hb2⟩
  go_wp2
  go_ret
  exact ⟨v, rfl, by rw [HTl.out]; exact hi2, by rw [HA.out]; exact ⟨_, _, _, HF.out.below hb2⟩, (kp_new HB0.out).trans (below_toKeeps hb2 _)⟩
set_option maxRecDepth 8000 in
set_option maxHeartbeats 2000000 in
theorem bdo_of (h : BkF B w b vt vp L k) (_hI : L.Inv) (_hm : m.Ok) (hk : ((m.k : Nat) : Int) = 14) (_he : L.err m = 0) (_hB : B ≤ w.heap.size) : Calls Tryz.prog 53 #[.pointer (some ⟨b, 0, none⟩), m.val] w (DoPost B w b L m) := by
  have hC0 := Cm.has_new w 31 m
  have hb0 : Below w.heap.size w (w.alloc (.cells #[.int .i64 m.k, .int .i64 m.t, .int .i64 m.o, .int .i64 m.d, .int .i64 m.v, .int .i64 m.b, .int .i64 m.x, .int .i64 m.y, .int .i64 m.n] 31)) := (Below.refl _ w).alloc (Nat.le_refl _) _
  have hlt0 := has_new_lt w m
  have hF0 := h.below hb0
  have hK0 := hF0.bk
  have hkn : m.k = 14 := by omega
  unfold Cm.val
  rw [hk] at hC0 hb0 hF0 hK0 hlt0 ⊢
  go_enter Tryz.func53, Tryz.ntmps53
  go_wp2_with (go_at_call 69; refine (find_any b _ _ k _ _ hK0).mono ?_; rintro e w' ⟨rfl, rfl⟩)
  generalize w.alloc (.cells #[.int .i64 14, .int .i64 m.t, .int .i64 m.o, .int .i64 m.d, .int .i64 m.v, .int .i64 m.b, .int .i64 m.x, .int .i64 m.y, .int .i64 m.n] 31) = w1 at *
  have HT := hid (tells_of b vt vp k m.ints w1 hK0 hk)
  have HTl := hid (show L.tell m = askL k.tubes (markD k.tubes (m.d : Nat)) by rw [h.sim.tells_of]; simp [Led.tell, hkn])
  simp only [Cm.ints] at HT
  rw [hk] at HT
  have c0 := hC0.1 0 (by omega)
  have c1 := hC0.1 1 (by omega)
  have c2 := hC0.1 2 (by omega)
  have c3 := hC0.1 3 (by omega)
  have c4 := hC0.1 4 (by omega)
  have c5 := hC0.1 5 (by omega)
  have c6 := hC0.1 6 (by omega)
  have c7 := hC0.1 7 (by omega)
  have c8 := hC0.1 8 (by omega)
  simp only [Cm.ints] at c0 c1 c2 c3 c4 c5 c6 c7 c8
  rw [hk] at c0
  have HF := hid hF0
  have HB0 := hid hb0
  have HA := hid (show L.act m = L by simp [Led.act, hkn])
  clear hC0 hF0 hK0 hb0
  go_wp2_with fail
  refine HT.out.mono ?_
  clear HT
  rintro e w2 ⟨v, rfl, hi2, hb2⟩
  go_wp2
  go_ret
  exact ⟨v, rfl, by rw [HTl.out]; exact hi2, by rw [HA.out]; exact ⟨_, _, _, HF.out.below hb2⟩, (kp_new HB0.out).trans (below_toKeeps hb2 _)⟩
set_option maxRecDepth 8000 in
set_option maxHeartbeats 2000000 in
theorem bdo_up (h : BkF B w b vt vp L k) (hI : L.Inv) (_hm : m.Ok) (hk : ((m.k : Nat) : Int) = 15) (he : L.err m = 0) (_hB : B ≤ w.heap.size) : Calls Tryz.prog 53 #[.pointer (some ⟨b, 0, none⟩), m.val] w (DoPost B w b L m) := by
  have hC0 := Cm.has_new w 31 m
  have hb0 : Below w.heap.size w (w.alloc (.cells #[.int .i64 m.k, .int .i64 m.t, .int .i64 m.o, .int .i64 m.d, .int .i64 m.v, .int .i64 m.b, .int .i64 m.x, .int .i64 m.y, .int .i64 m.n] 31)) := (Below.refl _ w).alloc (Nat.le_refl _) _
  have hlt0 := has_new_lt w m
  have hF0 := h.below hb0
  have hK0 := hF0.bk
  have hkn : m.k = 15 := by omega
  unfold Cm.val
  rw [hk] at hC0 hb0 hF0 hK0 hlt0 ⊢
  go_enter Tryz.func53, Tryz.ntmps53
  go_wp2_with (go_at_call 69; refine (find_any b _ _ k _ _ hK0).mono ?_; rintro e w' ⟨rfl, rfl⟩)
  generalize w.alloc (.cells #[.int .i64 15, .int .i64 m.t, .int .i64 m.o, .int .i64 m.d, .int .i64 m.v, .int .i64 m.b, .int .i64 m.x, .int .i64 m.y, .int .i64 m.n] 31) = w1 at *
  obtain ⟨q, hq, hD⟩ := Led.tube_of (Led.noShow he (by omega))
  obtain ⟨i, hi, ei, hf⟩ := h.sim.find_some hI.ok hq
  have hil : i < k.tubes.length := by rw [h.sim.tubes, List.length_map]; exact hi
  have HT := hid (tells_way b vt vp k m.ints false i w1 hK0 (h.sim.wired hI) hk hf hil)
  have HTl := hid (show L.tell m = askL k.tubes (reachL k (markOne k.tubes.length i) false) by
    rw [h.sim.tells_up hI hi (n := m.t) (by rw [ei])]
    simp [Led.tell, hkn])
  simp only [Cm.ints] at HT
  rw [hk] at HT
  have c0 := hC0.1 0 (by omega)
  have c1 := hC0.1 1 (by omega)
  have c2 := hC0.1 2 (by omega)
  have c3 := hC0.1 3 (by omega)
  have c4 := hC0.1 4 (by omega)
  have c5 := hC0.1 5 (by omega)
  have c6 := hC0.1 6 (by omega)
  have c7 := hC0.1 7 (by omega)
  have c8 := hC0.1 8 (by omega)
  simp only [Cm.ints] at c0 c1 c2 c3 c4 c5 c6 c7 c8
  rw [hk] at c0
  have HF := hid hF0
  have HB0 := hid hb0
  have HA := hid (show L.act m = L by simp [Led.act, hkn])
  clear hC0 hF0 hK0 hb0
  go_wp2_with fail
  refine HT.out.mono ?_
  clear HT
  rintro e w2 ⟨v, rfl, hi2, hb2⟩
  go_wp2
  go_ret
  exact ⟨v, rfl, by rw [HTl.out]; exact hi2, by rw [HA.out]; exact ⟨_, _, _, HF.out.below hb2⟩, (kp_new HB0.out).trans (below_toKeeps hb2 _)⟩
set_option maxRecDepth 8000 in
set_option maxHeartbeats 2000000 in
theorem bdo_down (h : BkF B w b vt vp L k) (hI : L.Inv) (_hm : m.Ok) (hk : ((m.k : Nat) : Int) = 16) (he : L.err m = 0) (_hB : B ≤ w.heap.size) : Calls Tryz.prog 53 #[.pointer (some ⟨b, 0, none⟩), m.val] w (DoPost B w b L m) := by
  have hC0 := Cm.has_new w 31 m
  have hb0 : Below w.heap.size w (w.alloc (.cells #[.int .i64 m.k, .int .i64 m.t, .int .i64 m.o, .int .i64 m.d, .int .i64 m.v, .int .i64 m.b, .int .i64 m.x, .int .i64 m.y, .int .i64 m.n] 31)) := (Below.refl _ w).alloc (Nat.le_refl _) _
  have hlt0 := has_new_lt w m
  have hF0 := h.below hb0
  have hK0 := hF0.bk
  have hkn : m.k = 16 := by omega
  unfold Cm.val
  rw [hk] at hC0 hb0 hF0 hK0 hlt0 ⊢
  go_enter Tryz.func53, Tryz.ntmps53
  go_wp2_with (go_at_call 69; refine (find_any b _ _ k _ _ hK0).mono ?_; rintro e w' ⟨rfl, rfl⟩)
  generalize w.alloc (.cells #[.int .i64 16, .int .i64 m.t, .int .i64 m.o, .int .i64 m.d, .int .i64 m.v, .int .i64 m.b, .int .i64 m.x, .int .i64 m.y, .int .i64 m.n] 31) = w1 at *
  obtain ⟨q, hq, hD⟩ := Led.tube_of (Led.noShow he (by omega))
  obtain ⟨i, hi, ei, hf⟩ := h.sim.find_some hI.ok hq
  have hil : i < k.tubes.length := by rw [h.sim.tubes, List.length_map]; exact hi
  have HT := hid (tells_way b vt vp k m.ints true i w1 hK0 (h.sim.wired hI) hk hf hil)
  have HTl := hid (show L.tell m = askL k.tubes (reachL k (markOne k.tubes.length i) true) by
    rw [h.sim.tells_down hI hi (n := m.t) (by rw [ei])]
    simp [Led.tell, hkn])
  simp only [Cm.ints] at HT
  rw [hk] at HT
  have c0 := hC0.1 0 (by omega)
  have c1 := hC0.1 1 (by omega)
  have c2 := hC0.1 2 (by omega)
  have c3 := hC0.1 3 (by omega)
  have c4 := hC0.1 4 (by omega)
  have c5 := hC0.1 5 (by omega)
  have c6 := hC0.1 6 (by omega)
  have c7 := hC0.1 7 (by omega)
  have c8 := hC0.1 8 (by omega)
  simp only [Cm.ints] at c0 c1 c2 c3 c4 c5 c6 c7 c8
  rw [hk] at c0
  have HF := hid hF0
  have HB0 := hid hb0
  have HA := hid (show L.act m = L by simp [Led.act, hkn])
  clear hC0 hF0 hK0 hb0
  go_wp2_with fail
  refine HT.out.mono ?_
  clear HT
  rintro e w2 ⟨v, rfl, hi2, hb2⟩
  go_wp2
  go_ret
  exact ⟨v, rfl, by rw [HTl.out]; exact hi2, by rw [HA.out]; exact ⟨_, _, _, HF.out.below hb2⟩, (kp_new HB0.out).trans (below_toKeeps hb2 _)⟩

end Go.Proofs.YtbpnllhhmookcaaGreatDoor

/- Do of the books: a tube is registered; what is poured. -/
namespace Go.Proofs.YtbpnllhhmookcaaGreatDoor
open Go.RowKit Go.Shelf
variable {B b : Nat} {w w' : World} {vt vp : Value} {L : Led} {k : Bk} {m : Cm}

theorem addT_ne (ts : List (Nat → Int)) (t : Nat → Int) : addT ts t ≠ [] := by unfold addT; simp
theorem ts_few (hf : L.kvs.length ≤ 1000) : L.ts.length ≤ 1000 ∧ L.ps.length ≤ 1000 := by
  have h2 : L.kvs.length = L.bs.length + L.ts.length + L.ps.length := by simp [Led.kvs]; omega
  omega
theorem Sim.few (hS : Sim L k) (hf : L.kvs.length ≤ 1000) : k.tubes.length ≤ 1000 ∧ k.poured.length ≤ 1000 := by
  have := ts_few hf
  rw [hS.tubes, List.length_map, hS.poured.length_eq, List.length_map]
  exact this

theorem badd_both (h : BkF B w b vt vp L k) (t : Nat → Int) (hf : L.kvs.length ≤ 1000) :
    Calls Tryz.prog 73 #[.pointer (some ⟨b, 0, none⟩), .agg #[.int .i64 (t 0), .int .i64 (t 1), .int .i64 (t 2), .int .i64 (t 3), .int .i64 (t 4), .int .i64 (t 5), .int .i64 (t 6), .int .i64 (t 7), .int .i64 (t 8), .int .i64 (t 9), .int .i64 (t 10)]] w fun e w' => e = .returned (.tuple #[]) ∧ ∃ vt', BkAt w' b vt' vp (k.withTubes (addT k.tubes t)) ∧ (∀ g, vt'.ownBlock = some g → w.heap.size ≤ g) ∧ Keeps (fun g => g = b) w w' := by
  by_cases he : k.tubes = []
  · have hb := h.bk
    rw [h.nt he] at hb
    exact add_nil b vp k t w hb he
  · have hb := h.bk
    obtain ⟨oa, cap, e, _⟩ := hb.tubes.form
    subst e
    obtain ⟨g, rfl, hn, hcap, _⟩ := hb.tube (m := 0) (List.length_pos_iff.2 he)
    exact badd_any b vp g cap k t w hb hcap (by have := h.sim.few hf; omega)

set_option maxRecDepth 8000 in
set_option maxHeartbeats 2000000 in
theorem bdo_reg (h : BkF B w b vt vp L k) (hI : L.Inv) (_hm : m.Ok) (hk : ((m.k : Nat) : Int) = 2) (he : L.err m = 0) (hB : B ≤ w.heap.size) (hf : L.kvs.length ≤ 1000) : Calls Tryz.prog 53 #[.pointer (some ⟨b, 0, none⟩), m.val] w (DoPost B w b L m) := by
  have hC0 := Cm.has_new w 31 m
  have hb0 : Below w.heap.size w (w.alloc (.cells #[.int .i64 m.k, .int .i64 m.t, .int .i64 m.o, .int .i64 m.d, .int .i64 m.v, .int .i64 m.b, .int .i64 m.x, .int .i64 m.y, .int .i64 m.n] 31)) := (Below.refl _ w).alloc (Nat.le_refl _) _
  have hlt0 := has_new_lt w m
  have hF0 := h.below hb0
  have hK0 := hF0.bk
  have hkn : m.k = 2 := by omega
  unfold Cm.val
  rw [hk] at hC0 hb0 hF0 hK0 hlt0 ⊢
  go_enter Tryz.func53, Tryz.ntmps53
  go_wp2_with (go_at_call 69; refine (find_any b _ _ k _ _ hK0).mono ?_; rintro e w' ⟨rfl, rfl⟩)
  generalize w.alloc (.cells #[.int .i64 2, .int .i64 m.t, .int .i64 m.o, .int .i64 m.d, .int .i64 m.v, .int .i64 m.b, .int .i64 m.x, .int .i64 m.y, .int .i64 m.n] 31) = w1 at *
  have c1 := hC0.1 1 (by omega)
  have c3 := hC0.1 3 (by omega)
  have c4 := hC0.1 4 (by omega)
  have c5 := hC0.1 5 (by omega)
  have c6 := hC0.1 6 (by omega)
  have c7 := hC0.1 7 (by omega)
  simp only [Cm.ints] at c1 c3 c4 c5 c6 c7
  have hno := Led.no2 he hkn
  have htn : L.tube m.t = .none := by cases hq : L.tube m.t with
    | none => rfl
    | some q => rw [hq] at hno; cases hno
  have HT := hid (badd_both hF0 (tF (m.t, ⟨m.x, m.y, m.b, m.d, 1, 0, m.v, m.v, 0, 0⟩)) hf)
  simp only [tF] at HT
  have HF := hid hF0
  have HB0 := hid hb0
  have hsz := hb0.size
  clear hC0 hF0 hK0 hb0
  go_wp2_with fail
  refine HT.out.mono ?_
  clear HT
  rintro e w2 ⟨rfl, vt2, hK2, hfr, hk2⟩
  have HX := hid (show BkX B w2 b (L.act m) from by
    have e1 : L.act m = L.putT m.t ⟨m.x, m.y, m.b, m.d, 1, 0, m.v, m.v, 0, 0⟩ := by simp [Led.act, hkn]
    rw [e1]
    exact ⟨vt2, vp, _, hK2, h.sim.add hI.ok htn _, fun e => absurd e (addT_ne _ _), h.np, h.fb, fun g hg => by have := hfr g hg; omega, h.fp⟩)
  have HK := hid ((kp_new (B := B) HB0.out).trans (hk2.mono (fun g _ hg => by rw [hg]; exact h.fb)))
  clear hK2 hk2 hfr
  go_wp2
  go_ret
  exact ⟨_, rfl, .inr ⟨rfl, by simp [Led.tell, hkn]⟩, HX.out, HK.out⟩

theorem pourT_len (ts : List (Nat → Int)) (i j : Nat) (v : Int) : (pourT ts i j v).length = ts.length := by unfold pourT; rw [setT_len, setT_len]
theorem pourP_ne (hS : Sim L k) (hO : L.Ok) (a b v : Nat) : pourP k.poured a b v ≠ [] := by
  intro e
  have := (hS.pourPs hO a b v).length_eq
  rw [e] at this
  unfold insP at this
  simp at this
theorem BkF.poured (h : BkF B w b vt vp L k) {ts ps : List (Nat → Int)} {vp' : Value} {L' : Led} {w1 : World} (hs : Sim L' ((k.withTubes ts).withPoured ps)) (hk : BkAt w' b vt vp' ((k.withTubes ts).withPoured ps)) (hl : ts.length = k.tubes.length) (hp : ps ≠ []) (hB : B ≤ w1.heap.size) (hv : vp'.ownBlock = vp.ownBlock ∨ ∀ g, vp'.ownBlock = some g → w1.heap.size ≤ g) : BkX B w' b L' :=
  ⟨vt, vp', _, hk, hs, fun e => h.nt (List.eq_nil_of_length_eq_zero (by rw [← hl, show ts = [] from e]; rfl)), fun e => absurd e hp, h.fb, h.ft, fun g hg => by
    rcases hv with hv | hv
    · exact h.fp g (by rw [← hv]; exact hg)
    · have := hv g hg; omega⟩
theorem own_ge (h : BkF B w b vt vp L k) : ∀ g, bkOwn b vt vp g → B ≤ g := fun g hg => by
  rcases hg with rfl | hg | hg
  · exact h.fb
  · exact h.ft g hg
  · exact h.fp g hg

set_option maxRecDepth 8000 in
set_option maxHeartbeats 2000000 in
theorem bdo_pour (h : BkF B w b vt vp L k) (hI : L.Inv) (hm : m.Ok) (hk : ((m.k : Nat) : Int) = 5) (he : L.err m = 0) (hB : B ≤ w.heap.size) (hf : L.kvs.length ≤ 1000) : Calls Tryz.prog 53 #[.pointer (some ⟨b, 0, none⟩), m.val] w (DoPost B w b L m) := by
  have hC0 := Cm.has_new w 31 m
  have hb0 : Below w.heap.size w (w.alloc (.cells #[.int .i64 m.k, .int .i64 m.t, .int .i64 m.o, .int .i64 m.d, .int .i64 m.v, .int .i64 m.b, .int .i64 m.x, .int .i64 m.y, .int .i64 m.n] 31)) := (Below.refl _ w).alloc (Nat.le_refl _) _
  have hlt0 := has_new_lt w m
  have hF0 := h.below hb0
  have hK0 := hF0.bk
  have hkn : m.k = 5 := by omega
  unfold Cm.val
  rw [hk] at hC0 hb0 hF0 hK0 hlt0 ⊢
  go_enter Tryz.func53, Tryz.ntmps53
  go_wp2_with (go_at_call 69; refine (find_any b _ _ k _ _ hK0).mono ?_; rintro e w' ⟨rfl, rfl⟩)
  generalize w.alloc (.cells #[.int .i64 5, .int .i64 m.t, .int .i64 m.o, .int .i64 m.d, .int .i64 m.v, .int .i64 m.b, .int .i64 m.x, .int .i64 m.y, .int .i64 m.n] 31) = w1 at *
  have c1 := hC0.1 1 (by omega)
  have c2 := hC0.1 2 (by omega)
  have c4 := hC0.1 4 (by omega)
  simp only [Cm.ints] at c1 c2 c4
  obtain ⟨n1, n2, n3, n4, n5, n6, n7, n8⟩ := Led.no5 he hkn
  have hmv := hm.v
  obtain ⟨qt, hqt, hDt⟩ := Led.tube_of n4
  obtain ⟨qo, hqo, hDo⟩ := Led.tube_of n5
  rw [hDt] at n2
  rw [hDo] at n6
  obtain ⟨i, hi, ei, hfi⟩ := h.sim.find_some hI.ok hqt
  obtain ⟨j, hj, ej, hfj⟩ := h.sim.find_some hI.ok hqo
  have hlen : k.tubes.length = L.ts.length := by rw [h.sim.tubes, List.length_map]
  have hij : ¬ i = j := fun e => by subst e; rw [ei] at ej; have := congrArg Prod.fst ej; simp only at this; omega
  have hfw := h.sim.few hf
  have HT := hid (bpour_any b vt vp k m.t m.o m.v w1 hK0 (h.sim.small hI.ok) (by omega) i j (by omega) (by omega) hij hfi hfj (by omega))
  have HF := hid hF0
  have HB0 := hid hb0
  have hsz := hb0.size
  clear hC0 hF0 hK0 hb0
  go_wp2_with fail
  refine HT.out.mono ?_
  clear HT
  rintro e w2 ⟨rfl, vp2, hK2, hfr, hk2⟩
  have HX := hid (show BkX B w2 b (L.act m) from by
    have e1 : L.act m = L.pourL m := by simp [Led.act, hkn]
    rw [e1]
    exact h.poured (w1 := w1) (h.sim.pourT hI.ok hqt hqo (by omega) n2 n6 hi hj ei ej) hK2 (pourT_len _ _ _ _) (pourP_ne h.sim hI.ok _ _ _) (by omega) hfr)
  have HK := hid ((kp_new (B := B) HB0.out).trans (hk2.mono (fun g _ hg => own_ge h g hg)))
  clear hK2 hk2 hfr
  go_wp2
  go_ret
  exact ⟨_, rfl, .inr ⟨rfl, by simp [Led.tell, hkn]⟩, HX.out, HK.out⟩

end Go.Proofs.YtbpnllhhmookcaaGreatDoor

/- Do of the books: a tube is moved, used, taken, returned. -/
namespace Go.Proofs.YtbpnllhhmookcaaGreatDoor
open Go.RowKit Go.Shelf
variable {B b : Nat} {w w' : World} {vt vp : Value} {L : Led} {k : Bk} {m : Cm}

theorem setT_first {ts : List (Nat → Int)} {i : Nat} (hi : i < ts.length) (f : Nat) (n : Int) : setT ts i f n = ts.set i (upd ts[i] f n) := by unfold setT; rw [getD_T hi]
theorem tF_moved (t : Nat) (q : PT) (b x y : Nat) (hs : q.status = 1) : upd (upd (upd (tF (t, q)) 8 (b : Nat)) 9 (x : Nat)) 10 (y : Nat) = tF (t, q.stored b x y) := by
  funext i
  unfold upd
  match i with
  | 0 => rfl
  | 1 => rfl
  | 2 => rfl
  | 3 => rfl
  | 4 => rfl
  | 5 => rfl
  | 6 => show (q.status : Int) = 1; omega
  | 7 => rfl
  | 8 => rfl
  | 9 => rfl
  | 10 => rfl
  | i + 11 => rfl
theorem tF_back (t : Nat) (q : PT) (b x y : Nat) : upd (upd (upd (upd (upd (tF (t, q)) 6 1) 7 ((min (q.thaws + 1) 9 : Nat) : Int)) 8 (b : Nat)) 9 (x : Nat)) 10 (y : Nat) = tF (t, q.backAt b x y) := by
  funext i
  unfold upd
  match i with
  | 0 => rfl
  | 1 => rfl
  | 2 => rfl
  | 3 => rfl
  | 4 => rfl
  | 5 => rfl
  | 6 => rfl
  | 7 => rfl
  | 8 => rfl
  | 9 => rfl
  | 10 => rfl
  | i + 11 => rfl
theorem tF_used (t : Nat) (q : PT) (v : Nat) (hv : v ≤ q.left) : upd (upd (tF (t, q)) 3 ((q.left : Int) - (v : Nat))) 4 ((q.used : Int) + (v : Nat)) = tF (t, q.usedBy v) := by
  funext i
  unfold upd
  match i with
  | 0 => rfl
  | 1 => rfl
  | 2 => rfl
  | 3 => show (q.left : Int) - v = ((q.left - v : Nat) : Int); omega
  | 4 => show (q.used : Int) + v = ((q.used + v : Nat) : Int); omega
  | 5 => rfl
  | 6 => rfl
  | 7 => rfl
  | 8 => rfl
  | 9 => rfl
  | 10 => rfl
  | i + 11 => rfl
theorem tF_gone (t : Nat) (q : PT) : upd (upd (upd (upd (tF (t, q)) 6 2) 8 0) 9 0) 10 0 = tF (t, q.gone 2) := by
  funext i
  unfold upd
  match i with
  | 0 => rfl
  | 1 => rfl
  | 2 => rfl
  | 3 => rfl
  | 4 => rfl
  | 5 => rfl
  | 6 => rfl
  | 7 => rfl
  | 8 => rfl
  | 9 => rfl
  | 10 => rfl
  | i + 11 => rfl

set_option maxRecDepth 8000 in
set_option maxHeartbeats 2000000 in
theorem bdo_move (h : BkF B w b vt vp L k) (hI : L.Inv) (_hm : m.Ok) (hk : ((m.k : Nat) : Int) = 3) (he : L.err m = 0) (_hB : B ≤ w.heap.size) : Calls Tryz.prog 53 #[.pointer (some ⟨b, 0, none⟩), m.val] w (DoPost B w b L m) := by
  obtain ⟨q, hq, hD⟩ := Led.tube_of ((Led.no37 he (by omega)).2)
  obtain ⟨oa, cap, rfl, _⟩ := h.bk.tubes.form
  have hC0 := Cm.has_new w 31 m
  have hb0 : Below w.heap.size w (w.alloc (.cells #[.int .i64 m.k, .int .i64 m.t, .int .i64 m.o, .int .i64 m.d, .int .i64 m.v, .int .i64 m.b, .int .i64 m.x, .int .i64 m.y, .int .i64 m.n] 31)) := (Below.refl _ w).alloc (Nat.le_refl _) _
  have hlt0 := has_new_lt w m
  have hF0 := h.below hb0
  have hK0 := hF0.bk
  have hkn : m.k = 3 := by omega
  unfold Cm.val
  rw [hk] at hC0 hb0 hF0 hK0 hlt0 ⊢
  go_enter Tryz.func53, Tryz.ntmps53
  go_wp2_with (go_at_call 69; refine (find_any b _ _ k _ _ hK0).mono ?_; rintro e w' ⟨rfl, rfl⟩)
  generalize w.alloc (.cells #[.int .i64 3, .int .i64 m.t, .int .i64 m.o, .int .i64 m.d, .int .i64 m.v, .int .i64 m.b, .int .i64 m.x, .int .i64 m.y, .int .i64 m.n] 31) = w1 at *
  have c0 := hC0.1 0 (by omega)
  have c1 := hC0.1 1 (by omega)
  have c5 := hC0.1 5 (by omega)
  have c6 := hC0.1 6 (by omega)
  have c7 := hC0.1 7 (by omega)
  simp only [Cm.ints] at c0 c1 c5 c6 c7
  rw [hk] at c0
  obtain ⟨i, hi, ei, hf⟩ := h.sim.find_some hI.ok hq
  have hil : i < k.tubes.length := by rw [h.sim.tubes, List.length_map]; exact hi
  have e1 : k.tubes[i] = tF (m.t, q) := by have := h.sim.at hi; rw [getD_T hil, ei] at this; exact this
  obtain ⟨g, rfl, hn, hcap, hgl, t0, t1, t2, t3, t4, t5, t6, t7, t8, t9, t10, hfz⟩ := hK0.tube hil
  rw [e1] at t0 t1 t2 t3 t4 t5 t6 t7 t8 t9 t10
  simp only [tF] at t0 t1 t2 t3 t4 t5 t6 t7 t8 t9 t10
  rw [hf]
  have hct := hK0.ct
  have hbl := h.bk.lt
  have hg : (Value.slice (some ⟨g, 0, none⟩) k.tubes.length cap).ownBlock = some g := rfl
  have hgw := h.bk.own_lt (g := g) (.inr (.inl rfl))
  have hgb : ¬ g = b := fun e => hK0.nt (by rw [← e]; rfl)
  have hbg : ¬ b = g := fun e => hgb e.symm
  have hgc : ¬ g = w.heap.size := by omega
  have hcg : ¬ w.heap.size = g := by omega
  have hbc : ¬ b = w.heap.size := by omega
  have hi' : (i : Int) < (k.tubes.length : Int) := by omega
  have hfB := h.ft g rfl
  have hst := (Led.no37 he (.inl hkn)).1
  rw [hD] at hst
  have l1 : i < (setT k.tubes i 8 m.b).length := by rw [setT_len]; exact hil
  have l2 : i < (setT (setT k.tubes i 8 m.b) i 9 m.x).length := by rw [setT_len, setT_len]; exact hil
  have R3 := hid (((((hK0.setTube hg (i := i) hil (f := 8) (by omega) m.b).drew).setTube hg (i := i) (f := 9) l1 (by omega) m.x).drew).setTube hg (i := i) (f := 10) l2 (by omega) m.y).drew
  have HB0 := hid hb0
  clear l1 l2 t0 t1 t2 t3 t4 t5 t6 t7 hC0 hF0 hb0 hK0
  go_wp2_with fail
  go_region
  go_wp2_with fail
  go_region
  go_wp2_with fail
  go_region
  go_wp2
  go_ret
  have hX : BkX B (((((w1.setCell ⟨g, i * 11 + 8, none⟩ (.int .i64 m.b)).drew).setCell ⟨g, i * 11 + 9, none⟩ (.int .i64 m.x)).drew).setCell ⟨g, i * 11 + 10, none⟩ (.int .i64 m.y)).drew b (L.act m) := by
    refine h.tubes ?_ R3.out (by show (setT (setT (setT k.tubes i 8 m.b) i 9 m.x) i 10 m.y).length = _; rw [setT_len, setT_len, setT_len])
    have eA : L.act m = L.putT m.t (q.stored m.b m.x m.y) := by simp [Led.act, hkn, hD]
    rw [eA]
    have := h.sim.put hI.ok hi (show L.ts[i].1 = m.t by rw [ei]) (q.stored m.b m.x m.y)
    have eS : setT (setT (setT k.tubes i 8 m.b) i 9 m.x) i 10 m.y = k.tubes.set i (tF (m.t, q.stored m.b m.x m.y)) := by
      rw [setT_first hil, setT_set _ _ hil, setT_set _ _ hil, e1, tF_moved m.t q m.b m.x m.y hst]
    show Sim _ (k.withTubes (setT (setT (setT k.tubes i 8 m.b) i 9 m.x) i 10 m.y))
    rw [eS]; exact this
  exact ⟨_, rfl, .inr ⟨rfl, by simp [Led.tell, hkn]⟩, hX, ((((((kp_new (B := B) HB0.out).set1 hfB _ _).drew).set1 hfB _ _).drew).set1 hfB _ _).drew⟩
set_option maxRecDepth 8000 in
set_option maxHeartbeats 2000000 in
theorem bdo_use (h : BkF B w b vt vp L k) (hI : L.Inv) (hm : m.Ok) (hk : ((m.k : Nat) : Int) = 6) (he : L.err m = 0) (_hB : B ≤ w.heap.size) : Calls Tryz.prog 53 #[.pointer (some ⟨b, 0, none⟩), m.val] w (DoPost B w b L m) := by
  obtain ⟨q, hq, hD⟩ := Led.tube_of ((Led.no6 he (by omega)).2.2.2)
  obtain ⟨oa, cap, rfl, _⟩ := h.bk.tubes.form
  have hC0 := Cm.has_new w 31 m
  have hb0 : Below w.heap.size w (w.alloc (.cells #[.int .i64 m.k, .int .i64 m.t, .int .i64 m.o, .int .i64 m.d, .int .i64 m.v, .int .i64 m.b, .int .i64 m.x, .int .i64 m.y, .int .i64 m.n] 31)) := (Below.refl _ w).alloc (Nat.le_refl _) _
  have hlt0 := has_new_lt w m
  have hF0 := h.below hb0
  have hK0 := hF0.bk
  have hkn : m.k = 6 := by omega
  unfold Cm.val
  rw [hk] at hC0 hb0 hF0 hK0 hlt0 ⊢
  go_enter Tryz.func53, Tryz.ntmps53
  go_wp2_with (go_at_call 69; refine (find_any b _ _ k _ _ hK0).mono ?_; rintro e w' ⟨rfl, rfl⟩)
  generalize w.alloc (.cells #[.int .i64 6, .int .i64 m.t, .int .i64 m.o, .int .i64 m.d, .int .i64 m.v, .int .i64 m.b, .int .i64 m.x, .int .i64 m.y, .int .i64 m.n] 31) = w1 at *
  have c1 := hC0.1 1 (by omega)
  have c4 := hC0.1 4 (by omega)
  simp only [Cm.ints] at c1 c4
  obtain ⟨i, hi, ei, hf⟩ := h.sim.find_some hI.ok hq
  have hil : i < k.tubes.length := by rw [h.sim.tubes, List.length_map]; exact hi
  have e1 : k.tubes[i] = tF (m.t, q) := by have := h.sim.at hi; rw [getD_T hil, ei] at this; exact this
  obtain ⟨g, rfl, hn, hcap, hgl, t0, t1, t2, t3, t4, t5, t6, t7, t8, t9, t10, hfz⟩ := hK0.tube hil
  rw [e1] at t0 t1 t2 t3 t4 t5 t6 t7 t8 t9 t10
  simp only [tF] at t0 t1 t2 t3 t4 t5 t6 t7 t8 t9 t10
  rw [hf]
  have hct := hK0.ct
  have hbl := h.bk.lt
  have hg : (Value.slice (some ⟨g, 0, none⟩) k.tubes.length cap).ownBlock = some g := rfl
  have hgw := h.bk.own_lt (g := g) (.inr (.inl rfl))
  have hgb : ¬ g = b := fun e => hK0.nt (by rw [← e]; rfl)
  have hbg : ¬ b = g := fun e => hgb e.symm
  have hgc : ¬ g = w.heap.size := by omega
  have hcg : ¬ w.heap.size = g := by omega
  have hbc : ¬ b = w.heap.size := by omega
  have hi' : (i : Int) < (k.tubes.length : Int) := by omega
  have hfB := h.ft g rfl
  obtain ⟨n1, n2, _, _⟩ := Led.no6 he hkn
  rw [hD] at n1 n2
  have hgq := (hI.ok.t1 _ ((Led.tube_mem hI.ok).1 hq)).2.2
  have g8 : q.left ≤ 1000000 := hgq.left
  have g9 : q.used ≤ 1000000 := hgq.used
  have hmv := hm.v
  have l1 : i < (setT k.tubes i 3 ((q.left : Int) - (m.v : Nat))).length := by rw [setT_len]; exact hil
  have R3 := hid ((((hK0.setTube hg (i := i) (f := 3) hil (by omega) ((q.left : Int) - (m.v : Nat))).drew).setTube hg (i := i) (f := 4) l1 (by omega) ((q.used : Int) + (m.v : Nat))).drew)
  have HB0 := hid hb0
  clear l1 t0 t1 t2 t5 t6 t7 t8 t9 t10 hC0 hF0 hb0 hK0
  go_wp2_with fail
  go_region
  go_wp2_with fail
  go_region
  go_wp2
  go_ret
  have hX : BkX B (((((w1).setCell ⟨g, i * 11 + 3, none⟩ (.int .i64 ((q.left : Int) - (m.v : Nat)))).drew).setCell ⟨g, i * 11 + 4, none⟩ (.int .i64 ((q.used : Int) + (m.v : Nat)))).drew) b (L.act m) := by
    refine h.tubes ?_ R3.out (by show (setT (setT k.tubes i 3 ((q.left : Int) - (m.v : Nat))) i 4 ((q.used : Int) + (m.v : Nat))).length = _; rw [setT_len, setT_len])
    have eA : L.act m = L.putT m.t (q.usedBy m.v) := by simp [Led.act, hkn, hD]
    rw [eA]
    have := h.sim.put hI.ok hi (show L.ts[i].1 = m.t by rw [ei]) (q.usedBy m.v)
    have eS : setT (setT k.tubes i 3 ((q.left : Int) - (m.v : Nat))) i 4 ((q.used : Int) + (m.v : Nat)) = k.tubes.set i (tF (m.t, q.usedBy m.v)) := by
      rw [setT_first hil, setT_set _ _ hil, e1, tF_used m.t q m.v n1]
    show Sim _ (k.withTubes (setT (setT k.tubes i 3 ((q.left : Int) - (m.v : Nat))) i 4 ((q.used : Int) + (m.v : Nat))))
    rw [eS]; exact this
  exact ⟨_, rfl, .inr ⟨rfl, by simp [Led.tell, hkn]⟩, hX, (((((kp_new (B := B) HB0.out).set1 hfB _ _).drew).set1 hfB _ _).drew)⟩

end Go.Proofs.YtbpnllhhmookcaaGreatDoor

/- Do of the books: a tube is returned, taken; an aliquot. -/
namespace Go.Proofs.YtbpnllhhmookcaaGreatDoor
open Go.RowKit Go.Shelf
variable {B b : Nat} {w w' : World} {vt vp : Value} {L : Led} {k : Bk} {m : Cm}

set_option maxRecDepth 8000 in
set_option maxHeartbeats 2000000 in
theorem bdo_back (h : BkF B w b vt vp L k) (hI : L.Inv) (_hm : m.Ok) (hk : ((m.k : Nat) : Int) = 8) (he : L.err m = 0) (_hB : B ≤ w.heap.size) : Calls Tryz.prog 53 #[.pointer (some ⟨b, 0, none⟩), m.val] w (DoPost B w b L m) := by
  obtain ⟨q, hq, hD⟩ := Led.tube_of ((Led.no8 he (by omega)).2)
  obtain ⟨oa, cap, rfl, _⟩ := h.bk.tubes.form
  have hC0 := Cm.has_new w 31 m
  have hb0 : Below w.heap.size w (w.alloc (.cells #[.int .i64 m.k, .int .i64 m.t, .int .i64 m.o, .int .i64 m.d, .int .i64 m.v, .int .i64 m.b, .int .i64 m.x, .int .i64 m.y, .int .i64 m.n] 31)) := (Below.refl _ w).alloc (Nat.le_refl _) _
  have hlt0 := has_new_lt w m
  have hF0 := h.below hb0
  have hK0 := hF0.bk
  have hkn : m.k = 8 := by omega
  unfold Cm.val
  rw [hk] at hC0 hb0 hF0 hK0 hlt0 ⊢
  go_enter Tryz.func53, Tryz.ntmps53
  go_wp2_with fail
  refine (find_any b _ _ k _ _ hK0).mono ?_
  rintro e w' ⟨rfl, rfl⟩
  generalize w.alloc (.cells #[.int .i64 8, .int .i64 m.t, .int .i64 m.o, .int .i64 m.d, .int .i64 m.v, .int .i64 m.b, .int .i64 m.x, .int .i64 m.y, .int .i64 m.n] 31) = w1 at *
  have c0 := hC0.1 0 (by omega)
  have c1 := hC0.1 1 (by omega)
  have c5 := hC0.1 5 (by omega)
  have c6 := hC0.1 6 (by omega)
  have c7 := hC0.1 7 (by omega)
  simp only [Cm.ints] at c0 c1 c5 c6 c7
  rw [hk] at c0
  obtain ⟨i, hi, ei, hf⟩ := h.sim.find_some hI.ok hq
  have hil : i < k.tubes.length := by rw [h.sim.tubes, List.length_map]; exact hi
  have e1 : k.tubes[i] = tF (m.t, q) := by have := h.sim.at hi; rw [getD_T hil, ei] at this; exact this
  obtain ⟨g, rfl, hn, hcap, hgl, t0, t1, t2, t3, t4, t5, t6, t7, t8, t9, t10, hfz⟩ := hK0.tube hil
  rw [e1] at t0 t1 t2 t3 t4 t5 t6 t7 t8 t9 t10
  simp only [tF] at t0 t1 t2 t3 t4 t5 t6 t7 t8 t9 t10
  rw [hf]
  have hct := hK0.ct
  have hbl := h.bk.lt
  have hg : (Value.slice (some ⟨g, 0, none⟩) k.tubes.length cap).ownBlock = some g := rfl
  have hgw := h.bk.own_lt (g := g) (.inr (.inl rfl))
  have hgb : ¬ g = b := fun e => hK0.nt (by rw [← e]; rfl)
  have hbg : ¬ b = g := fun e => hgb e.symm
  have hgc : ¬ g = w.heap.size := by omega
  have hcg : ¬ w.heap.size = g := by omega
  have hbc : ¬ b = w.heap.size := by omega
  have hi' : (i : Int) < (k.tubes.length : Int) := by omega
  have hfB := h.ft g rfl
  have hgq := (hI.ok.t1 _ ((Led.tube_mem hI.ok).1 hq)).2.2
  have g8 : q.thaws ≤ 9 := hgq.thaws
  have hmin : (if 9 < (q.thaws : Int) + 1 then (9 : Int) else (q.thaws : Int) + 1) = ((min (q.thaws + 1) 9 : Nat) : Int) := by split <;> omega
  have l1 : i < (setT k.tubes i 6 1).length := by rw [setT_len]; exact hil
  have R2 := hid (((hK0.setTube hg (i := i) hil (f := 6) (by omega) 1).setTube hg (i := i) (f := 7) l1 (by omega) ((min (q.thaws + 1) 9 : Nat) : Int)).drew)
  have HB0 := hid hb0
  clear l1 t0 t1 t2 t3 t4 t5 hC0 hF0 hb0 hK0 hgq
  go_wp2_with fail
  go_region
  clear hmin
  generalize hmn : min (q.thaws + 1) 9 = mn at *
  have HMn := hid hmn
  clear hmn
  have hkp2 : Keeps (fun x => x = g) w1 (((w1.setCell ⟨g, i * 11 + 6, none⟩ (.int .i64 1)).setCell ⟨g, i * 11 + 7, none⟩ (.int .i64 mn)).drew) := ((((Keeps.refl (fun x => x = g) w1).set1 rfl _ _).set1 rfl _ _).drew)
  have hl2 : i < (setT (setT k.tubes i 6 1) i 7 (mn : Nat)).length := by rw [setT_len, setT_len]; exact hil
  obtain ⟨g', eg, hn2, hcap2, hgl2, -, -, -, -, -, -, -, -, u8, u9, u10, hfz2⟩ := R2.out.tube (m := i) hl2
  injection eg with eg
  injection eg with eg _ _
  subst eg
  have c5 := (hkp2.cell (p := ⟨w.heap.size, 5, none⟩) hlt0 hcg).trans c5
  have c6 := (hkp2.cell (p := ⟨w.heap.size, 6, none⟩) hlt0 hcg).trans c6
  have c7 := (hkp2.cell (p := ⟨w.heap.size, 7, none⟩) hlt0 hcg).trans c7
  have hct2 := R2.out.ct
  have HKp := hid ((kp_new (B := B) HB0.out).trans (hkp2.mono (fun x _ hx => by rw [hx]; exact hfB)))
  clear hkp2 hct t6 t7 t8 t9 t10 hfz hn2
  generalize ((w1.setCell ⟨g, i * 11 + 6, none⟩ (.int .i64 1)).setCell ⟨g, i * 11 + 7, none⟩ (.int .i64 mn)).drew = w2 at *
  have l3 : i < (setT (setT (setT k.tubes i 6 1) i 7 (mn : Nat)) i 8 m.b).length := by rw [setT_len]; exact hl2
  have l4 : i < (setT (setT (setT (setT k.tubes i 6 1) i 7 (mn : Nat)) i 8 m.b) i 9 m.x).length := by rw [setT_len]; exact l3
  have R3 := hid (((((R2.out.setTube hg (i := i) (f := 8) hl2 (by omega) m.b).drew).setTube hg (i := i) (f := 9) l3 (by omega) m.x).drew).setTube hg (i := i) (f := 10) l4 (by omega) m.y).drew
  clear R2 l3 l4
  generalize ((k.withTubes (setT k.tubes i 6 1)).withTubes (setT (k.withTubes (setT k.tubes i 6 1)).tubes i 7 (mn : Nat))).tubes[i] 8 = z8 at *
  generalize ((k.withTubes (setT k.tubes i 6 1)).withTubes (setT (k.withTubes (setT k.tubes i 6 1)).tubes i 7 (mn : Nat))).tubes[i] 9 = z9 at *
  generalize ((k.withTubes (setT k.tubes i 6 1)).withTubes (setT (k.withTubes (setT k.tubes i 6 1)).tubes i 7 (mn : Nat))).tubes[i] 10 = z10 at *
  go_wp2_with fail
  go_region
  go_wp2_with fail
  go_region
  go_wp2_with fail
  go_region
  go_wp2
  go_ret
  have hX : BkX B ((((((w2.setCell ⟨g, i * 11 + 8, none⟩ (.int .i64 m.b)).drew).setCell ⟨g, i * 11 + 9, none⟩ (.int .i64 m.x)).drew).setCell ⟨g, i * 11 + 10, none⟩ (.int .i64 m.y)).drew) b (L.act m) := by
    refine h.tubes ?_ R3.out (by show (setT (setT (setT (setT (setT k.tubes i 6 1) i 7 (mn : Nat)) i 8 m.b) i 9 m.x) i 10 m.y).length = _; rw [setT_len, setT_len, setT_len, setT_len, setT_len])
    have eA : L.act m = L.putT m.t (q.backAt m.b m.x m.y) := by simp [Led.act, hkn, hD]
    rw [eA]
    have := h.sim.put hI.ok hi (show L.ts[i].1 = m.t by rw [ei]) (q.backAt m.b m.x m.y)
    have eS : setT (setT (setT (setT (setT k.tubes i 6 1) i 7 (mn : Nat)) i 8 m.b) i 9 m.x) i 10 m.y = k.tubes.set i (tF (m.t, q.backAt m.b m.x m.y)) := by
      rw [setT_first hil, setT_set _ _ hil, setT_set _ _ hil, setT_set _ _ hil, setT_set _ _ hil, e1, ← HMn.out, tF_back m.t q m.b m.x m.y]
    show Sim _ (k.withTubes (setT (setT (setT (setT (setT k.tubes i 6 1) i 7 (mn : Nat)) i 8 m.b) i 9 m.x) i 10 m.y))
    rw [eS]; exact this
  exact ⟨_, rfl, .inr ⟨rfl, by simp [Led.tell, hkn]⟩, hX, (((((HKp.out.set1 hfB _ _).drew).set1 hfB _ _).drew).set1 hfB _ _).drew⟩
set_option maxRecDepth 8000 in
set_option maxHeartbeats 2000000 in
theorem bdo_take (h : BkF B w b vt vp L k) (hI : L.Inv) (_hm : m.Ok) (hk : ((m.k : Nat) : Int) = 7) (he : L.err m = 0) (_hB : B ≤ w.heap.size) : Calls Tryz.prog 53 #[.pointer (some ⟨b, 0, none⟩), m.val] w (DoPost B w b L m) := by
  obtain ⟨q, hq, hD⟩ := Led.tube_of ((Led.no37 he (by omega)).2)
  obtain ⟨oa, cap, rfl, _⟩ := h.bk.tubes.form
  have hC0 := Cm.has_new w 31 m
  have hb0 : Below w.heap.size w (w.alloc (.cells #[.int .i64 m.k, .int .i64 m.t, .int .i64 m.o, .int .i64 m.d, .int .i64 m.v, .int .i64 m.b, .int .i64 m.x, .int .i64 m.y, .int .i64 m.n] 31)) := (Below.refl _ w).alloc (Nat.le_refl _) _
  have hlt0 := has_new_lt w m
  have hF0 := h.below hb0
  have hK0 := hF0.bk
  have hkn : m.k = 7 := by omega
  unfold Cm.val
  rw [hk] at hC0 hb0 hF0 hK0 hlt0 ⊢
  go_enter Tryz.func53, Tryz.ntmps53
  go_wp2_with fail
  refine (find_any b _ _ k _ _ hK0).mono ?_
  rintro e w' ⟨rfl, rfl⟩
  generalize w.alloc (.cells #[.int .i64 7, .int .i64 m.t, .int .i64 m.o, .int .i64 m.d, .int .i64 m.v, .int .i64 m.b, .int .i64 m.x, .int .i64 m.y, .int .i64 m.n] 31) = w1 at *
  have c0 := hC0.1 0 (by omega)
  have c1 := hC0.1 1 (by omega)
  simp only [Cm.ints] at c0 c1
  rw [hk] at c0
  obtain ⟨i, hi, ei, hf⟩ := h.sim.find_some hI.ok hq
  have hil : i < k.tubes.length := by rw [h.sim.tubes, List.length_map]; exact hi
  have e1 : k.tubes[i] = tF (m.t, q) := by have := h.sim.at hi; rw [getD_T hil, ei] at this; exact this
  obtain ⟨g, rfl, hn, hcap, hgl, t0, t1, t2, t3, t4, t5, t6, t7, t8, t9, t10, hfz⟩ := hK0.tube hil
  rw [e1] at t0 t1 t2 t3 t4 t5 t6 t7 t8 t9 t10
  simp only [tF] at t0 t1 t2 t3 t4 t5 t6 t7 t8 t9 t10
  rw [hf]
  have hct := hK0.ct
  have hbl := h.bk.lt
  have hg : (Value.slice (some ⟨g, 0, none⟩) k.tubes.length cap).ownBlock = some g := rfl
  have hgw := h.bk.own_lt (g := g) (.inr (.inl rfl))
  have hgb : ¬ g = b := fun e => hK0.nt (by rw [← e]; rfl)
  have hbg : ¬ b = g := fun e => hgb e.symm
  have hgc : ¬ g = w.heap.size := by omega
  have hcg : ¬ w.heap.size = g := by omega
  have hbc : ¬ b = w.heap.size := by omega
  have hi' : (i : Int) < (k.tubes.length : Int) := by omega
  have hfB := h.ft g rfl
  have r1 := hK0.setTube hg (i := i) hil (f := 6) (by omega) 2
  have l1 : i < (k.withTubes (setT k.tubes i 6 2)).tubes.length := by show i < (setT k.tubes i 6 2).length; rw [setT_len]; exact hil
  have HG := hid (gone_any b _ vp (k.withTubes (setT k.tubes i 6 2)) i l1 _ r1)
  have HB0 := hid hb0
  clear r1 l1 t0 t1 t2 t3 t4 t5 hC0 hF0 hb0 hK0
  go_wp2_with fail
  refine HG.out.mono ?_
  clear HG
  rintro e w2 ⟨rfl, hK2, hk2⟩
  have HX := hid (show BkX B w2 b (L.act m) from by
    refine h.tubes ?_ hK2 (by show (goneT (setT k.tubes i 6 2) i).length = _; unfold goneT; rw [setT_len, setT_len, setT_len, setT_len])
    have eA : L.act m = L.putT m.t (q.gone 2) := by simp [Led.act, hkn, hD]
    rw [eA]
    have := h.sim.put hI.ok hi (show L.ts[i].1 = m.t by rw [ei]) (q.gone 2)
    have eS : goneT (setT k.tubes i 6 2) i = k.tubes.set i (tF (m.t, q.gone 2)) := by
      unfold goneT
      rw [setT_first hil, setT_set _ _ hil, setT_set _ _ hil, setT_set _ _ hil, e1, tF_gone m.t q]
    show Sim _ (k.withTubes (goneT (setT k.tubes i 6 2) i))
    rw [eS]; exact this)
  have HK := hid (((kp_new (B := B) HB0.out).set1 hfB (i * 11 + 6) (.int .i64 2)).trans (hk2.mono (fun g' _ hg' => h.ft g' hg')))
  clear hK2 hk2
  go_wp2
  go_ret
  exact ⟨_, rfl, .inr ⟨rfl, by simp [Led.tell, hkn]⟩, HX.out, HK.out⟩

end Go.Proofs.YtbpnllhhmookcaaGreatDoor

/- Do of the books: an aliquot; every command. -/
namespace Go.Proofs.YtbpnllhhmookcaaGreatDoor
open Go.RowKit Go.Shelf
variable {B b : Nat} {w w' : World} {vt vp : Value} {L : Led} {k : Bk} {m : Cm}

set_option maxRecDepth 8000 in
set_option maxHeartbeats 2000000 in
theorem bdo_ali (h : BkF B w b vt vp L k) (hI : L.Inv) (hm : m.Ok) (hk : ((m.k : Nat) : Int) = 4) (he : L.err m = 0) (_hB : B ≤ w.heap.size) (hf' : L.kvs.length ≤ 1000) : Calls Tryz.prog 53 #[.pointer (some ⟨b, 0, none⟩), m.val] w (DoPost B w b L m) := by
  obtain ⟨q, hq, hD⟩ := Led.tube_of ((Led.no4 he (by omega)).2.2.2.1)
  obtain ⟨oa, cap, rfl, _⟩ := h.bk.tubes.form
  have hC0 := Cm.has_new w 31 m
  have hb0 : Below w.heap.size w (w.alloc (.cells #[.int .i64 m.k, .int .i64 m.t, .int .i64 m.o, .int .i64 m.d, .int .i64 m.v, .int .i64 m.b, .int .i64 m.x, .int .i64 m.y, .int .i64 m.n] 31)) := (Below.refl _ w).alloc (Nat.le_refl _) _
  have hlt0 := has_new_lt w m
  have hF0 := h.below hb0
  have hK0 := hF0.bk
  have hkn : m.k = 4 := by omega
  unfold Cm.val
  rw [hk] at hC0 hb0 hF0 hK0 hlt0 ⊢
  go_enter Tryz.func53, Tryz.ntmps53
  go_wp2_with fail
  refine (find_any b _ _ k _ _ hK0).mono ?_
  rintro e w' ⟨rfl, rfl⟩
  generalize w.alloc (.cells #[.int .i64 4, .int .i64 m.t, .int .i64 m.o, .int .i64 m.d, .int .i64 m.v, .int .i64 m.b, .int .i64 m.x, .int .i64 m.y, .int .i64 m.n] 31) = w1 at *
  have c0 := hC0.1 0 (by omega)
  have c1 := hC0.1 1 (by omega)
  have c2 := hC0.1 2 (by omega)
  have c4 := hC0.1 4 (by omega)
  have c5 := hC0.1 5 (by omega)
  have c6 := hC0.1 6 (by omega)
  have c7 := hC0.1 7 (by omega)
  simp only [Cm.ints] at c0 c1 c2 c4 c5 c6 c7
  rw [hk] at c0
  obtain ⟨i, hi, ei, hf⟩ := h.sim.find_some hI.ok hq
  have hil : i < k.tubes.length := by rw [h.sim.tubes, List.length_map]; exact hi
  have e1 : k.tubes[i] = tF (m.t, q) := by have := h.sim.at hi; rw [getD_T hil, ei] at this; exact this
  obtain ⟨g, rfl, hn, hcap, hgl, t0, t1, t2, t3, t4, t5, t6, t7, t8, t9, t10, hfz⟩ := hK0.tube hil
  rw [e1] at t0 t1 t2 t3 t4 t5 t6 t7 t8 t9 t10
  simp only [tF] at t0 t1 t2 t3 t4 t5 t6 t7 t8 t9 t10
  rw [hf]
  have hct := hK0.ct
  have hbl := h.bk.lt
  have hg : (Value.slice (some ⟨g, 0, none⟩) k.tubes.length cap).ownBlock = some g := rfl
  have hgw := h.bk.own_lt (g := g) (.inr (.inl rfl))
  have hgb : ¬ g = b := fun e => hK0.nt (by rw [← e]; rfl)
  have hbg : ¬ b = g := fun e => hgb e.symm
  have hgc : ¬ g = w.heap.size := by omega
  have hcg : ¬ w.heap.size = g := by omega
  have hbc : ¬ b = w.heap.size := by omega
  have hi' : (i : Int) < (k.tubes.length : Int) := by omega
  have hfB := h.ft g rfl
  obtain ⟨n1, n2, n3, n4, n5⟩ := Led.no4 he hkn
  rw [hD] at n2 n3
  have hmo : 1 ≤ m.o ∧ m.o ≤ 999 := ⟨hm.o1 (by omega), hm.o⟩
  have hmv := hm.v
  have hmx := hm.x
  have hmy := hm.y
  have hmb := hm.b
  have hgq := (hI.ok.t1 _ ((Led.tube_mem hI.ok).1 hq)).2.2
  have hon : L.tube m.o = .none := by cases ho : L.tube m.o with
    | none => rfl
    | some x => rw [ho] at n5; cases n5
  have hG0 : PT.Good ⟨m.x, m.y, m.b, q.donor, 1, 0, 0, 0, 0, 0⟩ := ⟨by show m.x < 5; omega, by show m.y < 5; omega, hmb, hgq.donor, by show 1 ≤ 1 ∧ 1 ≤ 3; omega, by show 0 ≤ 9; omega, by show 0 ≤ 1000000; omega, by show 0 ≤ 1000000; omega, by show 0 ≤ 1000000; omega, by show 0 ≤ 1000000; omega⟩
  have hO1 : (L.putT m.o ⟨m.x, m.y, m.b, q.donor, 1, 0, 0, 0, 0, 0⟩).Ok := hI.ok.insT hmo hG0
  have hS1 := h.sim.add hI.ok hon ⟨m.x, m.y, m.b, q.donor, 1, 0, 0, 0, 0, 0⟩
  have hqt1 : (L.putT m.o ⟨m.x, m.y, m.b, q.donor, 1, 0, 0, 0, 0, 0⟩).tube m.t = some q := by
    show ({ L with ts := insT L.ts m.o _ } : Led).tube m.t = _
    rw [Led.tube_insT, if_neg (by omega), hq]
  have hqo1 : (L.putT m.o ⟨m.x, m.y, m.b, q.donor, 1, 0, 0, 0, 0, 0⟩).tube m.o = some ⟨m.x, m.y, m.b, q.donor, 1, 0, 0, 0, 0, 0⟩ := by
    show ({ L with ts := insT L.ts m.o _ } : Led).tube m.o = _
    rw [Led.tube_insT, if_pos rfl]
  have hlen1 : (addT k.tubes (tF (m.o, ⟨m.x, m.y, m.b, q.donor, 1, 0, 0, 0, 0, 0⟩))).length = k.tubes.length + 1 := by
    unfold addT
    have : insAt k.tubes (tF (m.o, ⟨m.x, m.y, m.b, q.donor, 1, 0, 0, 0, 0, 0⟩) 0) ≤ k.tubes.length := by unfold insAt; exact List.findIdx_le_length
    simp only [List.length_append, List.length_take, List.length_drop, List.length_cons, List.length_nil]
    omega
  have hfw := h.sim.few hf'
  have HT := hid (fun n => badd_both (hF0.below (below_drewN (Below.refl _ w1) n)) (tF (m.o, ⟨m.x, m.y, m.b, q.donor, 1, 0, 0, 0, 0, 0⟩)) hf')
  simp only [tF] at HT
  have HB0 := hid hb0
  have hsz := hb0.size
  have HC := hid hC0
  have HS := hid (And.intro hO1 (And.intro hS1 (And.intro hqt1 (And.intro hqo1 hlen1))))
  have eA : L.act m = (L.putT m.o ⟨m.x, m.y, m.b, q.donor, 1, 0, 0, 0, 0, 0⟩).pourL m := by simp [Led.act, hkn, hD]
  have HE := hid eA
  clear t0 t2 t3 t4 t5 t6 t7 t8 t9 t10 hC0 hF0 hb0 hK0 hO1 hS1 hqt1 hqo1 hlen1 hG0 hgq eA
  go_wp2_with fail
  refine wp_region_then 18 (by kernel_rfl) (by decide) (by kernel_rfl) (by kernel_rfl) (by kernel_rfl) (by kernel_rfl) ?_
  simp only [List.take_succ_cons, List.take_zero]
  repeat (go_big_quiet_step (fail))
  refine wpQuiet_nil ?_
  rintro w2 ⟨nq, rfl⟩
  simp only [List.drop_succ_cons, List.drop_zero]
  go_wp2_with fail
  refine (HT.out nq).mono ?_
  clear HT
  rintro e w3 ⟨rfl, vt3, hK3, hfr, hk3⟩
  obtain ⟨hO1, hS1, hqt1, hqo1, hlen1⟩ := HS.out
  clear HS
  have hlt3 : w.heap.size < (w1.drewN nq).heap.size := hlt0
  have hnb : ¬ w.heap.size = b := fun e => hbc e.symm
  have c1 := (hk3.cell (p := ⟨w.heap.size, 1, none⟩) hlt3 hnb).trans c1
  have c2 := (hk3.cell (p := ⟨w.heap.size, 2, none⟩) hlt3 hnb).trans c2
  have c4 := (hk3.cell (p := ⟨w.heap.size, 4, none⟩) hlt3 hnb).trans c4
  have hF3 : BkF B w3 b vt3 vp (L.putT m.o ⟨m.x, m.y, m.b, q.donor, 1, 0, 0, 0, 0, 0⟩) (k.withTubes (addT k.tubes (tF (m.o, ⟨m.x, m.y, m.b, q.donor, 1, 0, 0, 0, 0, 0⟩)))) :=
    ⟨hK3, hS1, fun e => absurd e (addT_ne _ _), h.np, h.fb, fun g hg => by have := hfr g hg; have : w1.heap.size ≤ g := this; omega, h.fp⟩
  obtain ⟨i1, hi1, ei1, hfi1⟩ := hS1.find_some hO1 hqt1
  obtain ⟨j1, hj1, ej1, hfj1⟩ := hS1.find_some hO1 hqo1
  have hl1 : (k.withTubes (addT k.tubes (tF (m.o, ⟨m.x, m.y, m.b, q.donor, 1, 0, 0, 0, 0, 0⟩)))).tubes.length = (L.putT m.o ⟨m.x, m.y, m.b, q.donor, 1, 0, 0, 0, 0, 0⟩).ts.length := by rw [hS1.tubes, List.length_map]
  have hij : ¬ i1 = j1 := fun e => by subst e; rw [ei1] at ej1; have := congrArg Prod.fst ej1; simp only at this; omega
  have hpl : (k.withTubes (addT k.tubes (tF (m.o, ⟨m.x, m.y, m.b, q.donor, 1, 0, 0, 0, 0, 0⟩)))).poured.length < 900000 := by show k.poured.length < 900000; omega
  have HP := hid (bpour_any b vt3 vp _ m.t m.o m.v w3 hK3 (hS1.small hO1) (by omega) i1 j1 (by omega) (by omega) hij hfi1 hfj1 hpl)
  have HKp := hid (((kp_new (B := B) HB0.out).drewN nq).trans (hk3.mono (fun x _ hx => by rw [hx]; exact h.fb)))
  have HY := hid (fun w4 vp4 hK4 hfr4 => hF3.poured (w' := w4) (vp' := vp4) (w1 := w3) (hS1.pourT (m := m) hO1 hqt1 hqo1 (by omega) n2 (by show 0 + m.v ≤ 1000000; omega) hi1 hj1 ei1 ej1) hK4 (pourT_len _ _ _ _) (pourP_ne hS1 hO1 _ _ _) (by have := hk3.size; have : w1.heap.size ≤ w3.heap.size := this; omega) hfr4)
  have HO := hid (own_ge hF3)
  clear hO1 hS1 hqt1 hqo1 hlen1 hF3 hK3 hfr hk3 ei1 ej1 hfi1 hfj1 hl1 hpl hi1 hj1
  go_wp2_with fail
  refine HP.out.mono ?_
  clear HP
  rintro e w4 ⟨rfl, vp4, hK4, hfr4, hk4⟩
  have HX := hid (show BkX B w4 b (L.act m) from by rw [HE.out]; exact HY.out w4 vp4 hK4 hfr4)
  have HK := hid (HKp.out.trans (hk4.mono (fun x _ hx => HO.out x hx)))
  clear HY hK4 hfr4 hk4 HKp HO
  go_wp2
  go_ret
  exact ⟨_, rfl, .inr ⟨rfl, by simp [Led.tell, hkn]⟩, HX.out, HK.out⟩

end Go.Proofs.YtbpnllhhmookcaaGreatDoor

/- Do of the books: every command that is not refused. -/
namespace Go.Proofs.YtbpnllhhmookcaaGreatDoor
open Go.RowKit Go.Shelf
variable {B b : Nat} {w w' : World} {L : Led} {m : Cm}

theorem bdo_any (hx : BkX B w b L) (hI : L.Inv) (hm : m.Ok) (he : L.err m = 0) (hB : B ≤ w.heap.size) (hf : L.kvs.length ≤ 1000) : Calls Tryz.prog 53 #[.pointer (some ⟨b, 0, none⟩), m.val] w (DoPost B w b L m) := by
  obtain ⟨vt, vp, k, h⟩ := hx
  have hk := hm.k
  have hk' : m.k = 1 ∨ m.k = 2 ∨ m.k = 3 ∨ m.k = 4 ∨ m.k = 5 ∨ m.k = 6 ∨ m.k = 7 ∨ m.k = 8 ∨ m.k = 9 ∨ m.k = 10 ∨ m.k = 11 ∨ m.k = 12 ∨ m.k = 13 ∨ m.k = 14 ∨ m.k = 15 ∨ m.k = 16 := by omega
  rcases hk' with e | e | e | e | e | e | e | e | e | e | e | e | e | e | e | e
  · exact bdo_box h hI hm (by omega) he hB
  · exact bdo_reg h hI hm (by omega) he hB hf
  · exact bdo_move h hI hm (by omega) he hB
  · exact bdo_ali h hI hm (by omega) he hB hf
  · exact bdo_pour h hI hm (by omega) he hB hf
  · exact bdo_use h hI hm (by omega) he hB
  · exact bdo_take h hI hm (by omega) he hB
  · exact bdo_back h hI hm (by omega) he hB
  · exact bdo_wd h hI hm (by omega) he hB
  · exact bdo_turn h hI hm (by omega) he hB
  · exact bdo_flip h hI hm (by omega) he hB
  · exact bdo_show h hI hm (by omega) he hB
  · exact bdo_cont h hI hm (by omega) he hB
  · exact bdo_of h hI hm (by omega) he hB
  · exact bdo_up h hI hm (by omega) he hB
  · exact bdo_down h hI hm (by omega) he hB

end Go.Proofs.YtbpnllhhmookcaaGreatDoor

/- Do of the books: questions: they turn nothing. -/
namespace Go.Proofs.YtbpnllhhmookcaaGreatDoor
open Go.RowKit Go.Shelf
/-- What a question of the books is answered. -/
def QPost (w : World) (L : Led) (m : Cm) (e : Ending) (w' : World) : Prop := ∃ v, e = .returned v ∧ IntsIn w' v (L.tell m) ∧ Below w.heap.size w w'

variable {B b : Nat} {w : World} {vt vp : Value} {L : Led} {k : Bk} {m : Cm}

set_option maxRecDepth 8000 in
set_option maxHeartbeats 2000000 in
theorem bask_show (h : BkF B w b vt vp L k) (hI : L.Inv) (_hm : m.Ok) (hk : ((m.k : Nat) : Int) = 12) (he : L.err m = 0) : Calls Tryz.prog 53 #[.pointer (some ⟨b, 0, none⟩), m.val] w (QPost w L m) := by
  have hC0 := Cm.has_new w 31 m
  have hb0 : Below w.heap.size w (w.alloc (.cells #[.int .i64 m.k, .int .i64 m.t, .int .i64 m.o, .int .i64 m.d, .int .i64 m.v, .int .i64 m.b, .int .i64 m.x, .int .i64 m.y, .int .i64 m.n] 31)) := (Below.refl _ w).alloc (Nat.le_refl _) _
  have hlt0 := has_new_lt w m
  have hF0 := h.below hb0
  have hK0 := hF0.bk
  have hkn : m.k = 12 := by omega
  unfold Cm.val
  rw [hk] at hC0 hb0 hF0 hK0 hlt0 ⊢
  go_enter Tryz.func53, Tryz.ntmps53
  go_wp2_with (go_at_call 69; refine (find_any b _ _ k _ _ hK0).mono ?_; rintro e w' ⟨rfl, rfl⟩)
  generalize w.alloc (.cells #[.int .i64 12, .int .i64 m.t, .int .i64 m.o, .int .i64 m.d, .int .i64 m.v, .int .i64 m.b, .int .i64 m.x, .int .i64 m.y, .int .i64 m.n] 31) = w1 at *
  obtain ⟨q, hq, hD⟩ := Led.tube_of (Led.noShow he (by omega))
  obtain ⟨i, hi, ei, hf⟩ := h.sim.find_some hI.ok hq
  have hil : i < k.tubes.length := by rw [h.sim.tubes, List.length_map]; exact hi
  have HT := hid (tells_show b vt vp k m.ints i w1 hK0 hk hf hil)
  have HTl := hid (show L.tell m = showL k.tubes[i] by
    have e1 : k.tubes[i] = tF L.ts[i] := by have := h.sim.at hi; rwa [getD_T hil] at this
    rw [e1, ei, show_tF]
    simp [Led.tell, hkn, hD])
  simp only [Cm.ints] at HT
  rw [hk] at HT
  have c0 := hC0.1 0 (by omega)
  have c1 := hC0.1 1 (by omega)
  have c2 := hC0.1 2 (by omega)
  have c3 := hC0.1 3 (by omega)
  have c4 := hC0.1 4 (by omega)
  have c5 := hC0.1 5 (by omega)
  have c6 := hC0.1 6 (by omega)
  have c7 := hC0.1 7 (by omega)
  have c8 := hC0.1 8 (by omega)
  simp only [Cm.ints] at c0 c1 c2 c3 c4 c5 c6 c7 c8
  rw [hk] at c0
  have HB0 := hid hb0
  clear hC0 hF0 hK0 hb0
  go_wp2_with fail
  refine HT.out.mono ?_
  clear HT
  rintro e w2 ⟨v, rfl, hi2, hb2⟩
  go_wp2
  go_ret
  exact ⟨v, rfl, by rw [HTl.out]; exact hi2, HB0.out.trans (hb2.mono HB0.out.size)⟩
set_option maxRecDepth 8000 in
set_option maxHeartbeats 2000000 in
theorem bask_cont (h : BkF B w b vt vp L k) (_hI : L.Inv) (_hm : m.Ok) (hk : ((m.k : Nat) : Int) = 13) (_he : L.err m = 0) : Calls Tryz.prog 53 #[.pointer (some ⟨b, 0, none⟩), m.val] w (QPost w L m) := by
  have hC0 := Cm.has_new w 31 m
  have hb0 : Below w.heap.size w (w.alloc (.cells #[.int .i64 m.k, .int .i64 m.t, .int .i64 m.o, .int .i64 m.d, .int .i64 m.v, .int .i64 m.b, .int .i64 m.x, .int .i64 m.y, .int .i64 m.n] 31)) := (Below.refl _ w).alloc (Nat.le_refl _) _
  have hlt0 := has_new_lt w m
  have hF0 := h.below hb0
  have hK0 := hF0.bk
  have hkn : m.k = 13 := by omega
  unfold Cm.val
  rw [hk] at hC0 hb0 hF0 hK0 hlt0 ⊢
  go_enter Tryz.func53, Tryz.ntmps53
  go_wp2_with (go_at_call 69; refine (find_any b _ _ k _ _ hK0).mono ?_; rintro e w' ⟨rfl, rfl⟩)
  generalize w.alloc (.cells #[.int .i64 13, .int .i64 m.t, .int .i64 m.o, .int .i64 m.d, .int .i64 m.v, .int .i64 m.b, .int .i64 m.x, .int .i64 m.y, .int .i64 m.n] 31) = w1 at *
  have HT := hid (tells_content b vt vp k m.ints w1 hK0 hk)
  have HTl := hid (show L.tell m = contL k.tubes (m.b : Nat) by rw [h.sim.tells_cont]; simp [Led.tell, hkn])
  simp only [Cm.ints] at HT
  rw [hk] at HT
  have c0 := hC0.1 0 (by omega)
  have c1 := hC0.1 1 (by omega)
  have c2 := hC0.1 2 (by omega)
  have c3 := hC0.1 3 (by omega)
  have c4 := hC0.1 4 (by omega)
  have c5 := hC0.1 5 (by omega)
  have c6 := hC0.1 6 (by omega)
  have c7 := hC0.1 7 (by omega)
  have c8 := hC0.1 8 (by omega)
  simp only [Cm.ints] at c0 c1 c2 c3 c4 c5 c6 c7 c8
  rw [hk] at c0
  have HB0 := hid hb0
  clear hC0 hF0 hK0 hb0
  go_wp2_with fail
  refine HT.out.mono ?_
  clear HT
  rintro e w2 ⟨v, rfl, hi2, hb2⟩
  go_wp2
  go_ret
  exact ⟨v, rfl, by rw [HTl.out]; exact hi2, HB0.out.trans (hb2.mono HB0.out.size)⟩
set_option maxRecDepth 8000 in
set_option maxHeartbeats 2000000 in
theorem bask_of (h : BkF B w b vt vp L k) (_hI : L.Inv) (_hm : m.Ok) (hk : ((m.k : Nat) : Int) = 14) (_he : L.err m = 0) : Calls Tryz.prog 53 #[.pointer (some ⟨b, 0, none⟩), m.val] w (QPost w L m) := by
  have hC0 := Cm.has_new w 31 m
  have hb0 : Below w.heap.size w (w.alloc (.cells #[.int .i64 m.k, .int .i64 m.t, .int .i64 m.o, .int .i64 m.d, .int .i64 m.v, .int .i64 m.b, .int .i64 m.x, .int .i64 m.y, .int .i64 m.n] 31)) := (Below.refl _ w).alloc (Nat.le_refl _) _
  have hlt0 := has_new_lt w m
  have hF0 := h.below hb0
  have hK0 := hF0.bk
  have hkn : m.k = 14 := by omega
  unfold Cm.val
  rw [hk] at hC0 hb0 hF0 hK0 hlt0 ⊢
  go_enter Tryz.func53, Tryz.ntmps53
  go_wp2_with (go_at_call 69; refine (find_any b _ _ k _ _ hK0).mono ?_; rintro e w' ⟨rfl, rfl⟩)
  generalize w.alloc (.cells #[.int .i64 14, .int .i64 m.t, .int .i64 m.o, .int .i64 m.d, .int .i64 m.v, .int .i64 m.b, .int .i64 m.x, .int .i64 m.y, .int .i64 m.n] 31) = w1 at *
  have HT := hid (tells_of b vt vp k m.ints w1 hK0 hk)
  have HTl := hid (show L.tell m = askL k.tubes (markD k.tubes (m.d : Nat)) by rw [h.sim.tells_of]; simp [Led.tell, hkn])
  simp only [Cm.ints] at HT
  rw [hk] at HT
  have c0 := hC0.1 0 (by omega)
  have c1 := hC0.1 1 (by omega)
  have c2 := hC0.1 2 (by omega)
  have c3 := hC0.1 3 (by omega)
  have c4 := hC0.1 4 (by omega)
  have c5 := hC0.1 5 (by omega)
  have c6 := hC0.1 6 (by omega)
  have c7 := hC0.1 7 (by omega)
  have c8 := hC0.1 8 (by omega)
  simp only [Cm.ints] at c0 c1 c2 c3 c4 c5 c6 c7 c8
  rw [hk] at c0
  have HB0 := hid hb0
  clear hC0 hF0 hK0 hb0
  go_wp2_with fail
  refine HT.out.mono ?_
  clear HT
  rintro e w2 ⟨v, rfl, hi2, hb2⟩
  go_wp2
  go_ret
  exact ⟨v, rfl, by rw [HTl.out]; exact hi2, HB0.out.trans (hb2.mono HB0.out.size)⟩
set_option maxRecDepth 8000 in
set_option maxHeartbeats 2000000 in
theorem bask_up (h : BkF B w b vt vp L k) (hI : L.Inv) (_hm : m.Ok) (hk : ((m.k : Nat) : Int) = 15) (he : L.err m = 0) : Calls Tryz.prog 53 #[.pointer (some ⟨b, 0, none⟩), m.val] w (QPost w L m) := by
  have hC0 := Cm.has_new w 31 m
  have hb0 : Below w.heap.size w (w.alloc (.cells #[.int .i64 m.k, .int .i64 m.t, .int .i64 m.o, .int .i64 m.d, .int .i64 m.v, .int .i64 m.b, .int .i64 m.x, .int .i64 m.y, .int .i64 m.n] 31)) := (Below.refl _ w).alloc (Nat.le_refl _) _
  have hlt0 := has_new_lt w m
  have hF0 := h.below hb0
  have hK0 := hF0.bk
  have hkn : m.k = 15 := by omega
  unfold Cm.val
  rw [hk] at hC0 hb0 hF0 hK0 hlt0 ⊢
  go_enter Tryz.func53, Tryz.ntmps53
  go_wp2_with (go_at_call 69; refine (find_any b _ _ k _ _ hK0).mono ?_; rintro e w' ⟨rfl, rfl⟩)
  generalize w.alloc (.cells #[.int .i64 15, .int .i64 m.t, .int .i64 m.o, .int .i64 m.d, .int .i64 m.v, .int .i64 m.b, .int .i64 m.x, .int .i64 m.y, .int .i64 m.n] 31) = w1 at *
  obtain ⟨q, hq, hD⟩ := Led.tube_of (Led.noShow he (by omega))
  obtain ⟨i, hi, ei, hf⟩ := h.sim.find_some hI.ok hq
  have hil : i < k.tubes.length := by rw [h.sim.tubes, List.length_map]; exact hi
  have HT := hid (tells_way b vt vp k m.ints false i w1 hK0 (h.sim.wired hI) hk hf hil)
  have HTl := hid (show L.tell m = askL k.tubes (reachL k (markOne k.tubes.length i) false) by
    rw [h.sim.tells_up hI hi (n := m.t) (by rw [ei])]
    simp [Led.tell, hkn])
  simp only [Cm.ints] at HT
  rw [hk] at HT
  have c0 := hC0.1 0 (by omega)
  have c1 := hC0.1 1 (by omega)
  have c2 := hC0.1 2 (by omega)
  have c3 := hC0.1 3 (by omega)
  have c4 := hC0.1 4 (by omega)
  have c5 := hC0.1 5 (by omega)
  have c6 := hC0.1 6 (by omega)
  have c7 := hC0.1 7 (by omega)
  have c8 := hC0.1 8 (by omega)
  simp only [Cm.ints] at c0 c1 c2 c3 c4 c5 c6 c7 c8
  rw [hk] at c0
  have HB0 := hid hb0
  clear hC0 hF0 hK0 hb0
  go_wp2_with fail
  refine HT.out.mono ?_
  clear HT
  rintro e w2 ⟨v, rfl, hi2, hb2⟩
  go_wp2
  go_ret
  exact ⟨v, rfl, by rw [HTl.out]; exact hi2, HB0.out.trans (hb2.mono HB0.out.size)⟩
set_option maxRecDepth 8000 in
set_option maxHeartbeats 2000000 in
theorem bask_down (h : BkF B w b vt vp L k) (hI : L.Inv) (_hm : m.Ok) (hk : ((m.k : Nat) : Int) = 16) (he : L.err m = 0) : Calls Tryz.prog 53 #[.pointer (some ⟨b, 0, none⟩), m.val] w (QPost w L m) := by
  have hC0 := Cm.has_new w 31 m
  have hb0 : Below w.heap.size w (w.alloc (.cells #[.int .i64 m.k, .int .i64 m.t, .int .i64 m.o, .int .i64 m.d, .int .i64 m.v, .int .i64 m.b, .int .i64 m.x, .int .i64 m.y, .int .i64 m.n] 31)) := (Below.refl _ w).alloc (Nat.le_refl _) _
  have hlt0 := has_new_lt w m
  have hF0 := h.below hb0
  have hK0 := hF0.bk
  have hkn : m.k = 16 := by omega
  unfold Cm.val
  rw [hk] at hC0 hb0 hF0 hK0 hlt0 ⊢
  go_enter Tryz.func53, Tryz.ntmps53
  go_wp2_with (go_at_call 69; refine (find_any b _ _ k _ _ hK0).mono ?_; rintro e w' ⟨rfl, rfl⟩)
  generalize w.alloc (.cells #[.int .i64 16, .int .i64 m.t, .int .i64 m.o, .int .i64 m.d, .int .i64 m.v, .int .i64 m.b, .int .i64 m.x, .int .i64 m.y, .int .i64 m.n] 31) = w1 at *
  obtain ⟨q, hq, hD⟩ := Led.tube_of (Led.noShow he (by omega))
  obtain ⟨i, hi, ei, hf⟩ := h.sim.find_some hI.ok hq
  have hil : i < k.tubes.length := by rw [h.sim.tubes, List.length_map]; exact hi
  have HT := hid (tells_way b vt vp k m.ints true i w1 hK0 (h.sim.wired hI) hk hf hil)
  have HTl := hid (show L.tell m = askL k.tubes (reachL k (markOne k.tubes.length i) true) by
    rw [h.sim.tells_down hI hi (n := m.t) (by rw [ei])]
    simp [Led.tell, hkn])
  simp only [Cm.ints] at HT
  rw [hk] at HT
  have c0 := hC0.1 0 (by omega)
  have c1 := hC0.1 1 (by omega)
  have c2 := hC0.1 2 (by omega)
  have c3 := hC0.1 3 (by omega)
  have c4 := hC0.1 4 (by omega)
  have c5 := hC0.1 5 (by omega)
  have c6 := hC0.1 6 (by omega)
  have c7 := hC0.1 7 (by omega)
  have c8 := hC0.1 8 (by omega)
  simp only [Cm.ints] at c0 c1 c2 c3 c4 c5 c6 c7 c8
  rw [hk] at c0
  have HB0 := hid hb0
  clear hC0 hF0 hK0 hb0
  go_wp2_with fail
  refine HT.out.mono ?_
  clear HT
  rintro e w2 ⟨v, rfl, hi2, hb2⟩
  go_wp2
  go_ret
  exact ⟨v, rfl, by rw [HTl.out]; exact hi2, HB0.out.trans (hb2.mono HB0.out.size)⟩

theorem bask_any {k' : Bk} (h : BkF B w b vt vp L k') (hI : L.Inv) (hm : m.Ok) (hk : 12 ≤ m.k) (he : L.err m = 0) : Calls Tryz.prog 53 #[.pointer (some ⟨b, 0, none⟩), m.val] w (QPost w L m) := by
  have h16 := hm.k
  have hk' : m.k = 12 ∨ m.k = 13 ∨ m.k = 14 ∨ m.k = 15 ∨ m.k = 16 := by omega
  rcases hk' with e | e | e | e | e
  · exact bask_show h hI hm (by omega) he
  · exact bask_cont h hI hm (by omega) he
  · exact bask_of h hI hm (by omega) he
  · exact bask_up h hI hm (by omega) he
  · exact bask_down h hI hm (by omega) he

end Go.Proofs.YtbpnllhhmookcaaGreatDoor
