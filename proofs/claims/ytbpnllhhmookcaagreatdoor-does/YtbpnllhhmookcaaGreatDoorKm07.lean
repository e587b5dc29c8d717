/- firnlaw: a pair and its disk in memory; writes that are none. -/
import Derived.Test.YtbpnllhhmookcaaGreatDoorKm06
import Derived.Test.YtbpnllhhmookcaaGreatDoorKm01
import Derived.Test.YtbpnllhhmookcaaGreatDoorKm03
import Derived.Test.YtbpnllhhmookcaaGreatDoorKk36
import Derived.Test.YtbpnllhhmookcaaGreatDoorKk11
import Derived.Test.YtbpnllhhmookcaaGreatDoorKl01
import Derived.Test.YtbpnllhhmookcaaGreatDoorKm00
import Derived.Test.YtbpnllhhmookcaaGreatDoorKk37
import Derived.Test.YtbpnllhhmookcaaGreatDoorKk40
import Derived.Laws.AppendOwn
import Derived.Test.YtbpnllhhmookcaaGreatDoorKk38
namespace Go.Proofs.YtbpnllhhmookcaaGreatDoor
open Go.RowKit Go.Shelf

def PairH (w : World) (p l d b : Nat) : Prop := w.heap[p]? = some (.cells #[.pointer (some ⟨l, 0, none⟩), .pointer (some ⟨d, 0, none⟩), .pointer (some ⟨b, 0, none⟩)] 66 (0, 0))
def DiskH (w : World) (d n : Nat) : Prop := ∃ g, w.heap[d]? = some (.cells #[.slice (some ⟨g, 0, none⟩) (n * 128) (n * 128)] 77 (0, 0))
theorem PairH.lt {w : World} {p l d b : Nat} (h : PairH w p l d b) : p < w.heap.size := (Array.getElem?_eq_some_iff.1 h).1
theorem PairH.c0 {w : World} {p l d b : Nat} (h : PairH w p l d b) : w.cell? ⟨p, 0, none⟩ = some (.pointer (some ⟨l, 0, none⟩)) := by simp only [World.cell?, show w.heap[p]? = _ from h]; rfl
theorem PairH.c1 {w : World} {p l d b : Nat} (h : PairH w p l d b) : w.cell? ⟨p, 1, none⟩ = some (.pointer (some ⟨d, 0, none⟩)) := by simp only [World.cell?, show w.heap[p]? = _ from h]; rfl
theorem PairH.c2 {w : World} {p l d b : Nat} (h : PairH w p l d b) : w.cell? ⟨p, 2, none⟩ = some (.pointer (some ⟨b, 0, none⟩)) := by simp only [World.cell?, show w.heap[p]? = _ from h]; rfl
theorem PairH.fz {w : World} {p l d b : Nat} (h : PairH w p l d b) (j : Nat) : w.frozen? ⟨p, j, none⟩ = false := by simp [World.frozen?, show w.heap[p]? = _ from h]
theorem PairH.below {w w' : World} {p l d b : Nat} (h : PairH w p l d b) (hb : Below w.heap.size w w') : PairH w' p l d b := (hb.block p h.lt).trans h
theorem DiskH.below {w w' : World} {d n : Nat} (h : DiskH w d n) (hb : Below w.heap.size w w') : DiskH w' d n := by
  obtain ⟨g, h⟩ := h
  exact ⟨g, (hb.block d (Array.getElem?_eq_some_iff.1 h).1).trans h⟩
theorem DiskH.cell {w : World} {d n : Nat} (h : DiskH w d n) : ∃ g, w.cell? ⟨d, 0, none⟩ = some (.slice (some ⟨g, 0, none⟩) (n * 128) (n * 128)) := by
  obtain ⟨g, h⟩ := h
  exact ⟨g, by simp only [World.cell?, h]; rfl⟩

theorem fits_nil (d : Nat) (w : World) : Calls Tryz.prog 39 #[.pointer (some ⟨d, 0, none⟩), .slice none 0 0] w fun e w' => e = .returned (.bool true) ∧ w' = w := by
  go_enter Tryz.func39, Tryz.ntmps39
  go_wp2_with fail
  go_loopw [5] (fun i wr => i = .int .i64 0 ∧ wr = w) (fun _ _ => 0)
  case atStart => exact ⟨rfl, rfl⟩
  case round =>
    obtain ⟨rfl, rfl⟩ := hrel
    go_wp2_with fail
    go_ret
    exact ⟨rfl, rfl⟩
theorem all_nil (d : Nat) (w : World) : Calls Tryz.prog 40 #[.pointer (some ⟨d, 0, none⟩), .slice none 0 0] w fun e w' => e = .returned (.tuple #[]) ∧ w' = w := by
  go_enter Tryz.func40, Tryz.ntmps40
  go_wp2_with fail
  go_loopw [4] (fun i wr => i = .int .i64 0 ∧ wr = w) (fun _ _ => 0)
  case atStart => exact ⟨rfl, rfl⟩
  case round =>
    obtain ⟨rfl, rfl⟩ := hrel
    go_wp2
    go_end0
    exact ⟨rfl, rfl⟩

end Go.Proofs.YtbpnllhhmookcaaGreatDoor

/- firnlaw: answers: the document's answer is the program's. -/
namespace Go.Proofs.YtbpnllhhmookcaaGreatDoor
open Go.RowKit Go.Shelf

theorem BkX.bk {B b : Nat} {w : World} {L : Led} (h : BkX B w b L) : ∃ vt vp k, BkAt w b vt vp k ∧ Sim L k := by
  obtain ⟨vt, vp, k, hf⟩ := h
  exact ⟨vt, vp, k, hf.bk, hf.sim⟩
theorem BkX.any {B b : Nat} {w : World} {L : Led} (h : BkX B w b L) : BkX 0 w b L := by
  obtain ⟨vt, vp, k, hf⟩ := h
  exact ⟨vt, vp, k, hf.bk, hf.sim, hf.nt, hf.np, Nat.zero_le _, fun _ _ => Nat.zero_le _, fun _ _ => Nat.zero_le _⟩
theorem BkX.old {b : Nat} {w5 w6 w7 : World} {L : Led} (h : BkX 0 w5 b L) (hb : Below w5.heap.size w5 w6) (hk : Keeps (fun g => w5.heap.size ≤ g) w6 w7) : BkX 0 w7 b L := by
  obtain ⟨vt, vp, k, hf⟩ := h
  refine ⟨vt, vp, k, hf.bk.keeps ((below_toKeeps hb (fun g => w5.heap.size ≤ g)).trans hk) (fun g hg => ?_), hf.sim, hf.nt, hf.np, hf.fb, hf.ft, hf.fp⟩
  have := hf.bk.own_lt hg
  omega
theorem act_ask {L : Led} {m : Cm} (h : 12 ≤ m.k) : L.act m = L := by
  unfold Led.act
  rw [if_neg (by omega), if_neg (by omega), if_neg (by omega), if_neg (by omega), if_neg (by omega), if_neg (by omega), if_neg (by omega), if_neg (by omega), if_neg (by omega), if_neg (by omega), if_neg (by omega)]
theorem reply_ne (zs : List Int) : ¬ (⟨(replyL 3 []).toArray⟩ : ByteArray).toList = (⟨(replyL 0 zs).toArray⟩ : ByteArray).toList := by
  intro e
  rw [ByteArray.toList_eq, ByteArray.toList_eq] at e
  have := congrArg List.head? e
  simp [replyL] at this
theorem bcopy_any {b : Nat} {w : World} {L : Led} (h : BkX 0 w b L) : Calls Tryz.prog 48 #[.pointer (some ⟨b, 0, none⟩)] w fun e w' => ∃ n, e = .returned (.pointer (some ⟨n, 0, none⟩)) ∧ BkX w.heap.size w' n L ∧ Below w.heap.size w w' := by
  obtain ⟨vt, vp, k, hf⟩ := h
  refine (copy_any b vt vp k w hf.bk hf.nt hf.np).mono ?_
  rintro e w' ⟨n, vt', vp', rfl, hK, hn, ht, hp, hb, hv1, hv2⟩
  exact ⟨n, rfl, ⟨vt', vp', k, hK, hf.sim, hv1, hv2, hn, ht, hp⟩, hb⟩
theorem berr_any {b : Nat} {w : World} {L : Led} {m : Cm} (h : BkX 0 w b L) (hI : L.Inv) (hm : m.Ok) : Calls Tryz.prog 51 #[.pointer (some ⟨b, 0, none⟩), m.val] w fun e w' => e = .returned (.int .i64 (L.err m)) ∧ Below w.heap.size w w' := by
  obtain ⟨vt, vp, k, hf⟩ := h
  have h5 := hm.b
  have h4 := hm.v
  have hk := hm.k
  have := errors_any b vt vp k m.ints w hf.bk (by show (0 : Int) ≤ (m.b : Nat); omega) (by show ((m.b : Nat) : Int) < 10; omega) (by show (1 : Int) ≤ (m.k : Nat); omega) (by show ((m.k : Nat) : Int) ≤ 16; omega) (by show (0 : Int) ≤ (m.v : Nat) ∧ ((m.v : Nat) : Int) ≤ 1000000000; omega) (hf.sim.small hI.ok)
  rw [hf.sim.err hI hm] at this
  exact this
theorem Sim.count {L : Led} {k : Bk} (hS : Sim L k) (hO : L.Ok) : cntB k = L.kvs.length := by
  have h2 : L.kvs.length = L.bs.length + L.ts.length + L.ps.length := by simp [Led.kvs]; omega
  have e : L.bs.map Prod.fst = (List.range 10).filter fun i => decide (0 < k.sides i) := by
    refine eq_of_pw (key := fun n : Nat => n) ?_ (List.Pairwise.filter _ List.pairwise_lt_range) (fun n => ?_)
    · exact List.pairwise_map.2 hO.bs
    · rw [List.mem_map, List.mem_filter, List.mem_range]
      constructor
      · rintro ⟨x, hx, rfl⟩
        have h1 := hO.b1 x hx
        refine ⟨by omega, ?_⟩
        rw [decide_eq_true_eq, hS.sides x.1 (by omega)]
        unfold Led.sideN
        rw [(Led.box_mem hO).2 (show (x.1, x.2) ∈ L.bs from hx)]
        show (0 : Int) < (x.2 : Nat)
        omega
      · rintro ⟨h1, h3⟩
        rw [decide_eq_true_eq, hS.sides n h1] at h3
        unfold Led.sideN at h3
        cases hb : L.box n with
        | none => rw [hb] at h3; simp at h3
        | some s => exact ⟨(n, s), (Led.box_mem hO).1 hb, rfl⟩
  have hl := congrArg List.length e
  rw [List.length_map] at hl
  unfold cntB
  rw [List.countP_eq_length_filter, ← hl, hS.tubes, List.length_map, hS.poured.length_eq, List.length_map, h2]
  omega
theorem bcount_any {B b : Nat} {w : World} {L : Led} (h : BkX B w b L) (hO : L.Ok) : Calls Tryz.prog 68 #[.pointer (some ⟨b, 0, none⟩)] w fun e w' => e = .returned (.int .i64 L.kvs.length) ∧ ∃ n, w' = w.drewN n := by
  obtain ⟨vt, vp, k, hf⟩ := h
  have := count_any b vt vp k w hf.bk
  rw [hf.sim.count hO] at this
  exact this

set_option maxRecDepth 8000 in
set_option maxHeartbeats 4000000 in
theorem answers_any (p l d b n : Nat) (L : Led) (s : ByteArray) (hs : s.size ≤ maxLen) (w : World) (hP : PairH w p l d b) (hD : DiskH w d n) (hn : 16 ≤ n ∧ n ≤ 256) (hX : BkX 0 w b L) (hI : L.Inv) (hf : L.kvs.length ≤ n / 8) :
    Calls Tryz.prog 47 #[.pointer (some ⟨p, 0, none⟩), .string s, .string ⟨(replyL (L.fErr (n / 8) s.data.toList) (L.fNum (n / 8) s.data.toList)).toArray⟩, .slice none 0 0] w fun e w' => ∃ b', e = .returned (.pointer (some ⟨b', 0, none⟩)) ∧ BkX 0 w' b' (L.fLed (n / 8) s.data.toList) ∧ Below w.heap.size w w' := by
  have HDe := hid (refDecode_any s w hs)
  cases hb : decB s.data.toList with
  | false =>
    have hd : decC s.data.toList = zero9 ∧ decE s.data.toList = 1 := by simp [decC, decE, hb]
    rw [hd.1, hd.2] at HDe
    simp only [zero9] at HDe
    have hE : L.fErr (n / 8) s.data.toList = 1 ∧ L.fNum (n / 8) s.data.toList = [] ∧ L.fLed (n / 8) s.data.toList = L := by simp [Led.fErr, Led.fNum, Led.fLed, hb]
    rw [hE.1, hE.2.1, hE.2.2]
    have HR := hid (fun u => reply_any 1 (.slice none 0 0) [] u (by omega) (.inr ⟨rfl, rfl⟩) (by simp) (fun z hz => by cases hz))
    have HF := hid (fun u => fits_nil d u)
    clear hd hb hE
    go_enter Tryz.func47, Tryz.ntmps47
    go_wp2_with fail
    refine HDe.out.mono ?_
    clear HDe
    rintro e w1 ⟨rfl, hb1⟩
    have hba : Below w1.heap.size w1 (w1.alloc (.cells #[.int .i64 0, .int .i64 0, .int .i64 0, .int .i64 0, .int .i64 0, .int .i64 0, .int .i64 0, .int .i64 0, .int .i64 0] 31)) := (Below.refl _ _).alloc (Nat.le_refl _) _
    have hB1 := hb1.trans (hba.mono hb1.size)
    have hP1 := hP.below hB1
    have p1 := hP1.c1
    have p2 := hP1.c2
    have HX1 := hid (And.intro (hX.below hB1) hB1)
    clear hba hb1 hB1 hP1
    go_wp2_with fail
    refine (HF.out _).mono ?_
    clear HF
    rintro e w2 ⟨rfl, rfl⟩
    generalize w1.alloc (.cells #[.int .i64 0, .int .i64 0, .int .i64 0, .int .i64 0, .int .i64 0, .int .i64 0, .int .i64 0, .int .i64 0, .int .i64 0] 31) = w2 at *
    have hlt : p < w2.heap.size := Nat.lt_of_lt_of_le hP.lt HX1.out.2.size
    go_wp2_with fail
    refine (HR.out _).mono ?_
    clear HR
    rintro e w3 ⟨rfl, hb3⟩
    have p2 := (hb3.cell (p := ⟨p, 2, none⟩) hlt).trans p2
    have HX3 := hid (And.intro (HX1.out.1.below hb3) (HX1.out.2.trans (hb3.mono HX1.out.2.size)))
    clear HX1 hb3 p1
    go_wp2
    go_ret
    exact ⟨b, rfl, HX3.out.1, HX3.out.2⟩
  | true =>
    have hen := (dec_enc _ hb).1
    have hde : decE s.data.toList = 0 := by simp [decE, hb]
    have hmo := Cm.of_ok hen
    rw [hde, Cm.of_val hen] at HDe
    have hE : L.fErr (n / 8) s.data.toList = L.stepE (n / 8) (Cm.of (decC s.data.toList)) ∧ L.fNum (n / 8) s.data.toList = L.stepN (n / 8) (Cm.of (decC s.data.toList)) ∧ L.fLed (n / 8) s.data.toList = L.stepL (n / 8) (Cm.of (decC s.data.toList)) := by simp [Led.fErr, Led.fNum, Led.fLed, hb]
    rw [hE.1, hE.2.1, hE.2.2]
    clear hE hen hde hb
    generalize Cm.of (decC s.data.toList) = m at *
    have HEr := hid (fun u (hu : BkX 0 u b L) => berr_any hu hI hmo)
    have HF := hid (fun u => fits_nil d u)
    have hfew : L.kvs.length < 7000 := by omega
    unfold Cm.val at *
    go_enter Tryz.func47, Tryz.ntmps47
    go_wp2_with fail
    refine HDe.out.mono ?_
    clear HDe
    rintro e w1 ⟨rfl, hb1⟩
    have hba : Below w1.heap.size w1 (w1.alloc (.cells #[.int .i64 m.k, .int .i64 m.t, .int .i64 m.o, .int .i64 m.d, .int .i64 m.v, .int .i64 m.b, .int .i64 m.x, .int .i64 m.y, .int .i64 m.n] 31)) := (Below.refl _ _).alloc (Nat.le_refl _) _
    have hB1 := hb1.trans (hba.mono hb1.size)
    have hP1 := hP.below hB1
    have p1 := hP1.c1
    have p2 := hP1.c2
    have hC := Cm.has_new w1 31 m
    have hlC := has_new_lt w1 m
    obtain ⟨c0, c1, c2, c3, c4, c5, c6, c7, c8⟩ := all9.1 hC.1
    simp only [Cm.ints] at c0 c1 c2 c3 c4 c5 c6 c7 c8
    have HX1 := hid (And.intro (hX.below hB1) (And.intro hB1 (And.intro hC (And.intro hlC hP1.lt))))
    clear hba hb1 hB1 hP1 hC hlC
    go_wp2_with fail
    generalize w1.alloc (.cells #[.int .i64 m.k, .int .i64 m.t, .int .i64 m.o, .int .i64 m.d, .int .i64 m.v, .int .i64 m.b, .int .i64 m.x, .int .i64 m.y, .int .i64 m.n] 31) = w2 at *
    generalize w1.heap.size = cb at *
    refine wp_region_then 5 (by kernel_rfl) (by decide) (by kernel_rfl) (by kernel_rfl) (by kernel_rfl) (by kernel_rfl) ?_
    simp only [List.take_succ_cons, List.take_zero]
    repeat (go_big_quiet_step (fail))
    refine wpQuiet_nil ?_
    rintro w3 ⟨nq, rfl⟩
    simp only [List.drop_succ_cons, List.drop_zero]
    obtain ⟨hX1, hB1, hC1, hlC1, hlp1⟩ := HX1.out
    have hX2 := hX1.below (below_drewN (Below.refl _ w2) nq)
    have hB2 := below_drewN hB1 nq
    have HX2 := hid (And.intro hX2 (And.intro hB2 (And.intro (hC1.drewN nq) (And.intro (show cb < (w2.drewN nq).heap.size from hlC1) (show p < (w2.drewN nq).heap.size from hlp1)))))
    have HE1 := hid (HEr.out _ hX2)
    have p1 : (w2.drewN nq).cell? ⟨p, 1, none⟩ = some (.pointer (some ⟨d, 0, none⟩)) := p1
    have p2 : (w2.drewN nq).cell? ⟨p, 2, none⟩ = some (.pointer (some ⟨b, 0, none⟩)) := p2
    clear HX1 hX1 hB1 hC1 hlC1 hlp1 hX2 hB2 HEr c0 c1 c2 c3 c4 c5 c6 c7 c8
    generalize w2.drewN nq = w3 at *
    go_wp2_with fail
    refine HE1.out.mono ?_
    clear HE1
    rintro e w4 ⟨rfl, hb4⟩
    obtain ⟨hX3, hB3, hC3, hlC3, hlp3⟩ := HX2.out
    have p1 := (hb4.cell (p := ⟨p, 1, none⟩) hlp3).trans p1
    have p2 := (hb4.cell (p := ⟨p, 2, none⟩) hlp3).trans p2
    have hC4 := has_keeps hC3 (below_toKeeps hb4 (fun _ => False)) hlC3 (fun h => h)
    have HX4 := hid (And.intro (hX3.below hb4) (And.intro (hB3.trans (hb4.mono hB3.size)) (And.intro hC4 (And.intro (Nat.lt_of_lt_of_le hlC3 hb4.size) (Nat.lt_of_lt_of_le hlp3 hb4.size)))))
    clear HX2 hX3 hB3 hC3 hlC3 hlp3 hb4 hC4
    by_cases he : L.err m = 0
    · rw [he]
      have hinv := act_inv hI hmo he
      have HCp := hid (bcopy_any (HX4.out.1))
      go_wp2_with fail
      refine (HF.out _).mono ?_
      clear HF
      rintro e w5 ⟨rfl, rfl⟩
      go_wp2_with fail
      refine HCp.out.mono ?_
      clear HCp
      rintro e w6 ⟨nb, rfl, hX6, hb6⟩
      obtain ⟨hX5, hB5, hC5, hlC5, hlp5⟩ := HX4.out
      have p1 := (hb6.cell (p := ⟨p, 1, none⟩) hlp5).trans p1
      have p2 := (hb6.cell (p := ⟨p, 2, none⟩) hlp5).trans p2
      have hC6 := hC5.below hb6 hlC5
      obtain ⟨c0, c1, c2, c3, c4, c5, c6, c7, c8⟩ := all9.1 hC6.1
      simp only [Cm.ints] at c0 c1 c2 c3 c4 c5 c6 c7 c8
      have HDo := hid (bdo_any hX6 hI hmo he hb6.size (by omega))
      have HOld := hid (fun (u : World) hk => BkX.old (w7 := u) hX5 hb6 hk)
      have HX6 := hid (And.intro (hX5.below hb6) (And.intro (hB5.trans (hb6.mono hB5.size)) (And.intro hC6 (And.intro (Nat.lt_of_lt_of_le hlC5 hb6.size) (And.intro hlp5 (And.intro hlC5 (And.intro hb6.size hB5)))))))
      unfold Cm.val at HDo
      clear HX4 hX5 hB5 hC5 hlC5 hlp5 hX6 hb6 hC6
      go_wp2_with fail
      refine HDo.out.mono ?_
      clear HDo
      rintro e w7 ⟨v7, rfl, hi7, hX7, hk7⟩
      obtain ⟨hX6, hB6, hC6, hlC6, hlp5, hlC5, hs56, hB5⟩ := HX6.out
      have hlp6 : p < w6.heap.size := Nat.lt_of_lt_of_le hlp5 hs56
      have p2 := (hk7.cell (p := ⟨p, 2, none⟩) hlp6 (by show ¬ w5.heap.size ≤ p; omega)).trans p2
      have p1 := (hk7.cell (p := ⟨p, 1, none⟩) hlp6 (by show ¬ w5.heap.size ≤ p; omega)).trans p1
      have c0 := (hk7.cell (p := ⟨cb, 0, none⟩) hlC6 (by show ¬ w5.heap.size ≤ cb; omega)).trans c0
      obtain ⟨gd, hdh⟩ := hD.below hB5
      have hdl : d < w5.heap.size := (Array.getElem?_eq_some_iff.1 hdh).1
      have hD6 : DiskH w6 d n := hD.below hB6
      obtain ⟨g6, dc⟩ := hD6.cell
      have dc := (hk7.cell (p := ⟨d, 0, none⟩) (Nat.lt_of_lt_of_le hdl hs56) (by show ¬ w5.heap.size ≤ d; omega)).trans dc
      have hB7 : Below w.heap.size w w7 := hB6.trans (hk7.toBelow (B := w.heap.size) (fun g hg => by have := hB5.size; omega) (by have := hB6.size; omega))
      have hX7b : BkX 0 w7 b L := HOld.out w7 hk7
      have hlt7 : p < w7.heap.size ∧ cb < w7.heap.size ∧ d < w7.heap.size := by have := hk7.size; omega
      have HX7 := hid (And.intro hX7 (And.intro hX7b (And.intro hB7 hlt7)))
      have HR0 := hid (reply_any 0 v7 (L.tell m) w7 (by omega) hi7 (Led.tell_len hfew) (fun z hz => by have := Led.tell_range hI hfew z hz; omega))
      have HR3 := hid (fun u => reply_any 3 (.slice none 0 0) [] u (by omega) (.inr ⟨rfl, rfl⟩) (by simp) (fun z hz => by cases hz))
      clear HX6 hX6 hB6 hC6 hlC6 hlp5 hlC5 hs56 hB5 hlp6 hdh hdl hD6 hB7 hX7b hX7 hk7 hi7 hlt7 c1 c2 c3 c4 c5 c6 c7 c8
      go_wp2_with fail
      refine HR0.out.mono ?_
      clear HR0
      rintro e w8 ⟨rfl, hb8⟩
      obtain ⟨hX7, hX7b, hB7, hlp7, hlc7, hld7⟩ := HX7.out
      have p2 := (hb8.cell (p := ⟨p, 2, none⟩) hlp7).trans p2
      have p1 := (hb8.cell (p := ⟨p, 1, none⟩) hlp7).trans p1
      have c0 := (hb8.cell (p := ⟨cb, 0, none⟩) hlc7).trans c0
      have dc := (hb8.cell (p := ⟨d, 0, none⟩) hld7).trans dc
      have hlt8 : p < w8.heap.size ∧ cb < w8.heap.size ∧ d < w8.heap.size := by have := hb8.size; omega
      have HX8 := hid (And.intro (hX7.below hb8) (And.intro (hX7b.below hb8) (And.intro (hB7.trans (hb8.mono hB7.size)) hlt8)))
      clear HX7 hX7 hX7b hB7 hlp7 hlc7 hld7 hb8 hlt8
      go_wp2_with fail
      refine (HR3.out _).mono ?_
      clear HR3
      rintro e w9 ⟨rfl, hb9⟩
      obtain ⟨hX8, hX8b, hB8, hlp8, hlc8, hld8⟩ := HX8.out
      have p2 := (hb9.cell (p := ⟨p, 2, none⟩) hlp8).trans p2
      have p1 := (hb9.cell (p := ⟨p, 1, none⟩) hlp8).trans p1
      have c0 := (hb9.cell (p := ⟨cb, 0, none⟩) hlc8).trans c0
      have dc := (hb9.cell (p := ⟨d, 0, none⟩) hld8).trans dc
      have HX9 := hid (And.intro (hX8.below hb9) (And.intro (hX8b.below hb9) (hB8.trans (hb9.mono hB8.size))))
      clear HX8 hX8 hX8b hB8 hlp8 hlc8 hld8 hb9
      by_cases hfit : (L.act m).kvs.length ≤ n / 8
      · have hS : L.stepE (n / 8) m = 0 ∧ L.stepN (n / 8) m = L.tell m ∧ L.stepL (n / 8) m = L.act m := by simp [Led.stepE, Led.stepN, Led.stepL, he, hfit]
        rw [hS.1, hS.2.1]
        have HSL := hid hS.2.2
        clear hS
        generalize (⟨(replyL 3 []).toArray⟩ : ByteArray) = full at *
        generalize (⟨(replyL 0 (L.tell m)).toArray⟩ : ByteArray) = want at *
        by_cases hk12 : (12 : Int) ≤ (m.k : Int)
        · go_wp2
          go_ret
          exact ⟨nb, rfl, by rw [HSL.out]; exact HX9.out.1.any, HX9.out.2.2⟩
        · go_wp2
          go_ret
          exact ⟨nb, rfl, by rw [HSL.out]; exact HX9.out.1.any, HX9.out.2.2⟩
      · have hS : L.stepE (n / 8) m = 3 ∧ L.stepN (n / 8) m = [] ∧ L.stepL (n / 8) m = L := by simp [Led.stepE, Led.stepN, Led.stepL, he, hfit]
        rw [hS.1, hS.2.1]
        have HSL := hid hS.2.2
        have hk12 : ¬ (12 : Int) ≤ (m.k : Int) := fun h => hfit (by rw [act_ask (by omega)]; exact hf)
        have hne := reply_ne (L.tell m)
        have HCt := hid (fun q => bcount_any (HX9.out.1.below (below_drewN (Below.refl _ w9) q)) hinv.ok)
        have hq1 : ((n * 128 : Nat) : Int).tdiv 128 = (n : Int) := by rw [Int.tdiv_eq_ediv_of_nonneg (by omega)]; omega
        have hq2 : (n : Int).tdiv 8 = ((n / 8 : Nat) : Int) := by rw [Int.tdiv_eq_ediv_of_nonneg (by omega)]; omega
        have hgt : ((n / 8 : Nat) : Int) < ((L.act m).kvs.length : Int) := by omega
        clear hS
        generalize (⟨(replyL 3 []).toArray⟩ : ByteArray) = full at *
        generalize (⟨(replyL 0 (L.tell m)).toArray⟩ : ByteArray) = want at *
        generalize (L.act m).kvs.length = cnt at *
        generalize hn8 : n / 8 = n8 at *
        have HN8 := hid hn8
        have hn8b : (n8 : Int) ≤ 32 := by omega
        have hw8 : wrap64 (n8 : Int) = (n8 : Int) := by unfold wrap64; omega
        clear hn8
        go_wp2_with fail
        go_quiet (first | (go_at_call 68; exact Calls.quiet_of (HCt.out _)))
        go_wp2
        go_ret
        exact ⟨b, rfl, by rw [HN8.out, HSL.out]; exact HX9.out.2.1.below (below_drewN (Below.refl _ w9) _), below_drewN HX9.out.2.2 _⟩
    · have her := Led.err_range L m
      have hS : L.stepE (n / 8) m = L.err m ∧ L.stepN (n / 8) m = [] ∧ L.stepL (n / 8) m = L := by simp [Led.stepE, Led.stepN, Led.stepL, he]
      rw [hS.1, hS.2.1]
      have HSL := hid hS.2.2
      have HR := hid (fun u => reply_any (L.err m).toNat (.slice none 0 0) [] u (by omega) (.inr ⟨rfl, rfl⟩) (by simp) (fun z hz => by cases hz))
      have hee : ((L.err m).toNat : Int) = L.err m := by omega
      rw [hee] at HR
      have h0 : (L.err m == 0) = false := beq_eq_false_iff_ne.2 he
      clear hS hee
      generalize L.err m = er at *
      generalize (⟨(replyL er []).toArray⟩ : ByteArray) = rp at *
      go_wp2_with fail
      refine (HF.out _).mono ?_
      clear HF
      rintro e w5 ⟨rfl, rfl⟩
      go_wp2_with fail
      refine (HR.out _).mono ?_
      clear HR
      rintro e w6 ⟨rfl, hb6⟩
      obtain ⟨hX4, hB4, hC4, hlC4, hlp4⟩ := HX4.out
      have p2 := (hb6.cell (p := ⟨p, 2, none⟩) hlp4).trans p2
      have HX6 := hid (And.intro (hX4.below hb6) (hB4.trans (hb6.mono hB4.size)))
      clear HX4 hX4 hB4 hC4 hlC4 hlp4 hb6 p1
      go_wp2
      go_ret
      exact ⟨b, rfl, by rw [HSL.out]; exact HX6.out.1, HX6.out.2⟩

end Go.Proofs.YtbpnllhhmookcaaGreatDoor

/- firnlaw: does: a pair goes on. -/
namespace Go.Proofs.YtbpnllhhmookcaaGreatDoor
open Go.RowKit Go.Shelf

/-- A block that begins with a pointer is none of any books. -/
theorem BkF.ne {B b q : Nat} {w : World} {vt vp : Value} {L : Led} {k : Bk} (h : BkF B w b vt vp L k) {x : Option Addr} (hq : w.cell? ⟨q, 0, none⟩ = some (.pointer x)) : ∀ g, bkOwn b vt vp g → ¬ g = q := by
  rintro g (rfl | hg | hg) rfl
  · rw [h.bk.side 0 (by omega)] at hq; cases hq
  · by_cases he : k.tubes = []
    · rw [h.nt he] at hg; simp [Value.ownBlock] at hg
    · obtain ⟨oa, cap, rfl, hform⟩ := h.bk.tubes.form
      obtain ⟨g', e, _, _, _, t0, _⟩ := h.bk.tube (m := 0) (List.length_pos_iff.2 he)
      subst e
      have : g' = g := by simpa [Value.ownBlock] using hg
      subst this
      rw [Nat.zero_mul] at t0
      rw [t0] at hq; cases hq
  · by_cases he : k.poured = []
    · rw [h.np he] at hg; simp [Value.ownBlock] at hg
    · obtain ⟨oa, cap, rfl, hform⟩ := h.bk.poured.form
      obtain ⟨g', e, _, _, _, t0, _⟩ := hform 0 (List.length_pos_iff.2 he)
      subst e
      have : g' = g := by simpa [Value.ownBlock] using hg
      subst this
      have t0 := t0 0 (by omega)
      rw [Nat.zero_mul] at t0
      rw [t0] at hq; cases hq
theorem BkX.keepsP {b q : Nat} {w w' : World} {L : Led} (h : BkX 0 w b L) {x : Option Addr} (hq : w.cell? ⟨q, 0, none⟩ = some (.pointer x)) (hk : Keeps (fun g => g = q) w w') : BkX 0 w' b L := by
  obtain ⟨vt, vp, k, hf⟩ := h
  exact ⟨vt, vp, k, hf.bk.keeps hk (hf.ne hq), hf.sim, hf.nt, hf.np, hf.fb, hf.ft, hf.fp⟩
theorem LedgerAt.c0 {w : World} {l lim : Nat} {L : Led} (h : LedgerAt w l L lim) : ∃ x, w.cell? ⟨l, 0, none⟩ = some (.pointer x) := by
  obtain ⟨⟨r, n₀, hb, _⟩, _⟩ := h
  exact ⟨r, hb.c0⟩
theorem PairH.neL {w : World} {p l d b l' lim : Nat} {L : Led} (h : PairH w p l d b) (hl : LedgerAt w l' L lim) : ¬ p = l' := by
  rintro rfl
  obtain ⟨⟨r, n₀, hb, _⟩, _⟩ := hl
  have : w.heap[p]? = _ := hb
  rw [show w.heap[p]? = _ from h] at this
  simp at this
theorem DiskH.neL {w : World} {d n l' lim : Nat} {L : Led} (h : DiskH w d n) (hl : LedgerAt w l' L lim) : ¬ d = l' := by
  rintro rfl
  obtain ⟨g, h⟩ := h
  obtain ⟨⟨r, n₀, hb, _⟩, _⟩ := hl
  have : w.heap[d]? = _ := hb
  rw [h] at this
  simp at this
theorem DiskH.neP {w : World} {d n p l d' b : Nat} (h : DiskH w d n) (hp : PairH w p l d' b) : ¬ d = p := by
  rintro rfl
  obtain ⟨g, h⟩ := h
  have : w.heap[d]? = _ := hp
  rw [h] at this
  simp at this
theorem PairH.keeps {S : Nat → Prop} {w w' : World} {p l d b : Nat} (h : PairH w p l d b) (hk : Keeps S w w') (hs : ¬ S p) : PairH w' p l d b := (hk.block p h.lt hs).trans h
theorem DiskH.keeps {S : Nat → Prop} {w w' : World} {d n : Nat} (h : DiskH w d n) (hk : Keeps S w w') (hs : ¬ S d) : DiskH w' d n := by
  obtain ⟨g, h⟩ := h
  exact ⟨g, (hk.block d (Array.getElem?_eq_some_iff.1 h).1 hs).trans h⟩
theorem PairH.noNode {w : World} {p l d b : Nat} (h : PairH w p l d b) : NoNodeS w p := by
  refine ⟨fun a n c e => ?_, fun o kk e => ?_⟩
  · rw [h.c0] at e; cases e
  · simp only [World.cell?, show w.heap[p]? = _ from h] at e
    match o, e with
    | 0, e => cases e
    | 1, e => cases e
    | 2, e => cases e
    | o + 3, e => simp at e
theorem PairH.set {w : World} {p l d b b' : Nat} (h : PairH w p l d b) : PairH (w.setCell ⟨p, 2, none⟩ (.pointer (some ⟨b', 0, none⟩))) p l d b' := heap_setCell_same w p 2 _ _ _ h
/-- A ledger is kept where a block turns that is none of it. -/
theorem LedgerAt.keepsNo {w w' : World} {l lim q : Nat} {L : Led} (h : LedgerAt w l L lim) (ha : NoNodeS w q) (hne : ¬ q = l) (hk : Keeps (fun g => g = q) w w') : LedgerAt w' l L lim := by
  obtain ⟨⟨r, n₀, h3, h4⟩, h5, h6, h7⟩ := h
  refine ⟨⟨r, n₀, keeps_same hk (fun e => hne e.symm) h3, h4.keptS (X := fun g => g = q) hk.size (fun g o u hg hc => ?_) (fun g hg => by obtain rfl : g = q := hg; exact ha)⟩, h5, h6, h7⟩
  rw [hk.cell (p := ⟨g, o, none⟩) (World.block_lt_of_cell? w ⟨g, o, none⟩ hc) hg]
  exact hc
theorem LedgerAt.noNode {w : World} {l lim : Nat} {L : Led} (h : LedgerAt w l L lim) : NoNodeS w l := by
  obtain ⟨⟨r, n₀, hb, _⟩, _⟩ := h
  refine ⟨fun a n c e => ?_, fun o kk e => ?_⟩
  · rw [hb.c0] at e; cases e
  · simp only [World.cell?, show w.heap[l]? = _ from hb] at e
    match o, e with
    | 0, e => cases e
    | 1, e => cases e
    | 2, e => cases e
    | o + 3, e => simp at e
theorem fLed_inv {L : Led} (hI : L.Inv) (lim : Nat) (s : List UInt8) : (L.fLed lim s).Inv := by
  unfold Led.fLed
  cases hb : decB s with
  | false => exact hI
  | true => exact Led.inv_step hI (Cm.of_ok (dec_enc s hb).1) lim

/-- A pair: its ledger, its disk, its books. -/
structure PairI (w : World) (p l d b n : Nat) (L : Led) : Prop where
  pair : PairH w p l d b
  disk : DiskH w d n
  led : LedgerAt w l L (n / 8)
  inv : L.Inv
  bk : BkX 0 w b L
  n1 : 16 ≤ n ∧ n ≤ 256

set_option maxRecDepth 8000 in
set_option maxHeartbeats 2000000 in
theorem does_any (p l d b n : Nat) (L : Led) (s : ByteArray) (hs : s.size ≤ maxLen) (w : World) (h : PairI w p l d b n L) :
    Calls Tryz.prog 29 #[.pointer (some ⟨p, 0, none⟩), .string s] w fun e w' => e = .returned (.bool true) ∧ ∃ b', PairI w' p l d b' n (L.fLed (n / 8) s.data.toList) ∧ Keeps (fun g => g = l ∨ g = p) w w' := by
  have HDo := hid (do_any l L (n / 8) s hs w h.led h.inv)
  have p0 := h.pair.c0
  have H := hid h
  clear h
  go_enter Tryz.func29, Tryz.ntmps29
  go_wp2_with fail
  refine HDo.out.mono ?_
  clear HDo
  rintro e w1 ⟨rfl, hL1, hk1⟩
  obtain ⟨hP, hD, hL, hI, hX, hn⟩ := H.out
  obtain ⟨x, hc⟩ := hL.c0
  have hP1 := hP.keeps hk1 (hP.neL hL)
  have hD1 := hD.keeps hk1 (hD.neL hL)
  have hX1 := hX.keepsP hc hk1
  have HA := hid (answers_any p l d b n L s hs w1 hP1 hD1 hn hX1 hI hL.few)
  have H1 := hid (And.intro hP1 (And.intro hD1 (And.intro hL1 (And.intro (fLed_inv hI (n / 8) s.data.toList) (And.intro hn hk1)))))
  clear H hP hD hL hI hX hn hc hP1 hD1 hX1 hL1 hk1 p0
  go_wp2_with fail
  refine HA.out.mono ?_
  clear HA
  rintro e w2 ⟨b', rfl, hX2, hb2⟩
  obtain ⟨hP1, hD1, hL1, hI1, hn, hk1⟩ := H1.out
  have hP2 := hP1.below hb2
  have hD2 := hD1.below hb2
  have hL2 := hL1.below hb2
  have pc2 := hP2.c2
  have pf2 := hP2.fz 2
  have pc1 := hP2.c1
  have hkp : Keeps (fun g => g = p) w2 (w2.setCell ⟨p, 2, none⟩ (.pointer (some ⟨b', 0, none⟩))) := (Keeps.refl (fun g => g = p) w2).set1 rfl _ _
  have hI3 : PairI (w2.setCell ⟨p, 2, none⟩ (.pointer (some ⟨b', 0, none⟩))) p l d b' n (L.fLed (n / 8) s.data.toList) :=
    ⟨hP2.set, hD2.keeps hkp (hD2.neP hP2), hL2.keepsNo hP2.noNode (hP2.neL hL2) hkp, hI1, hX2.keepsP hP2.c0 hkp, hn⟩
  have hK3 : Keeps (fun g => g = l ∨ g = p) w (w2.setCell ⟨p, 2, none⟩ (.pointer (some ⟨b', 0, none⟩))) := ((hk1.mono (fun g _ hg => .inl hg)).trans (below_toKeeps hb2 _)).set1 (.inr rfl) _ _
  have H3 := hid (And.intro hI3 hK3)
  have HAl := hid (fun u => all_nil d u)
  clear H1 hP1 hD1 hL1 hI1 hn hk1 hP2 hD2 hL2 hkp hI3 hK3 hb2 hX2
  go_wp2_with fail
  refine (HAl.out _).mono ?_
  clear HAl
  rintro e w3 ⟨rfl, rfl⟩
  go_wp2
  go_ret
  exact ⟨rfl, b', H3.out⟩

end Go.Proofs.YtbpnllhhmookcaaGreatDoor

/- firnlaw: tells: a question, of the ledger and of the books. -/
namespace Go.Proofs.YtbpnllhhmookcaaGreatDoor
open Go.RowKit Go.Shelf

theorem BkF.keepsP {b q : Nat} {w w' : World} {vt vp : Value} {L : Led} {k : Bk} (h : BkF 0 w b vt vp L k) {x : Option Addr} (hq : w.cell? ⟨q, 0, none⟩ = some (.pointer x)) (hk : Keeps (fun g => g = q) w w') : BkF 0 w' b vt vp L k :=
  ⟨h.bk.keeps hk (h.ne hq), h.sim, h.nt, h.np, h.fb, h.ft, h.fp⟩
theorem ask_steps {L : Led} {m : Cm} {lim : Nat} (hk : 12 ≤ m.k) (hf : L.kvs.length ≤ lim) : L.stepL lim m = L ∧ L.stepE lim m = L.err m ∧ L.stepN lim m = if L.err m = 0 then L.tell m else [] := by
  have ha := act_ask (L := L) hk
  refine ⟨?_, ?_, ?_⟩
  · unfold Led.stepL; rw [ha, ite_self]
  · unfold Led.stepE
    rw [ha]
    by_cases he : L.err m = 0
    · rw [if_pos he, if_pos hf, he]
    · rw [if_neg he]
  · unfold Led.stepN
    rw [ha]
    by_cases he : L.err m = 0
    · rw [if_pos ⟨he, hf⟩, if_pos he]
    · rw [if_neg (fun h => he h.1), if_neg he]

/-- What lies in memory while a question is asked. -/
structure TL (w : World) (l b lim cb : Nat) (L : Led) (vt vp : Value) (k : Bk) (m : Cm) (wr : World) : Prop where
  led : LedgerAt wr l L lim
  bk : BkF 0 wr b vt vp L k
  kp : Keeps (fun g => g = l) w wr
  has : Has wr cb m.ints
  lt : cb < wr.heap.size
  ne : ¬ cb = l
theorem TL.below {w wr w' : World} {l b lim cb : Nat} {L : Led} {vt vp : Value} {k : Bk} {m : Cm} (h : TL w l b lim cb L vt vp k m wr) (hb : Below wr.heap.size wr w') : TL w l b lim cb L vt vp k m w' :=
  ⟨h.led.below hb, h.bk.below hb, h.kp.trans (below_toKeeps hb _), h.has.below hb h.lt, Nat.lt_of_lt_of_le h.lt hb.size, h.ne⟩
theorem TL.done {w wr w' : World} {l b lim cb : Nat} {L : Led} {vt vp : Value} {k : Bk} {m : Cm} (h : TL w l b lim cb L vt vp k m wr) (hl : LedgerAt w' l L lim) (hk : Keeps (fun g => g = l) wr w') : TL w l b lim cb L vt vp k m w' := by
  obtain ⟨x, hc⟩ := h.led.c0
  exact ⟨hl, h.bk.keepsP hc hk, h.kp.trans hk, has_keeps h.has hk h.lt h.ne, Nat.lt_of_lt_of_le h.lt hk.size, h.ne⟩

set_option maxRecDepth 8000 in
set_option maxHeartbeats 4000000 in
theorem tells_any (l b lim : Nat) (L : Led) (vt vp : Value) (k : Bk) (m : Cm) (hm : encB m.ints = true) (hk : 12 ≤ m.k) (w : World) (hA : LedgerAt w l L lim) (hI : L.Inv) (hF : BkF 0 w b vt vp L k) :
    Calls Tryz.prog 33 #[.pointer (some ⟨l, 0, none⟩), .pointer (some ⟨b, 0, none⟩), m.val] w fun e w' => e = .returned (.bool true) ∧ LedgerAt w' l L lim ∧ BkF 0 w' b vt vp L k ∧ Keeps (fun g => g = l) w w' := by
  obtain ⟨hb1, hb2⟩ := Cm.back hm
  have hmo : m.Ok := by have := Cm.of_ok hm; have e : Cm.of m.ints = m := rfl; rwa [e] at this
  have hfew : L.kvs.length < 7000 := by have := hA.few; have := hA.lim; omega
  have hEs : (⟨(encS m.ints).toArray⟩ : ByteArray).size ≤ maxLen := by
    show (encS m.ints).toArray.size ≤ maxLen
    have := (enc_len m.ints hm).2
    simp only [List.size_toArray]; unfold maxLen; omega
  have HEn := hid (fun u => refEncode_any m.ints u)
  simp only [Cm.ints] at HEn
  have HDo := hid (fun u (hu : LedgerAt u l L lim) => do_any l L lim ⟨(encS m.ints).toArray⟩ hEs u hu hI)
  obtain ⟨s1, s2, s3⟩ := ask_steps (m := m) hk hA.few
  have e1 : L.fErr lim (encS m.ints) = L.err m ∧ L.fNum lim (encS m.ints) = (if L.err m = 0 then L.tell m else []) ∧ L.fLed lim (encS m.ints) = L := by
    refine ⟨?_, ?_, ?_⟩
    · rw [← s2]; simp [Led.fErr, hb1, hb2]
    · rw [← s3]; simp [Led.fNum, hb1, hb2]
    · rw [← s1]; simp [Led.fLed, hb1, hb2, s1]
  rw [show (⟨(encS m.ints).toArray⟩ : ByteArray).data.toList = encS m.ints from rfl, e1.1, e1.2.1, e1.2.2] at HDo
  have HEr := hid (fun u (hu : BkF 0 u b vt vp L k) => berr_any ⟨vt, vp, k, hu⟩ hI hmo)
  have HQ := hid (fun u (hu : BkF 0 u b vt vp L k) (he : L.err m = 0) => bask_any hu hI hmo hk he)
  have hC0 := Cm.has_new w 31 m
  have hb0 : Below w.heap.size w (w.alloc (.cells #[.int .i64 m.k, .int .i64 m.t, .int .i64 m.o, .int .i64 m.d, .int .i64 m.v, .int .i64 m.b, .int .i64 m.x, .int .i64 m.y, .int .i64 m.n] 31)) := (Below.refl _ w).alloc (Nat.le_refl _) _
  have hlt0 := has_new_lt w m
  have hll := hA.lt
  have H0 := hid (show TL w l b lim w.heap.size L vt vp k m _ from ⟨hA.below hb0, hF.below hb0, below_toKeeps hb0 _, hC0, hlt0, by omega⟩)
  have HI := hid (And.intro hI hfew)
  generalize (⟨(encS m.ints).toArray⟩ : ByteArray) = fr at *
  unfold Cm.val at *
  clear hb1 hb2 hEs s1 s2 s3 e1 hA hF hb0 hI hfew hm
  obtain ⟨c0, c1, c2, c3, c4, c5, c6, c7, c8⟩ := all9.1 hC0.1
  simp only [Cm.ints] at c0 c1 c2 c3 c4 c5 c6 c7 c8
  clear hC0 hlt0
  by_cases he : L.err m = 0
  · rw [if_pos he] at HDo
    go_enter Tryz.func33, Tryz.ntmps33
    go_wp2_with fail
    refine (HEn.out _).mono ?_
    clear HEn
    rintro e w1 ⟨rfl, hb1⟩
    have H1 := hid (H0.out.below hb1)
    clear H0 hb1 c0 c1 c2 c3 c4 c5 c6 c7 c8
    obtain ⟨c0, c1, c2, c3, c4, c5, c6, c7, c8⟩ := all9.1 H1.out.has.1
    simp only [Cm.ints] at c0 c1 c2 c3 c4 c5 c6 c7 c8
    generalize w.heap.size = cb at *
    go_wp2_with fail
    refine (HDo.out _ H1.out.led).mono ?_
    clear HDo
    rintro e w2 ⟨rfl, hL2, hk2⟩
    have H2 := hid (H1.out.done hL2 hk2)
    clear H1 hL2 hk2 c0 c1 c2 c3 c4 c5 c6 c7 c8
    obtain ⟨c0, c1, c2, c3, c4, c5, c6, c7, c8⟩ := all9.1 H2.out.has.1
    simp only [Cm.ints] at c0 c1 c2 c3 c4 c5 c6 c7 c8
    go_wp2_with fail
    refine (HEr.out _ H2.out.bk).mono ?_
    clear HEr
    rintro e w3 ⟨rfl, hb3⟩
    have H3 := hid (H2.out.below hb3)
    clear H2 hb3 c0 c1 c2 c3 c4 c5 c6 c7 c8
    obtain ⟨c0, c1, c2, c3, c4, c5, c6, c7, c8⟩ := all9.1 H3.out.has.1
    simp only [Cm.ints] at c0 c1 c2 c3 c4 c5 c6 c7 c8
    obtain ⟨hI, hfew⟩ := HI.out
    clear HI
    have HQ3 := hid (HQ.out _ H3.out.bk he)
    have HTr := hid (And.intro (Led.tell_len (m := m) hfew) (Led.tell_range (m := m) hI hfew))
    rw [he]
    clear HQ hI hfew he
    go_wp2_with fail
    refine HQ3.out.mono ?_
    clear HQ3
    rintro e w4 ⟨v4, rfl, hi4, hb4⟩
    have H4 := hid (H3.out.below hb4)
    have HR := hid (reply_any 0 v4 (L.tell m) w4 (by omega) hi4 HTr.out.1 (fun z hz => by have := HTr.out.2 z hz; omega))
    clear H3 hi4 hb4 HTr c0 c1 c2 c3 c4 c5 c6 c7 c8
    go_wp2_with fail
    refine HR.out.mono ?_
    clear HR
    rintro e w5 ⟨rfl, hb5⟩
    have H5 := hid (H4.out.below hb5)
    clear H4 hb5
    go_wp2
    go_ret
    exact ⟨rfl, H5.out.led, H5.out.bk, H5.out.kp⟩
  · rw [if_neg he] at HDo
    go_enter Tryz.func33, Tryz.ntmps33
    go_wp2_with fail
    refine (HEn.out _).mono ?_
    clear HEn
    rintro e w1 ⟨rfl, hb1⟩
    have H1 := hid (H0.out.below hb1)
    clear H0 hb1 c0 c1 c2 c3 c4 c5 c6 c7 c8
    obtain ⟨c0, c1, c2, c3, c4, c5, c6, c7, c8⟩ := all9.1 H1.out.has.1
    simp only [Cm.ints] at c0 c1 c2 c3 c4 c5 c6 c7 c8
    generalize w.heap.size = cb at *
    go_wp2_with fail
    refine (HDo.out _ H1.out.led).mono ?_
    clear HDo
    rintro e w2 ⟨rfl, hL2, hk2⟩
    have H2 := hid (H1.out.done hL2 hk2)
    clear H1 hL2 hk2 c0 c1 c2 c3 c4 c5 c6 c7 c8
    obtain ⟨c0, c1, c2, c3, c4, c5, c6, c7, c8⟩ := all9.1 H2.out.has.1
    simp only [Cm.ints] at c0 c1 c2 c3 c4 c5 c6 c7 c8
    go_wp2_with fail
    refine (HEr.out _ H2.out.bk).mono ?_
    clear HEr
    rintro e w3 ⟨rfl, hb3⟩
    have H3 := hid (H2.out.below hb3)
    clear H2 hb3 c0 c1 c2 c3 c4 c5 c6 c7 c8
    obtain ⟨c0, c1, c2, c3, c4, c5, c6, c7, c8⟩ := all9.1 H3.out.has.1
    simp only [Cm.ints] at c0 c1 c2 c3 c4 c5 c6 c7 c8
    obtain ⟨hI, hfew⟩ := HI.out
    clear HI
    have her := Led.err_range L m
    have HR := hid (fun u => reply_any (L.err m).toNat (.slice none 0 0) [] u (by omega) (.inr ⟨rfl, rfl⟩) (by simp) (fun z hz => by cases hz))
    have hee : ((L.err m).toNat : Int) = L.err m := by omega
    rw [hee] at HR
    have h0 : (L.err m == 0) = false := beq_eq_false_iff_ne.2 he
    clear HQ hI hfew hee he
    generalize L.err m = er at *
    go_wp2_with fail
    refine (HR.out _).mono ?_
    clear HR
    rintro e w5 ⟨rfl, hb5⟩
    have H5 := hid (H3.out.below hb5)
    clear H3 hb5 c0 c1 c2 c3 c4 c5 c6 c7 c8
    go_wp2
    go_ret
    exact ⟨rfl, H5.out.led, H5.out.bk, H5.out.kp⟩

end Go.Proofs.YtbpnllhhmookcaaGreatDoor

/- firnlaw: same: the ledger says of all that there is what the books say. -/
namespace Go.Proofs.YtbpnllhhmookcaaGreatDoor
open Go.RowKit Go.Shelf

theorem enc_cont {b : Nat} (h : 1 ≤ b ∧ b ≤ 9) : encB (Led.cmCont b).ints = true := by
  refine enc_of (fs := [4]) rfl (by simp only [Led.cmCont]; omega) ?_ (all9.2 ⟨rfl, rfl, rfl, rfl, rfl, rfl, rfl, rfl, rfl⟩)
  simp [okAll, okB, lo, hi, off, Cm.ints, Led.cmCont]; omega
theorem enc_of1 {d : Nat} (h : 1 ≤ d ∧ d ≤ 99) : encB (Led.cmOf d).ints = true := by
  refine enc_of (fs := [2]) rfl (by simp only [Led.cmOf]; omega) ?_ (all9.2 ⟨rfl, rfl, rfl, rfl, rfl, rfl, rfl, rfl, rfl⟩)
  simp [okAll, okB, lo, hi, off, Cm.ints, Led.cmOf]; omega
theorem enc_down {n : Nat} (h : 1 ≤ n ∧ n ≤ 999) : encB (Led.cmDown n).ints = true := by
  refine enc_of (fs := [0]) rfl (by simp only [Led.cmDown]; omega) ?_ (all9.2 ⟨rfl, rfl, rfl, rfl, rfl, rfl, rfl, rfl, rfl⟩)
  simp [okAll, okB, lo, hi, off, Cm.ints, Led.cmDown]; omega
theorem enc_up {n : Nat} (h : 1 ≤ n ∧ n ≤ 999) : encB (Led.cmUp n).ints = true := by
  refine enc_of (fs := [0]) rfl (by simp only [Led.cmUp]; omega) ?_ (all9.2 ⟨rfl, rfl, rfl, rfl, rfl, rfl, rfl, rfl, rfl⟩)
  simp [okAll, okB, lo, hi, off, Cm.ints, Led.cmUp]; omega
theorem enc_show {n : Nat} (h : 1 ≤ n ∧ n ≤ 999) : encB (cmShow n).ints = true := by
  refine enc_of (fs := [0]) rfl (by simp only [cmShow]; omega) ?_ (all9.2 ⟨rfl, rfl, rfl, rfl, rfl, rfl, rfl, rfl, rfl⟩)
  simp [okAll, okB, lo, hi, off, Cm.ints, cmShow]; omega

/-- What lies in memory while all is asked. -/
structure SA (w : World) (l b lim : Nat) (L : Led) (vt vp : Value) (k : Bk) (wr : World) : Prop where
  led : LedgerAt wr l L lim
  bk : BkF 0 wr b vt vp L k
  kp : Keeps (fun g => g = l) w wr

set_option maxRecDepth 8000 in
set_option maxHeartbeats 4000000 in
theorem lsame_any (l b lim : Nat) (L : Led) (w : World) (hA : LedgerAt w l L lim) (hI : L.Inv) (hX : BkX 0 w b L) :
    Calls Tryz.prog 20 #[.pointer (some ⟨l, 0, none⟩), .pointer (some ⟨b, 0, none⟩)] w fun e w' => e = .returned (.bool true) ∧ LedgerAt w' l L lim ∧ BkX 0 w' b L ∧ Keeps (fun g => g = l) w w' := by
  obtain ⟨vt, vp, k, hF⟩ := hX
  obtain ⟨oa, cap, rfl, _⟩ := hF.bk.tubes.form
  have H0 := hid (show SA w l b lim L _ vp k w from ⟨hA, hF, Keeps.refl _ _⟩)
  have HT := hid (fun m hm hk u (hu : SA w l b lim L (.slice oa k.tubes.length cap) vp k u) => tells_any l b lim L _ vp k m hm hk u hu.led hI hu.bk)
  have HI := hid hI
  clear hA hF hI
  go_enter Tryz.func20, Tryz.ntmps20
  go_wp2_with fail
  go_loopw [5] (fun i wr => ∃ c : Nat, 1 ≤ c ∧ c ≤ 10 ∧ i = .int .i64 c ∧ SA w l b lim L (.slice oa k.tubes.length cap) vp k wr) (fun i _ => 10 - (intOf i).toNat)
  case atStart => exact ⟨1, by omega, by omega, rfl, H0.out⟩
  case round =>
    clear H0
    obtain ⟨c, hc1, hc10, rfl, hS⟩ := hrel
    by_cases hc : c ≤ 9
    · have hci : (c : Int) ≤ 9 := by omega
      have HC := hid (HT.out (Led.cmCont c) (enc_cont ⟨hc1, hc⟩) (by show 12 ≤ 13; omega) _ hS)
      unfold Cm.val Led.cmCont at HC
      have HS := hid hS
      clear hS
      go_wp2_with fail
      refine HC.out.mono ?_
      clear HC
      rintro e w2 ⟨rfl, h1, h2, h3⟩
      have HS2 := hid (show SA w l b lim L (.slice oa k.tubes.length cap) vp k w2 from ⟨h1, h2, HS.out.kp.trans h3⟩)
      clear HS h1 h2 h3
      go_wp2_with fail
      exact ⟨⟨c + 1, by omega, by omega, by go_num, HS2.out⟩, by simp [intOf]; omega⟩
    · have hci : ¬ (c : Int) ≤ 9 := by omega
      have HS := hid hS
      have hfew := hS.bk.bk.few.1
      clear hS
      go_wp2_with fail
      go_loopw [7] (fun i wr => ∃ j : Nat, j ≤ k.tubes.length ∧ i = .int .i64 j ∧ SA w l b lim L (.slice oa k.tubes.length cap) vp k wr) (fun i _ => k.tubes.length - (intOf i).toNat)
      case atStart => exact ⟨0, by omega, rfl, HS.out⟩
      case round =>
        clear HS
        obtain ⟨j, hj, rfl, hS⟩ := hrel
        have hct := hS.bk.bk.ct
        by_cases hjl : j < k.tubes.length
        · have hji : (j : Int) < (k.tubes.length : Int) := by omega
          obtain ⟨g, rfl, hn, hcap, hgl, t0, t1, _⟩ := hS.bk.bk.tube (m := j) hjl
          have hjl' : j < L.ts.length := by have := hS.bk.sim.tubes; rw [this, List.length_map] at hjl; exact hjl
          have e1 : k.tubes[j] = tF L.ts[j] := by have := hS.bk.sim.at hjl'; rwa [getD_T hjl] at this
          rw [e1] at t0 t1
          simp only [tF] at t0 t1
          have hg := HI.out.ok.t1 _ (List.getElem_mem hjl')
          have hid1 : 1 ≤ (L.ts[j]).1 ∧ (L.ts[j]).1 ≤ 999 := ⟨hg.1, hg.2.1⟩
          have hdn := hg.2.2.donor
          have HG := hid (And.intro hid1 hdn)
          have H1 := hid (HT.out (cmShow (L.ts[j]).1) (enc_show hid1) (by show 12 ≤ 12; omega) _ hS)
          unfold Cm.val cmShow at H1
          have HS := hid hS
          have HE1 := hid (show k.tubes[j] 1 = ((L.ts[j]).2.donor : Int) by rw [e1]; rfl)
          clear hS hg hid1 hdn e1
          generalize (L.ts[j]).1 = tn at *
          generalize (L.ts[j]).2.donor = td at *
          go_wp2_with fail
          refine H1.out.mono ?_
          clear H1
          rintro e w2 ⟨rfl, h1, h2, h3⟩
          have hS2 : SA w l b lim L (.slice (some ⟨g, 0, none⟩) k.tubes.length cap) vp k w2 := ⟨h1, h2, HS.out.kp.trans h3⟩
          have hct := hS2.bk.bk.ct
          obtain ⟨g', eg, hn2, hcap2, hgl2, u0, u1, -⟩ := hS2.bk.bk.tube (m := j) hjl
          injection eg with eg
          injection eg with eg _ _
          subst eg
          rw [HE1.out] at u1
          have HS2 := hid hS2
          have H2 := hid (HT.out (Led.cmOf td) (enc_of1 HG.out.2) (by show 12 ≤ 14; omega) _ hS2)
          unfold Cm.val Led.cmOf at H2
          clear HS h1 h2 h3 hS2 t0 t1 u0 hn2
          go_wp2_with fail
          refine H2.out.mono ?_
          clear H2
          rintro e w3 ⟨rfl, h1, h2, h3⟩
          have hS3 : SA w l b lim L (.slice (some ⟨g, 0, none⟩) k.tubes.length cap) vp k w3 := ⟨h1, h2, HS2.out.kp.trans h3⟩
          have HS3 := hid hS3
          have H3 := hid (HT.out (Led.cmUp tn) (enc_up HG.out.1) (by show 12 ≤ 15; omega) _ hS3)
          unfold Cm.val Led.cmUp at H3
          clear HS2 hct u1 h1 h2 h3 hS3
          go_wp2_with fail
          refine H3.out.mono ?_
          clear H3
          rintro e w4 ⟨rfl, h1, h2, h3⟩
          have hS4 : SA w l b lim L (.slice (some ⟨g, 0, none⟩) k.tubes.length cap) vp k w4 := ⟨h1, h2, HS3.out.kp.trans h3⟩
          have HS4 := hid hS4
          have H4 := hid (HT.out (Led.cmDown tn) (enc_down HG.out.1) (by show 12 ≤ 16; omega) _ hS4)
          unfold Cm.val Led.cmDown at H4
          clear HS3 h1 h2 h3 hS4
          go_wp2_with fail
          refine H4.out.mono ?_
          clear H4
          rintro e w5 ⟨rfl, h1, h2, h3⟩
          have HS5 := hid (show SA w l b lim L (.slice (some ⟨g, 0, none⟩) k.tubes.length cap) vp k w5 from ⟨h1, h2, HS4.out.kp.trans h3⟩)
          clear HS4 h1 h2 h3
          go_wp2_with fail
          exact ⟨⟨j + 1, by omega, by go_num, HS5.out⟩, by simp [intOf]; omega⟩
        · have hji : ¬ (j : Int) < (k.tubes.length : Int) := by omega
          have HS := hid hS
          clear hS
          go_wp2
          go_ret
          exact ⟨rfl, HS.out.led, ⟨_, _, _, HS.out.bk⟩, HS.out.kp⟩

end Go.Proofs.YtbpnllhhmookcaaGreatDoor

/- firnlaw: pick, opens; Open of an image that is too small or too great. -/
namespace Go.Proofs.YtbpnllhhmookcaaGreatDoor
open Go.RowKit Go.Shelf

theorem lpick_any (c : Int) (h : I64 c) (n : Nat) (hn : 0 < n) (hn2 : n ≤ 1000) (w : World) :
    Calls Tryz.prog 24 #[.int .i64 c, .int .i64 n] w fun e w' => ∃ z : Nat, e = .returned (.int .i64 z) ∧ z < n ∧ w' = w := by
  obtain ⟨h1, h2⟩ := h
  have hz : ((n : Int) == 0) = false := beq_eq_false_iff_ne.2 (by omega)
  have hr : ∀ a : Int, 0 ≤ a → ∃ z : Nat, a % (n : Int) = z ∧ z < n := fun a ha => by
    have g1 := Int.emod_nonneg a (b := (n : Int)) (by omega)
    have g2 := Int.emod_lt_of_pos a (b := (n : Int)) (by omega)
    exact ⟨(a % (n : Int)).toNat, by omega, by omega⟩
  have HR := hid hr
  clear hr
  by_cases h : c < 0
  · have e : -(c + 1).tmod (n : Int) = (-(c + 1)) % (n : Int) := by
      rw [← Int.neg_tmod, Int.tmod_eq_emod_of_nonneg (by omega)]
    have HE := hid e
    clear e
    go_enter Tryz.func24, Tryz.ntmps24
    go_wp2
    go_ret
    obtain ⟨z, hz1, hz2⟩ := HR.out (-(c + 1)) (by omega)
    exact ⟨z, ret_int (by rw [HE.out, hz1]), hz2, rfl⟩
  · go_enter Tryz.func24, Tryz.ntmps24
    go_wp2
    go_ret
    obtain ⟨z, hz1, hz2⟩ := HR.out c (by omega)
    exact ⟨z, ret_int hz1, hz2, rfl⟩

set_option maxHeartbeats 1000000 in
theorem open_bad (n : Nat) (h : n < 16 ∨ 256 < n) (hn : n ≤ 1000) (s : ByteArray) (hs : s.size = n * 128) (w : World) :
    Calls Tryz.prog 25 #[.string s] w fun e w' => e = .returned (.tuple #[.pointer none, .slice none 0 0, .int .i64 2]) ∧ w' = w := by
  have hs' : (s.size : Int) = (n : Int) * 128 := by omega
  rcases h with h | h
  · have h1 : (n : Int) < 16 := by omega
    go_enter Tryz.func25, Tryz.ntmps25
    go_wp2
    go_ret3
    exact ⟨rfl, rfl⟩
  · have h1 : (256 : Int) < n := by omega
    go_enter Tryz.func25, Tryz.ntmps25
    go_wp2
    go_ret3
    exact ⟨rfl, rfl⟩

set_option maxRecDepth 8000 in
set_option maxHeartbeats 2000000 in
theorem opens_any (d g n : Nat) (w : World) (hD : w.heap[d]? = some (.cells #[.slice (some ⟨g, 0, none⟩) (n * 128) (n * 128)] 77 (0, 0))) (hc : ∀ j, j < n * 128 → w.cell? ⟨g, j, none⟩ = some (.int .u8 0)) (hn : 16 ≤ n ∧ n ≤ 256) :
    Calls Tryz.prog 26 #[.pointer (some ⟨d, 0, none⟩)] w fun e w' => ∃ l, e = .returned (.pointer (some ⟨l, 0, none⟩)) ∧ LedgerAt w' l Led.none (n / 8) ∧ w.heap.size ≤ l ∧ Below w.heap.size w w' := by
  obtain ⟨s, hs, hz, hconv⟩ := conv_zero w g (n * 128) hc
  have c0 : w.cell? ⟨d, 0, none⟩ = some (.slice (some ⟨g, 0, none⟩) (n * 128) (n * 128)) := by simp only [World.cell?, hD]; rfl
  have HO := hid (open_zero n hn.1 hn.2 s hs hz w)
  have HF := hid (fun u => fits_nil d u)
  have HAl := hid (fun u => all_nil d u)
  clear hc hz hs hD
  generalize n * 128 = N at *
  go_enter Tryz.func26, Tryz.ntmps26
  go_wp2_with fail
  refine HO.out.mono ?_
  clear HO hconv c0
  rintro e w1 ⟨l, rfl, hA1, hl, hb1⟩
  have HX := hid (And.intro hA1 (And.intro hl hb1))
  clear hA1 hl hb1
  go_wp2_with fail
  refine (HF.out _).mono ?_
  clear HF
  rintro e w2 ⟨rfl, rfl⟩
  go_wp2_with fail
  refine (HAl.out _).mono ?_
  clear HAl
  rintro e w3 ⟨rfl, rfl⟩
  go_wp2
  go_ret
  exact ⟨l, rfl, HX.out.1, HX.out.2.1, HX.out.2.2⟩

end Go.Proofs.YtbpnllhhmookcaaGreatDoor

/- append to a row that is owned: its block goes on holding values of one kind alone. -/
namespace Go.Proofs.YtbpnllhhmookcaaGreatDoor
open Go

/-- A block that holds values of one kind alone. -/
def AllC (C : Value → Prop) (w : World) (g : Nat) : Prop := ∀ o v, w.cell? ⟨g, o, none⟩ = some v → C v
theorem allC_of {C : Value → Prop} {w : World} {g : Nat} {cur : Array Value} {e : TypeId} (hg : w.heap[g]? = some (.cells cur e (0, 0))) (h : ∀ v ∈ cur.toList, C v) : AllC C w g := by
  intro o v hv
  simp only [World.cell?, hg] at hv
  exact h v (by
    obtain ⟨hlt, rfl⟩ := Array.getElem?_eq_some_iff.1 hv
    exact Array.getElem_mem_toList hlt)
theorem allC_cur {C : Value → Prop} {w : World} {g : Nat} {cur : Array Value} {e : TypeId} (hg : w.heap[g]? = some (.cells cur e (0, 0))) (h : AllC C w g) : ∀ v ∈ cur.toList, C v := by
  intro v hv
  obtain ⟨o, ho, rfl⟩ := List.getElem_of_mem hv
  refine h o _ ?_
  simp only [World.cell?, hg]
  rw [Array.getElem?_eq_getElem (by simpa using ho)]
  simp

theorem zeroCells_all {C : Value → Prop} (z : Value) (hz : z.cells = #[z]) (hC : C z) (n : Nat) : ∀ v ∈ (Builtin.zeroCells z.cells n).toList, C v := by
  rw [hz]
  intro v hv
  simp [Builtin.zeroCells] at hv
  obtain ⟨a, _, rfl⟩ := hv
  simpa [Nat.mod_one] using hC

variable {P : Program}
theorem run_append_all {C : Value → Prop} (w : World) (base : Nat) (t ty e : TypeId) (i : TypeInfo) (z : Value) (bytes : Nat) (ht : P.underlying t = some (.slice e)) (hi : P.info? e = some i) (hz : i.zero = some z) (hz0 : z.cells = #[z]) (hzC : C z)
    (hCo : ∀ u, C u → u.oneCell' = true) (hsize : i.size = 1) (hby : i.bytes = bytes)
    (v : Value) (n : Nat) (xs : List Value) (hown : w.ownsRow base e 1 v n xs) (hall : ∀ g, v.ownBlock = some g → AllC C w g) (hxs : ∀ v ∈ xs, C v)
    (a : Addr) (m c : Nat) (news : List Value) (hl : news.length = m) (hnews : ∀ j u, news[j]? = some u → w.cell? (a.add j) = some u) (hn : ∀ u ∈ news, C u)
    (h63 : n + m ≤ maxLen) (hbytes : (n + m) * bytes ≤ 140737488355328) (hbase : base ≤ w.heap.size) :
    ∃ v' w', (Builtin.append_ #[t, t] ty #[v, .slice (some a) m c]).run P w = .ok v' w' ∧ w'.ownsRow base e 1 v' (n + m) (xs ++ news) ∧ w.grownBy w' v.ownBlock ∧ (∀ g, v'.ownBlock = some g → AllC C w' g) := by
  have h1 : ∀ u ∈ news, u.oneCell' = true := fun u hu => hCo u (hn u hu)
  have hzs : z.cells.size = 1 := by rw [hz0]; rfl
  obtain ⟨v', w', hr, ho, hg, -⟩ := run_append_own (P := P) w base t ty e i z 1 bytes ht hi hz hsize hby hzs (by omega) v n xs hown a m c news (by omega) hnews h1 h63 hbytes hbase
  refine ⟨v', w', hr, ho, hg, ?_⟩
  have hsmall : n + m ≤ 9223372036854775807 := by simp only [maxLen] at h63; omega
  rcases hown.2 with ⟨rfl, rfl⟩ | ⟨g, cap, cur, rfl, hbg, hgg, hnc, hcm, hcs, htake⟩
  · by_cases hm : m = 0
    · subst hm
      have hn0 : news = [] := List.eq_nil_of_length_eq_zero hl
      subst hn0
      have hr2 : (Builtin.append_ #[t, t] ty #[.slice none 0 0, .slice (some a) 0 c]).run P w = .ok (.slice none 0 0) w := by
        simp [Builtin.append_, run_underlying ht, sizeOf, typeInfo, hi, Builtin.lenOf, Builtin.firstCells, loadCells, loadCellsFrom]
      rw [hr2] at hr
      cases hr
      intro g hg; simp [Value.ownBlock] at hg
    · have hr2 := run_append_nil (P := P) w t ty e i z ht hi hz a m c news (by rw [hsize]; omega) hnews (by omega) (by omega) (by rw [hby]; have hb := hbytes; simp only [Nat.zero_add] at hb; omega)
      rw [hr2] at hr
      cases hr
      intro g hg
      simp [Value.ownBlock] at hg
      subst hg
      refine allC_of (heap_alloc_new w.drew _) ?_
      intro v hv
      simp only [Array.toList_append, List.mem_append] at hv
      rcases hv with hv | hv
      · exact hn v (by simpa using hv)
      · exact zeroCells_all z hz0 hzC _ v hv
  · by_cases hroom : n + m ≤ cap
    · have hfit : n * i.size + news.length ≤ cur.size := by rw [hl, hcs, hsize]; omega
      have hr2 := run_append_room (P := P) w t ty e i ht hi g n cap cur hgg a m c news (by rw [hsize]; omega) hnews h1 hroom hfit
      rw [hr2] at hr
      cases hr
      intro g' hg'
      simp [Value.ownBlock] at hg'
      subst hg'
      have hc := allC_cur hgg (hall g rfl)
      refine allC_of (setRow_heap w g cur _ e _ hgg) ?_
      intro v hv
      simp only [List.mem_append] at hv
      rcases hv with (hv | hv) | hv
      · exact hc v (List.mem_of_mem_take hv)
      · exact hn v hv
      · exact hc v (List.mem_of_mem_drop hv)
    · have holds : ∀ j u, xs[j]? = some u → w.cell? ((⟨g, 0, none⟩ : Addr).add j) = some u := by
        intro j u hj
        simp only [World.cell?, Addr.add_lit, hgg, Nat.zero_add]
        rw [← htake] at hj
        rw [List.getElem?_take] at hj
        split at hj
        · simpa using hj
        · cases hj
      have hfit : Builtin.nextslicecap (n + m) cap * i.bytes ≤ 281474976710656 := growslice_fits (by omega) (by rw [hby]; exact hbytes)
      have hr2 := run_append_grow (P := P) w t ty e i z ht hi hz ⟨g, 0, none⟩ n cap xs (by rw [hsize]; exact hown.1) holds a m c news (by rw [hsize]; omega) hnews (by omega) (by omega) hfit
      rw [hr2] at hr
      cases hr
      intro g' hg'
      simp [Value.ownBlock] at hg'
      subst hg'
      refine allC_of (heap_alloc_new w.drew _) ?_
      intro v hv
      simp only [Array.toList_append, List.mem_append] at hv
      rcases hv with (hv | hv) | hv
      · exact hxs v (by simpa using hv)
      · exact hn v (by simpa using hv)
      · exact zeroCells_all z hz0 hzC _ v hv

theorem wpList_append_all {C : Value → Prop} {w : World} {ops : Array Oper} {rest : List Oper} {o : Oper} {a : Act} {Q : Exit → Act → World → Prop} (hgd : o.guard = none) (s x : Operand) (t : TypeId)
    (ho : o.op = .call { callee := .builtin .append, args := #[s, x], argTypes := #[t, t] })
    (base : Nat) (e : TypeId) (i : TypeInfo) (z : Value) (bytes : Nat) (ht : P.underlying t = some (.slice e)) (hi : P.info? e = some i) (hz : i.zero = some z) (hz0 : z.cells = #[z]) (hzC : C z)
    (hCo : ∀ u, C u → u.oneCell' = true) (hsize : i.size = 1) (hby : i.bytes = bytes)
    (v : Value) (n : Nat) (xs : List Value) (hs : a.eval s = v) (hown : w.ownsRow base e 1 v n xs) (hall : ∀ g, v.ownBlock = some g → AllC C w g) (hxs : ∀ v ∈ xs, C v)
    (ad : Addr) (m c : Nat) (news : List Value) (hx : a.eval x = .slice (some ad) m c) (hl : news.length = m) (hnews : ∀ j u, news[j]? = some u → w.cell? (ad.add j) = some u) (hn : ∀ u ∈ news, C u)
    (h63 : n + m ≤ maxLen) (hbytes : (n + m) * bytes ≤ 140737488355328) (hbase : base ≤ w.heap.size)
    (h : ∀ v' w', w'.ownsRow base e 1 v' (n + m) (xs ++ news) → w.grownBy w' v.ownBlock → (∀ g, v'.ownBlock = some g → AllC C w' g) → wpList P ops Q rest (a.put o.dst v') w') : wpList P ops Q (o :: rest) a w := by
  refine wpList_plain hgd fun _ hK => ?_
  obtain ⟨v', w', hr, h2, h3, h4⟩ := run_append_all (C := C) (P := P) w base t o.type e i z bytes ht hi hz hz0 hzC hCo hsize hby v n xs hown hall hxs ad m c news hl hnews hn h63 hbytes hbase
  unfold Oper.wp execOp
  simp only [ho, resolve, invoke, builtin, Sem.run_bind, Sem.run_pure, Result.andThen_ok, List.map_toArray, List.map_cons, List.map_nil, hs, hx, hr]
  exact hK _ _ (h v' w' h2 h3 h4)

end Go.Proofs.YtbpnllhhmookcaaGreatDoor

/- firnlaw: several pairs beside one another. -/
namespace Go.Proofs.YtbpnllhhmookcaaGreatDoor
open Go.RowKit Go.Shelf

structure PD where
  p : Nat
  l : Nat
  d : Nat
  b : Nat
  n : Nat
  L : Led
def PD.I (q : PD) (w : World) : Prop := PairI w q.p q.l q.d q.b q.n q.L
def IsPtr (v : Value) : Prop := ∃ x, v = .pointer x
def ptrs (qs : List PD) : List Value := qs.map fun q => Value.pointer (some ⟨q.p, 0, none⟩)

/-- Pairs beside one another: the world's block, its row of pointers, each pair. -/
structure WI (B : Nat) (w : World) (wb : Nat) (v : Value) (qs : List PD) : Prop where
  box : w.heap[wb]? = some (.cells #[v] 53 (0, 0))
  row : w.ownsRow B 67 1 v qs.length (ptrs qs)
  all : ∀ g, v.ownBlock = some g → AllC IsPtr w g
  each : ∀ q ∈ qs, q.I w
  ps : qs.Pairwise fun a b => a.p ≠ b.p
  ls : qs.Pairwise fun a b => a.l ≠ b.l
  far : B ≤ wb ∧ ∀ q ∈ qs, B ≤ q.p ∧ B ≤ q.l

variable {B : Nat} {w w' : World} {wb : Nat} {v : Value} {qs : List PD}

theorem PairI.below {p l d b n : Nat} {L : Led} (h : PairI w p l d b n L) (hb : Below w.heap.size w w') : PairI w' p l d b n L := ⟨h.pair.below hb, h.disk.below hb, h.led.below hb, h.inv, h.bk.below hb, h.n1⟩
theorem AllC.block {C : Value → Prop} {g : Nat} (h : AllC C w g) (e : w'.heap[g]? = w.heap[g]?) : AllC C w' g := fun o v hv => h o v (by rw [← World.cell?_of_block (a := ⟨g, o, none⟩) e]; exact hv)
theorem WI.lt (h : WI B w wb v qs) : wb < w.heap.size := (Array.getElem?_eq_some_iff.1 h.box).1
theorem WI.below (h : WI B w wb v qs) (hb : Below w.heap.size w w') : WI B w' wb v qs :=
  ⟨(hb.block wb h.lt).trans h.box, ownsRow_block h.row (fun g hg => hb.block g (h.row.lt g hg).2), fun g hg => (h.all g hg).block (hb.block g (h.row.lt g hg).2), fun q hq => (h.each q hq).below hb, h.ps, h.ls, h.far⟩
theorem LedgerAt.keepsX {S : Nat → Prop} {l lim : Nat} {L : Led} (h : LedgerAt w l L lim) (ha : ∀ g, S g → NoNodeS w g) (hne : ¬ S l) (hk : Keeps S w w') : LedgerAt w' l L lim := by
  obtain ⟨⟨r, n₀, h3, h4⟩, h5, h6, h7⟩ := h
  refine ⟨⟨r, n₀, keeps_same hk hne h3, h4.keptS (X := S) hk.size (fun g o u hg hc => ?_) ha⟩, h5, h6, h7⟩
  rw [hk.cell (p := ⟨g, o, none⟩) (World.block_lt_of_cell? w ⟨g, o, none⟩ hc) hg]
  exact hc
theorem BkX.keepsX {S : Nat → Prop} {b : Nat} {L : Led} (h : BkX 0 w b L) (hS : ∀ g, S g → ∃ x, w.cell? ⟨g, 0, none⟩ = some (.pointer x)) (hk : Keeps S w w') : BkX 0 w' b L := by
  obtain ⟨vt, vp, k, hf⟩ := h
  refine ⟨vt, vp, k, hf.bk.keeps hk (fun g hg hs => ?_), hf.sim, hf.nt, hf.np, hf.fb, hf.ft, hf.fp⟩
  obtain ⟨x, hx⟩ := hS g hs
  exact hf.ne hx g hg rfl
/-- A pair is kept where blocks turn that begin with a pointer, are no nodes, and none of its own. -/
theorem PairI.keepsX {S : Nat → Prop} {p l d b n : Nat} {L : Led} (h : PairI w p l d b n L) (hS : ∀ g, S g → NoNodeS w g ∧ ∃ x, w.cell? ⟨g, 0, none⟩ = some (.pointer x)) (hp : ¬ S p) (hl : ¬ S l) (hd : ¬ S d) (hk : Keeps S w w') : PairI w' p l d b n L :=
  ⟨h.pair.keeps hk hp, h.disk.keeps hk hd, h.led.keepsX (fun g hg => (hS g hg).1) hl hk, h.inv, h.bk.keepsX (fun g hg => (hS g hg).2) hk, h.n1⟩

theorem LedgerAt.tag {l lim : Nat} {L : Led} (h : LedgerAt w l L lim) : ∃ c, w.heap[l]? = some (.cells c 108 (0, 0)) := by
  obtain ⟨⟨r, n₀, hb, _⟩, _⟩ := h
  exact ⟨_, hb⟩
theorem tag_ne {x y : Nat} {c c' : Array Value} {t t' : TypeId} (h : w.heap[x]? = some (.cells c t (0, 0))) (h' : w.heap[y]? = some (.cells c' t' (0, 0))) (ht : t ≠ t') : ¬ x = y := by
  rintro rfl
  rw [h] at h'
  injection h' with h'
  injection h' with _ e _
  exact ht e
theorem WI.row_tag (h : WI B w wb v qs) {g : Nat} (hg : v.ownBlock = some g) : ∃ c, w.heap[g]? = some (.cells c 67 (0, 0)) := by
  rcases h.row.2 with ⟨rfl, _⟩ | ⟨g', cap, cur, rfl, _, hh, _⟩
  · simp [Value.ownBlock] at hg
  · have : g' = g := by simpa [Value.ownBlock] using hg
    subst this
    exact ⟨cur, hh⟩

/-- One pair has gone on. -/
theorem WI.turn (h : WI B w wb v qs) {i : Nat} (hi : i < qs.length) {q' : PD} (hq : q'.p = qs[i].p ∧ q'.l = qs[i].l) (hI : q'.I w') (hk : Keeps (fun g => g = qs[i].l ∨ g = qs[i].p) w w') : WI B w' wb v (qs.set i q') := by
  have hqi := h.each _ (List.getElem_mem hi)
  obtain ⟨cl, tl⟩ := hqi.led.tag
  have tp : w.heap[qs[i].p]? = _ := hqi.pair
  have hS : ∀ g, (g = qs[i].l ∨ g = qs[i].p) → NoNodeS w g ∧ ∃ x, w.cell? ⟨g, 0, none⟩ = some (.pointer x) := by
    rintro g (rfl | rfl)
    · exact ⟨hqi.led.noNode, hqi.led.c0⟩
    · exact ⟨hqi.pair.noNode, _, hqi.pair.c0⟩
  have hwb : ¬ (wb = qs[i].l ∨ wb = qs[i].p) := by
    rintro (e | e)
    · exact tag_ne h.box tl (by decide) e
    · exact tag_ne h.box tp (by decide) e
  have hrow : ∀ g, v.ownBlock = some g → ¬ (g = qs[i].l ∨ g = qs[i].p) := by
    intro g hg
    obtain ⟨cr, tr⟩ := h.row_tag hg
    rintro (e | e)
    · exact tag_ne tr tl (by decide) e
    · exact tag_ne tr tp (by decide) e
  have hlen : (qs.set i q').length = qs.length := List.length_set ..
  have hptr : ptrs (qs.set i q') = ptrs qs := by
    unfold ptrs
    rw [List.map_set, hq.1]
    apply List.ext_getElem
    · simp
    · intro j h1 h2
      rw [List.getElem_set]
      split
      · next e => subst e; simp
      · rfl
  refine ⟨(hk.block wb h.lt hwb).trans h.box, ?_, fun g hg => (h.all g hg).block (hk.block g (h.row.lt g hg).2 (hrow g hg)), ?_, ?_, ?_, ⟨h.far.1, ?_⟩⟩
  · rw [hlen, hptr]; exact ownsRow_block h.row (fun g hg => hk.block g (h.row.lt g hg).2 (hrow g hg))
  · intro q hq2
    obtain ⟨j, hj, rfl⟩ := List.getElem_of_mem hq2
    rw [hlen] at hj
    rw [List.getElem_set]
    split
    · exact hI
    · next hne =>
      have hqj := h.each _ (List.getElem_mem hj)
      have tpj : w.heap[qs[j].p]? = _ := hqj.pair
      obtain ⟨clj, tlj⟩ := hqj.led.tag
      obtain ⟨gd, tdj⟩ := hqj.disk
      have hpp : qs[j].p ≠ qs[i].p := by
        rcases Nat.lt_or_gt_of_ne hne with h1 | h1
        · exact fun e => List.pairwise_iff_getElem.1 h.ps i j hi hj h1 e.symm
        · exact List.pairwise_iff_getElem.1 h.ps j i hj hi h1
      have hll : qs[j].l ≠ qs[i].l := by
        rcases Nat.lt_or_gt_of_ne hne with h1 | h1
        · exact fun e => List.pairwise_iff_getElem.1 h.ls i j hi hj h1 e.symm
        · exact List.pairwise_iff_getElem.1 h.ls j i hj hi h1
      refine hqj.keepsX hS ?_ ?_ ?_ hk
      · rintro (e | e)
        · exact tag_ne tpj tl (by decide) e
        · exact hpp e
      · rintro (e | e)
        · exact hll e
        · exact tag_ne tlj tp (by decide) e
      · rintro (e | e)
        · exact tag_ne tdj tl (by decide) e
        · exact tag_ne tdj tp (by decide) e
  · refine List.pairwise_iff_getElem.2 (fun a c ha hc hac => ?_)
    rw [hlen] at ha hc
    have := List.pairwise_iff_getElem.1 h.ps a c ha hc hac
    rw [List.getElem_set, List.getElem_set]
    split <;> split <;> simp_all
  · refine List.pairwise_iff_getElem.2 (fun a c ha hc hac => ?_)
    rw [hlen] at ha hc
    have := List.pairwise_iff_getElem.1 h.ls a c ha hc hac
    rw [List.getElem_set, List.getElem_set]
    split <;> split <;> simp_all
  · intro q hq2
    obtain ⟨j, hj, rfl⟩ := List.getElem_of_mem hq2
    rw [hlen] at hj
    rw [List.getElem_set]
    split
    · rw [hq.1, hq.2]; exact h.far.2 _ (List.getElem_mem hi)
    · exact h.far.2 _ (List.getElem_mem hj)

end Go.Proofs.YtbpnllhhmookcaaGreatDoor

/- What keeps a tree, once more: a block whose slice leads to no keys is no node. -/
namespace Go.Proofs.YtbpnllhhmookcaaGreatDoor
open Go.RowKit Go.Shelf

def NoNodeT (W : World) (g : Nat) : Prop := (∀ a l c, W.cell? ⟨g, 0, none⟩ = some (.slice (some a) l c) → ∀ o k, W.cell? ⟨a.block, o, none⟩ ≠ some (.int .u32 k)) ∧ (∀ o k, W.cell? ⟨g, o, none⟩ ≠ some (.int .u32 k))
theorem NoNodeS.t {W : World} {g : Nat} (h : NoNodeS W g) : NoNodeT W g := ⟨fun a l c e => absurd e (h.1 a l c), h.2⟩
theorem EntsAt.keptT {n₀ : Nat} {A B : World} {X : Nat → Prop} (hs : A.heap.size ≤ B.heap.size) (hk : ∀ g o v, ¬ X g → A.cell? ⟨g, o, none⟩ = some v → B.cell? ⟨g, o, none⟩ = some v) (hx : ∀ g, X g → NoNodeT A g) {v : Value} {es : List Ent} (h : EntsAt n₀ A v es) (hne : es ≠ []) : EntsAt n₀ B v es := by
  obtain ⟨g, o, cap, rfl, h1, h2, h3, h4, h5⟩ := h
  have hX : ¬ X g := fun h => (hx g h).2 _ _ (h5 0 (List.length_pos_iff.2 hne)).1
  exact ⟨g, o, cap, rfl, h1, h2, by omega, h4, fun i hi => ⟨hk _ _ _ hX (h5 i hi).1, hk _ _ _ hX (h5 i hi).2.1, hk _ _ _ hX (h5 i hi).2.2⟩⟩
theorem ents_no {n₀ : Nat} {A : World} {X : Nat → Prop} (hx : ∀ g, X g → NoNodeT A g) {b : Nat} {v : Value} {es : List Ent} (h2 : A.cell? ⟨b, 0, none⟩ = some v) (h3 : EntsAt n₀ A v es) (hne : es ≠ []) : ¬ X b := by
  intro hX
  obtain ⟨g, o, cap, rfl, _, _, _, _, h5⟩ := h3
  exact (hx b hX).1 _ _ _ h2 _ _ (h5 0 (List.length_pos_iff.2 hne)).1
theorem NodeAt.keptT {n₀ : Nat} {A B : World} {X : Nat → Prop} (hs : A.heap.size ≤ B.heap.size) (hk : ∀ g o v, ¬ X g → A.cell? ⟨g, o, none⟩ = some v → B.cell? ⟨g, o, none⟩ = some v) (hx : ∀ g, X g → NoNodeT A g) : ∀ {h b : Nat} {l : List KV}, NodeAt n₀ A h b l → NodeAt n₀ B h b l
  | 0, b, l, ⟨h1, v, es, h2, h3, h4, h5⟩ => ⟨h1, _, es, hk _ _ _ (ents_no hx h2 h3 h4) h2, h3.keptT hs hk hx h4, h4, h5⟩
  | h + 1, b, l, ⟨h1, v, es, ls, h2, h3, h4, h5, h6, h7⟩ => by
    refine ⟨h1, _, es, ls, hk _ _ _ (ents_no hx h2 h3 h4) h2, h3.keptT hs hk hx h4, h4, h5, h6, fun i hi hj => ?_⟩
    obtain ⟨c, c1, c2, c3⟩ := h7 i hi hj
    exact ⟨c, c1, NodeAt.keptT hs hk hx c2, c3⟩
theorem TreeIs.keptT {n₀ : Nat} {A B : World} {X : Nat → Prop} (hs : A.heap.size ≤ B.heap.size) (hk : ∀ g o v, ¬ X g → A.cell? ⟨g, o, none⟩ = some v → B.cell? ⟨g, o, none⟩ = some v) (hx : ∀ g, X g → NoNodeT A g) {r : Option Addr} {l : List KV} (h : TreeIs n₀ A r l) : TreeIs n₀ B r l := by
  refine ⟨h.1, by have := h.2.1; omega, ?_⟩
  rcases h.2.2 with h0 | ⟨ht, b, e, hn⟩
  · exact .inl h0
  · exact .inr ⟨ht, b, e, hn.keptT hs hk hx⟩
theorem LedgerAt.keepsT {w w' : World} {S : Nat → Prop} {l lim : Nat} {L : Led} (h : LedgerAt w l L lim) (ha : ∀ g, S g → NoNodeT w g) (hne : ¬ S l) (hk : Keeps S w w') : LedgerAt w' l L lim := by
  obtain ⟨⟨r, n₀, h3, h4⟩, h5, h6, h7⟩ := h
  refine ⟨⟨r, n₀, keeps_same hk hne h3, h4.keptT (X := S) hk.size (fun g o u hg hc => ?_) ha⟩, h5, h6, h7⟩
  rw [hk.cell (p := ⟨g, o, none⟩) (World.block_lt_of_cell? w ⟨g, o, none⟩ hc) hg]
  exact hc
theorem BkF.own0 {B b : Nat} {w : World} {vt vp : Value} {L : Led} {k : Bk} (h : BkF B w b vt vp L k) : ∀ g, bkOwn b vt vp g → ∃ z, w.cell? ⟨g, 0, none⟩ = some (.int .i64 z) := by
  rintro g (rfl | hg | hg)
  · exact ⟨_, h.bk.side 0 (by omega)⟩
  · by_cases he : k.tubes = []
    · rw [h.nt he] at hg; simp [Value.ownBlock] at hg
    · obtain ⟨oa, cap, rfl, hform⟩ := h.bk.tubes.form
      obtain ⟨g', e, _, _, _, t0, _⟩ := h.bk.tube (m := 0) (List.length_pos_iff.2 he)
      subst e
      have : g' = g := by simpa [Value.ownBlock] using hg
      subst this
      rw [Nat.zero_mul] at t0
      exact ⟨_, t0⟩
  · by_cases he : k.poured = []
    · rw [h.np he] at hg; simp [Value.ownBlock] at hg
    · obtain ⟨oa, cap, rfl, hform⟩ := h.bk.poured.form
      obtain ⟨g', e, _, _, _, t0, _⟩ := hform 0 (List.length_pos_iff.2 he)
      subst e
      have : g' = g := by simpa [Value.ownBlock] using hg
      subst this
      have t0 := t0 0 (by omega)
      rw [Nat.zero_mul] at t0
      exact ⟨_, t0⟩
theorem BkX.keepsT {w w' : World} {S : Nat → Prop} {b : Nat} {L : Led} (h : BkX 0 w b L) (hS : ∀ g, S g → ∀ z, w.cell? ⟨g, 0, none⟩ ≠ some (.int .i64 z)) (hk : Keeps S w w') : BkX 0 w' b L := by
  obtain ⟨vt, vp, k, hf⟩ := h
  refine ⟨vt, vp, k, hf.bk.keeps hk (fun g hg hs => ?_), hf.sim, hf.nt, hf.np, hf.fb, hf.ft, hf.fp⟩
  obtain ⟨z, hz⟩ := hf.own0 g hg
  exact hS g hs z hz
theorem PairI.keepsT {w w' : World} {S : Nat → Prop} {p l d b n : Nat} {L : Led} (h : PairI w p l d b n L) (hS : ∀ g, S g → NoNodeT w g ∧ ∀ z, w.cell? ⟨g, 0, none⟩ ≠ some (.int .i64 z)) (hp : ¬ S p) (hl : ¬ S l) (hd : ¬ S d) (hk : Keeps S w w') : PairI w' p l d b n L :=
  ⟨h.pair.keeps hk hp, h.disk.keeps hk hd, h.led.keepsT (fun g hg => (hS g hg).1) hl hk, h.inv, h.bk.keepsT (fun g hg => (hS g hg).2) hk, h.n1⟩

variable {B : Nat} {w w' : World} {wb : Nat} {v : Value} {qs : List PD}
theorem AllC.noNode {g : Nat} (h : AllC IsPtr w g) : NoNodeT w g ∧ ∀ z, w.cell? ⟨g, 0, none⟩ ≠ some (.int .i64 z) := by
  refine ⟨⟨fun a l c e => ?_, fun o k e => ?_⟩, fun z e => ?_⟩
  · obtain ⟨x, hx⟩ := h _ _ e; cases hx
  · obtain ⟨x, hx⟩ := h _ _ e; cases hx
  · obtain ⟨x, hx⟩ := h _ _ e; cases hx
theorem WI.cell (h : WI B w wb v qs) : w.cell? ⟨wb, 0, none⟩ = some v := by simp only [World.cell?, h.box]; rfl
theorem WI.fz (h : WI B w wb v qs) : w.frozen? ⟨wb, 0, none⟩ = false := by simp [World.frozen?, h.box]
theorem WI.noNode (h : WI B w wb v qs) : NoNodeT w wb ∧ ∀ z, w.cell? ⟨wb, 0, none⟩ ≠ some (.int .i64 z) := by
  have hv : (v = .slice none 0 0) ∨ ∃ g n c, v = .slice (some ⟨g, 0, none⟩) n c := by
    rcases h.row.2 with ⟨hv, _⟩ | ⟨g, cap, cur, hv, _⟩
    · exact .inl hv
    · exact .inr ⟨g, _, cap, hv⟩
  refine ⟨⟨fun a l c e => ?_, fun o k e => ?_⟩, fun z e => ?_⟩
  · rw [h.cell] at e
    injection e with e
    have hg : v.ownBlock = some a.block := by
      rcases hv with hv | ⟨g, n, c', hv⟩
      · rw [hv] at e; cases e
      · rw [hv] at e ⊢; cases e; rfl
    exact (h.all _ hg).noNode.1.2
  · simp only [World.cell?, h.box] at e
    match o, e with
    | 0, e =>
      injection e with e
      have e : v = Value.int .u32 k := e
      rcases hv with hv | ⟨g, n, c', hv⟩
      · rw [hv] at e; cases e
      · rw [hv] at e; cases e
    | o + 1, e => simp at e
  · rw [h.cell] at e
    injection e with e
    rcases hv with hv | ⟨g, n, c', hv⟩
    · rw [hv] at e; cases e
    · rw [hv] at e; cases e

/-- One pair more. -/
theorem WI.more (h : WI B w wb v qs) {q : PD} (hq : q.I w) (hn : ∀ x ∈ qs, x.p ≠ q.p ∧ x.l ≠ q.l) (hf : B ≤ q.p ∧ B ≤ q.l) {v7 : Value} {w7 : World} (ho : w7.ownsRow B 67 1 v7 (qs.length + 1) (ptrs qs ++ [.pointer (some ⟨q.p, 0, none⟩)])) (hg : w.grownBy w7 v.ownBlock) (ha : ∀ g, v7.ownBlock = some g → AllC IsPtr w7 g) :
    WI B (w7.setCell ⟨wb, 0, none⟩ v7) wb v7 (qs ++ [q]) := by
  have hk7 : Keeps (fun g => v.ownBlock = some g) w w7 := (Keeps.refl _ w).grown hg (fun k e => .inl e)
  have hrow : ∀ g, v.ownBlock = some g → ∃ c, w.heap[g]? = some (.cells c 67 (0, 0)) := fun g e => h.row_tag e
  have hwb : ¬ v.ownBlock = some wb := fun e => by
    obtain ⟨c, t⟩ := hrow wb e
    exact tag_ne t h.box (by decide) rfl
  have hbox7 : w7.heap[wb]? = some (.cells #[v] 53 (0, 0)) := (hk7.block wb h.lt hwb).trans h.box
  have hk8 : Keeps (fun x => v.ownBlock = some x ∨ x = wb) w (w7.setCell ⟨wb, 0, none⟩ v7) := (hk7.mono (fun g _ e => .inl e)).set1 (.inr rfl) _ _
  have hS : ∀ g, (v.ownBlock = some g ∨ g = wb) → NoNodeT w g ∧ ∀ z, w.cell? ⟨g, 0, none⟩ ≠ some (.int .i64 z) := by
    rintro g (e | rfl)
    · exact (h.all g e).noNode
    · exact h.noNode
  have hI8 : ∀ x : PD, x.I w → x.I (w7.setCell ⟨wb, 0, none⟩ v7) := by
    intro x hx
    have tp : w.heap[x.p]? = _ := hx.pair
    obtain ⟨cl, tl⟩ := hx.led.tag
    obtain ⟨gd, td⟩ := hx.disk
    refine PairI.keepsT hx hS ?_ ?_ ?_ hk8
    · rintro (e | e)
      · obtain ⟨c, t⟩ := hrow _ e; exact tag_ne t tp (by decide) rfl
      · exact tag_ne tp h.box (by decide) e
    · rintro (e | e)
      · obtain ⟨c, t⟩ := hrow _ e; exact tag_ne t tl (by decide) rfl
      · exact tag_ne tl h.box (by decide) e
    · rintro (e | e)
      · obtain ⟨c, t⟩ := hrow _ e; exact tag_ne t td (by decide) rfl
      · exact tag_ne td h.box (by decide) e
  have hg7 : ∀ g, v7.ownBlock = some g → ¬ g = wb := by
    intro g e
    rcases ho.2 with ⟨hv, _⟩ | ⟨g', cap, cur, hv, _, hh, _⟩
    · rw [hv] at e; simp [Value.ownBlock] at e
    · have : g' = g := by rw [hv] at e; simpa [Value.ownBlock] using e
      subst this
      exact tag_ne hh hbox7 (by decide)
  have hks : Keeps (fun x => x = wb) w7 (w7.setCell ⟨wb, 0, none⟩ v7) := (Keeps.refl (fun x => x = wb) w7).set1 rfl _ _
  refine ⟨heap_setCell_same w7 wb 0 _ _ _ hbox7, ?_, fun g e => (ha g e).block (hks.block g (ho.lt g e).2 (hg7 g e)), ?_, ?_, ?_, ⟨h.far.1, ?_⟩⟩
  · rw [List.length_append]
    have : ptrs (qs ++ [q]) = ptrs qs ++ [.pointer (some ⟨q.p, 0, none⟩)] := by simp [ptrs]
    rw [this]
    exact ownsRow_block ho (fun g e => hks.block g (ho.lt g e).2 (hg7 g e))
  · intro x hx
    rcases List.mem_append.1 hx with hx | hx
    · exact hI8 x (h.each x hx)
    · rw [List.mem_singleton.1 hx]; exact hI8 q hq
  · exact List.pairwise_append.2 ⟨h.ps, List.pairwise_singleton _ _, fun a ha c hc => by rw [List.mem_singleton.1 hc]; exact (hn a ha).1⟩
  · exact List.pairwise_append.2 ⟨h.ls, List.pairwise_singleton _ _, fun a ha c hc => by rw [List.mem_singleton.1 hc]; exact (hn a ha).2⟩
  · intro x hx
    rcases List.mem_append.1 hx with hx | hx
    · exact h.far.2 x hx
    · rw [List.mem_singleton.1 hx]; exact hf

/-- Blocks of other kinds than those that pairs are made of are kept. -/
def TagK (w w' : World) : Prop := ∀ (g : Nat) (c : Array Value) (t : TypeId), w.heap[g]? = some (.cells c t (0, 0)) → t ≠ 108 → t ≠ 66 → t ≠ 67 → t ≠ 53 → w'.heap[g]? = w.heap[g]?
theorem TagK.refl (w : World) : TagK w w := fun _ _ _ _ _ _ _ _ => rfl
theorem TagK.trans {a b c : World} (h : TagK a b) (k : TagK b c) : TagK a c := fun g x t hg h1 h2 h3 h4 => (k g x t ((h g x t hg h1 h2 h3 h4).trans hg) h1 h2 h3 h4).trans (h g x t hg h1 h2 h3 h4)
theorem TagK.below {a b : World} (h : Below a.heap.size a b) : TagK a b := fun g _ _ hg _ _ _ _ => h.block g (Array.getElem?_eq_some_iff.1 hg).1
theorem TagK.keeps {S : Nat → Prop} {a b : World} (h : Keeps S a b) (hS : ∀ g, S g → ∃ c t, a.heap[g]? = some (.cells c t (0, 0)) ∧ (t = 108 ∨ t = 66 ∨ t = 67 ∨ t = 53)) : TagK a b := by
  intro g c t hg h1 h2 h3 h4
  refine h.block g (Array.getElem?_eq_some_iff.1 hg).1 (fun hs => ?_)
  obtain ⟨c', t', hg', ht⟩ := hS g hs
  rw [hg] at hg'
  injection hg' with hg'
  injection hg' with _ e _
  subst e
  rcases ht with rfl | rfl | rfl | rfl
  · exact h1 rfl
  · exact h2 rfl
  · exact h3 rfl
  · exact h4 rfl
theorem WI.tagTurn (h : WI B w wb v qs) {i : Nat} (hi : i < qs.length) (hk : Keeps (fun g => g = qs[i].l ∨ g = qs[i].p) w w') : TagK w w' := by
  refine TagK.keeps hk ?_
  rintro g (rfl | rfl)
  · obtain ⟨c, t⟩ := (h.each _ (List.getElem_mem hi)).led.tag
    exact ⟨c, _, t, .inl rfl⟩
  · exact ⟨_, _, (h.each _ (List.getElem_mem hi)).pair, .inr (.inl rfl)⟩
theorem WI.tagMore (h : WI B w wb v qs) {w7 : World} {v7 : Value} (hg : w.grownBy w7 v.ownBlock) : TagK w (w7.setCell ⟨wb, 0, none⟩ v7) := by
  have hk7 : Keeps (fun g => v.ownBlock = some g) w w7 := (Keeps.refl _ w).grown hg (fun k e => .inl e)
  have hk8 : Keeps (fun x => v.ownBlock = some x ∨ x = wb) w (w7.setCell ⟨wb, 0, none⟩ v7) := (hk7.mono (fun g _ e => .inl e)).set1 (.inr rfl) _ _
  refine TagK.keeps hk8 ?_
  rintro g (e | rfl)
  · obtain ⟨c, t⟩ := h.row_tag e
    exact ⟨c, _, t, .inr (.inr (.inl rfl))⟩
  · exact ⟨_, _, h.box, .inr (.inr (.inr rfl))⟩

end Go.Proofs.YtbpnllhhmookcaaGreatDoor

/- firnlaw: begins: a ledger more, or an image of a wrong size. -/
namespace Go.Proofs.YtbpnllhhmookcaaGreatDoor
open Go.RowKit Go.Shelf

theorem Tryz.infoPairP : (Tryz.prog.info? 67).map (fun i => (i.zero, i.size, i.bytes)) = some (some (.pointer none), 1, 8) := by kernel_rfl
theorem WI.grown_box {B : Nat} {w w7 : World} {wb : Nat} {v : Value} {qs : List PD} (h : WI B w wb v qs) (hg : w.grownBy w7 v.ownBlock) : w7.cell? ⟨wb, 0, none⟩ = some v ∧ w7.frozen? ⟨wb, 0, none⟩ = false := by
  have hk7 : Keeps (fun g => v.ownBlock = some g) w w7 := (Keeps.refl _ w).grown hg (fun k e => .inl e)
  have hwb : ¬ v.ownBlock = some wb := fun e => by
    obtain ⟨c, t⟩ := h.row_tag e
    exact tag_ne t h.box (by decide) rfl
  exact ⟨(hk7.cell (p := ⟨wb, 0, none⟩) h.lt hwb).trans h.cell, (hk7.frozen (p := ⟨wb, 0, none⟩) h.lt hwb).trans h.fz⟩
theorem one_cell (w : World) (x : Value) (t : TypeId) : ∀ j u, [x][j]? = some u → (w.alloc (.cells #[x] t)).cell? ((⟨w.heap.size, 0, none⟩ : Addr).add j) = some u := by
  intro j u hj
  match j, hj with
  | 0, hj => simp at hj; subst hj; simp [Addr.add]

set_option maxRecDepth 8000 in
set_option maxHeartbeats 4000000 in
theorem begins_any (B wb : Nat) (v : Value) (qs : List PD) (c : Int) (z : Nat) (hz : z < 300) (HPk : Hid (∀ u, Calls Tryz.prog 24 #[.int .i64 c, .int .i64 300] u fun e w' => e = .returned (.int .i64 z) ∧ w' = u)) (w : World) (h : WI B w wb v qs) (hB : B ≤ w.heap.size) (hl : qs.length ≤ 1000) :
    Calls Tryz.prog 18 #[.pointer (some ⟨wb, 0, none⟩), .int .i64 c] w fun e w' => e = .returned (.bool true) ∧ ∃ v' qs', WI B w' wb v' qs' ∧ qs'.length ≤ qs.length + 1 ∧ qs.length ≤ qs'.length ∧ (16 ≤ z ∧ z ≤ 256 → qs'.length = qs.length + 1) ∧ Keeps (fun g => B ≤ g) w w' ∧ TagK w w' := by
  obtain ⟨i0, hi, hz0, hz1, hz2⟩ := info_parts Tryz.infoByte
  have H := hid h
  have hzi : (z : Int) < 300 := by omega
  clear h
  go_enter Tryz.func18, Tryz.ntmps18
  go_wp2_with fail
  refine (HPk.out _).mono ?_
  clear HPk
  rintro e w1 ⟨rfl, rfl⟩
  have HMk := hid (show ∀ (w2 : World), w2.ownsRow w1.heap.size 5 1 (.slice (some ⟨w1.heap.size, 0, none⟩) (z * 128) (z * 128)) (z * 128) (madeCells (Value.cells (.int .u8 0)) (z * 128 * 1)).toList → w1.grownBy w2 none → ∃ s : ByteArray, s.size = z * 128 ∧ allZ s ∧ Below w1.heap.size w1 (w2.alloc (.cells #[.slice (some ⟨w1.heap.size, 0, none⟩) (z * 128) (z * 128)] 77)) ∧ (∀ j, j < z * 128 → (w2.alloc (.cells #[.slice (some ⟨w1.heap.size, 0, none⟩) (z * 128) (z * 128)] 77)).cell? ⟨w1.heap.size, j, none⟩ = some (.int .u8 0)) ∧ w1.heap.size ≤ w2.heap.size ∧ (convert 68 9 (.slice (some ⟨w1.heap.size, 0, none⟩) (z * 128) (z * 128))).run Tryz.prog (w2.alloc (.cells #[.slice (some ⟨w1.heap.size, 0, none⟩) (z * 128) (z * 128)] 77)) = .ok (.string s) (w2.alloc (.cells #[.slice (some ⟨w1.heap.size, 0, none⟩) (z * 128) (z * 128)] 77)) from by
    intro w2 hown hgrow
    obtain ⟨hg, hc⟩ := made_zero hown
    have hb2 : Below w1.heap.size w1 w2 := Below.grown (Below.refl _ _) hgrow (Nat.le_refl _) (fun k hk => by cases hk)
    have hba : Below w2.heap.size w2 (w2.alloc (.cells #[.slice (some ⟨w1.heap.size, 0, none⟩) (z * 128) (z * 128)] 77)) := (Below.refl _ w2).alloc (Nat.le_refl _) _
    have hc' : ∀ j, j < z * 128 → (w2.alloc (.cells #[.slice (some ⟨w1.heap.size, 0, none⟩) (z * 128) (z * 128)] 77)).cell? ⟨w1.heap.size, j, none⟩ = some (.int .u8 0) := fun j hj => (hba.cell (p := ⟨w1.heap.size, j, none⟩) hg).trans (hc j hj)
    obtain ⟨s, hs, hz, hconv⟩ := conv_zero _ w1.heap.size (z * 128) hc'
    exact ⟨s, hs, hz, hb2.trans (hba.mono hb2.size), hc', hb2.size, hconv⟩)
  by_cases hb1 : z < 16
  · have hbi : (z : Int) < 16 := by omega
    go_wp2_with (at_make; refine wpList_make_full _ rfl _ _ 68 rfl w1.heap.size 5 i0 (.int .u8 0) 1 Tryz.underlying68 hi hz0 hz1 .i64 .i64 _ _ (z * 128) rfl rfl rfl rfl (by rw [hz2]; omega) (by unfold maxLen; omega) (by simp) ?_; intro w2 hown2 hgrow2; obtain ⟨s, hs, hzz, hbD, hcD, hszD, hconv⟩ := HMk.out w2 hown2 hgrow2; clear hown2 hgrow2)
    refine (open_bad z (.inl hb1) (by omega) s hs _).mono ?_
    rintro e w3 ⟨rfl, rfl⟩
    have HE := hid (And.intro (H.out.below hbD) (And.intro (below_toKeeps hbD (fun g => B ≤ g)) (TagK.below hbD)))
    clear hbD hcD hconv H
    go_wp2
    go_ret
    exact ⟨rfl, v, qs, HE.out.1, by omega, by omega, fun h => by omega, HE.out.2.1, HE.out.2.2⟩
  by_cases hb2 : 256 < z
  · have hbi : ¬ (z : Int) < 16 := by omega
    have hbj : (256 : Int) < (z : Int) := by omega
    go_wp2_with (at_make; refine wpList_make_full _ rfl _ _ 68 rfl w1.heap.size 5 i0 (.int .u8 0) 1 Tryz.underlying68 hi hz0 hz1 .i64 .i64 _ _ (z * 128) rfl rfl rfl rfl (by rw [hz2]; omega) (by unfold maxLen; omega) (by simp) ?_; intro w2 hown2 hgrow2; obtain ⟨s, hs, hzz, hbD, hcD, hszD, hconv⟩ := HMk.out w2 hown2 hgrow2; clear hown2 hgrow2)
    refine (open_bad z (.inr hb2) (by omega) s hs _).mono ?_
    rintro e w3 ⟨rfl, rfl⟩
    have HE := hid (And.intro (H.out.below hbD) (And.intro (below_toKeeps hbD (fun g => B ≤ g)) (TagK.below hbD)))
    clear hbD hcD hconv H
    go_wp2
    go_ret
    exact ⟨rfl, v, qs, HE.out.1, by omega, by omega, fun h => by omega, HE.out.2.1, HE.out.2.2⟩
  have hbi : ¬ (z : Int) < 16 := by omega
  have hbj : ¬ (256 : Int) < (z : Int) := by omega
  go_wp2_with (at_make; refine wpList_make_full _ rfl _ _ 68 rfl w1.heap.size 5 i0 (.int .u8 0) 1 Tryz.underlying68 hi hz0 hz1 .i64 .i64 _ _ (z * 128) rfl rfl rfl rfl (by rw [hz2]; omega) (by unfold maxLen; omega) (by simp) ?_; intro w2 hown2 hgrow2; obtain ⟨s, hs, hzz, hbD, hcD, hszD, hconv⟩ := HMk.out w2 hown2 hgrow2; clear hown2 hgrow2)
  refine (opens_any _ _ z _ (heap_alloc_new w2 _) hcD ⟨by omega, by omega⟩).mono ?_
  rintro e w3 ⟨l, rfl, hL3, hl3, hb3⟩
  have hd3 : w2.heap.size < (w2.alloc (.cells #[.slice (some ⟨w1.heap.size, 0, none⟩) (z * 128) (z * 128)] 77)).heap.size := by simp
  have hdk : w3.heap[w2.heap.size]? = some (.cells #[.slice (some ⟨w1.heap.size, 0, none⟩) (z * 128) (z * 128)] 77 (0, 0)) := (hb3.block w2.heap.size hd3).trans (heap_alloc_new w2 _)
  have hB3 : Below w1.heap.size w1 w3 := hbD.trans (hb3.mono hbD.size)
  have hW3 := H.out.below hB3
  have wc : w3.cell? ⟨wb, 0, none⟩ = some v := by simp only [World.cell?, hW3.box]; rfl
  have wf : w3.frozen? ⟨wb, 0, none⟩ = false := by simp [World.frozen?, hW3.box]
  have hl1 : w1.heap.size ≤ l := by omega
  have HX := hid (And.intro hL3 (And.intro hdk (And.intro hB3 (And.intro hW3 hl1))))
  have HLt := hid (fun x (hx : x ∈ qs) => (H.out.each x hx).led.lt)
  clear hd3 hbD hcD hconv hb3 H hL3 hl3 hdk hB3 hW3 hzz hs HMk hl1
  generalize w2.heap.size = db at *
  obtain ⟨ip, hip, hp0, hp1, hp2⟩ := info_parts Tryz.infoPairP
  have hA3 := HX.out.2.2.2.1
  have hb4 : Below w3.heap.size w3 (((w3.alloc (.cells #[.int .i64 0, .int .i64 0, .int .i64 0, .int .i64 0, .int .i64 0, .int .i64 0, .int .i64 0, .int .i64 0, .int .i64 0, .int .i64 0, .slice none 0 0, .slice none 0 0] 85)).alloc (.cells #[.pointer (some ⟨l, 0, none⟩), .pointer (some ⟨db, 0, none⟩), .pointer (some ⟨w3.heap.size, 0, none⟩)] 66)).alloc (.cells #[.pointer (some ⟨w3.heap.size + 1, 0, none⟩)] 67)) := (((Below.refl _ w3).alloc (Nat.le_refl _) _).alloc (by simp) _).alloc (by simp; omega) _
  have hW6 := hA3.below hb4
  have HW6 := hid hW6
  have HB4 := hid hb4
  have wr6 := hW6.row
  have HAl := hid hW6.all
  have hB3s := HX.out.2.2.1.size
  clear hA3 hb4 hW6
  go_wp2_with (at_builtin; refine wpList_append_all (C := IsPtr) rfl (.tmp 53) (.tmp 60) 51 rfl B 67 ip (.pointer none) 8 Tryz.underlying51 hip hp0 rfl ⟨_, rfl⟩ (fun u hu => by obtain ⟨x, rfl⟩ := hu; rfl) hp1 hp2 v qs.length (ptrs qs) rfl wr6 HAl.out (fun u hu => by obtain ⟨x, _, rfl⟩ := List.mem_map.1 hu; exact ⟨_, rfl⟩) ⟨w3.heap.size + 2, 0, none⟩ 1 1 [.pointer (some ⟨w3.heap.size + 1, 0, none⟩)] rfl rfl (by have := one_cell ((w3.alloc (.cells #[.int .i64 0, .int .i64 0, .int .i64 0, .int .i64 0, .int .i64 0, .int .i64 0, .int .i64 0, .int .i64 0, .int .i64 0, .int .i64 0, .slice none 0 0, .slice none 0 0] 85)).alloc (.cells #[.pointer (some ⟨l, 0, none⟩), .pointer (some ⟨db, 0, none⟩), .pointer (some ⟨w3.heap.size, 0, none⟩)] 66)) (.pointer (some ⟨w3.heap.size + 1, 0, none⟩)) 67; simpa using this) (fun u hu => by simp at hu; subst hu; exact ⟨_, rfl⟩) (by unfold maxLen; omega) (by omega) (by simp; omega) ?_; intro v7 w7 ho7 hg7 ha7; obtain ⟨g7, cap7, rfl⟩ := own_form ho7; obtain ⟨wc7, wf7⟩ := HW6.out.grown_box hg7)
  go_ret
  obtain ⟨hL3, hdk, hB3, hW3, hl1⟩ := HX.out
  have hdl : db < w3.heap.size := (Array.getElem?_eq_some_iff.1 hdk).1
  have hq : PD.I ⟨w3.heap.size + 1, l, db, w3.heap.size, z, Led.none⟩ (((w3.alloc (.cells #[.int .i64 0, .int .i64 0, .int .i64 0, .int .i64 0, .int .i64 0, .int .i64 0, .int .i64 0, .int .i64 0, .int .i64 0, .int .i64 0, .slice none 0 0, .slice none 0 0] 85)).alloc (.cells #[.pointer (some ⟨l, 0, none⟩), .pointer (some ⟨db, 0, none⟩), .pointer (some ⟨w3.heap.size, 0, none⟩)] 66)).alloc (.cells #[.pointer (some ⟨w3.heap.size + 1, 0, none⟩)] 67)) := by
    refine ⟨?_, ⟨_, (HB4.out.block db hdl).trans hdk⟩, hL3.below HB4.out, ⟨Led.none_ok, (fun _ h => by cases h), (fun _ h => by cases h), (fun _ h => by cases h), (fun _ h => by cases h), (fun _ h => by cases h), (fun _ h => by cases h)⟩, ?_, ⟨by show 16 ≤ z; omega, by show z ≤ 256; omega⟩⟩
    · unfold PairH
      show (_ : World).heap[w3.heap.size + 1]? = _
      rw [Below.heap_alloc _ _ _ (by simp)]
      have := heap_alloc_new (w3.alloc (.cells #[.int .i64 0, .int .i64 0, .int .i64 0, .int .i64 0, .int .i64 0, .int .i64 0, .int .i64 0, .int .i64 0, .int .i64 0, .int .i64 0, .slice none 0 0, .slice none 0 0] 85)) (.cells #[.pointer (some ⟨l, 0, none⟩), .pointer (some ⟨db, 0, none⟩), .pointer (some ⟨w3.heap.size, 0, none⟩)] 66)
      simpa using this
    · have hbk : BkAt (w3.alloc (.cells #[.int .i64 0, .int .i64 0, .int .i64 0, .int .i64 0, .int .i64 0, .int .i64 0, .int .i64 0, .int .i64 0, .int .i64 0, .int .i64 0, .slice none 0 0, .slice none 0 0] 85)) w3.heap.size (.slice none 0 0) (.slice none 0 0) ⟨fun _ => 0, [], []⟩ := BkAt.box w3 ⟨fun _ => 0, [], []⟩
      have hX : BkX 0 (w3.alloc (.cells #[.int .i64 0, .int .i64 0, .int .i64 0, .int .i64 0, .int .i64 0, .int .i64 0, .int .i64 0, .int .i64 0, .int .i64 0, .int .i64 0, .slice none 0 0, .slice none 0 0] 85)) w3.heap.size Led.none := ⟨_, _, _, hbk, ⟨fun _ _ => rfl, rfl, List.Perm.refl _⟩, fun _ => rfl, fun _ => rfl, Nat.zero_le _, fun _ _ => Nat.zero_le _, fun _ _ => Nat.zero_le _⟩
      exact hX.below (((Below.refl _ _).alloc (Nat.le_refl _) _).alloc (by simp) _)
  have hk7 : Keeps (fun g => B ≤ g) w1 w7 := ((below_toKeeps hB3 (fun g => B ≤ g)).trans (below_toKeeps HB4.out _)).grown hg7 (fun k e => .inl (wr6.lt k e).1)
  refine ⟨rfl, _, _, HW6.out.more hq (fun x hx => ⟨?_, ?_⟩) ⟨by show B ≤ w3.heap.size + 1; omega, by show B ≤ l; omega⟩ ho7 hg7 ha7, by simp, by simp, fun _ => by simp, hk7.set1 HW6.out.far.1 _ _, ((TagK.below hB3).trans (TagK.below HB4.out)).trans (HW6.out.tagMore hg7)⟩
  · have := (hW3.each x hx).pair.lt
    show x.p ≠ w3.heap.size + 1
    omega
  · have := HLt.out x hx
    show x.l ≠ l
    omega

end Go.Proofs.YtbpnllhhmookcaaGreatDoor

/- firnlaw: step. -/
namespace Go.Proofs.YtbpnllhhmookcaaGreatDoor
open Go.RowKit Go.Shelf

theorem lpick_val (c : Int) (h : I64 c) (n : Nat) (hn : 0 < n) (hn2 : n ≤ 1000) : ∃ z : Nat, z < n ∧ ∀ w, Calls Tryz.prog 24 #[.int .i64 c, .int .i64 n] w fun e w' => e = .returned (.int .i64 z) ∧ w' = w := by
  obtain ⟨h1, h2⟩ := h
  have hz : ((n : Int) == 0) = false := beq_eq_false_iff_ne.2 (by omega)
  have hr : ∀ a : Int, 0 ≤ a → ∃ z : Nat, a % (n : Int) = z ∧ z < n := fun a ha => by
    have g1 := Int.emod_nonneg a (b := (n : Int)) (by omega)
    have g2 := Int.emod_lt_of_pos a (b := (n : Int)) (by omega)
    exact ⟨(a % (n : Int)).toNat, by omega, by omega⟩
  have HR := hid hr
  clear hr
  by_cases h : c < 0
  · have e : -(c + 1).tmod (n : Int) = (-(c + 1)) % (n : Int) := by
      rw [← Int.neg_tmod, Int.tmod_eq_emod_of_nonneg (by omega)]
    have HE := hid e
    clear e
    obtain ⟨z, hz1, hz2⟩ := HR.out (-(c + 1)) (by omega)
    have HZ := hid hz1
    clear hz1
    refine ⟨z, hz2, fun w => ?_⟩
    go_enter Tryz.func24, Tryz.ntmps24
    go_wp2
    go_ret
    exact ⟨ret_int (by rw [HE.out, HZ.out]), rfl⟩
  · obtain ⟨z, hz1, hz2⟩ := HR.out c (by omega)
    have HZ := hid hz1
    clear hz1
    refine ⟨z, hz2, fun w => ?_⟩
    go_enter Tryz.func24, Tryz.ntmps24
    go_wp2
    go_ret
    exact ⟨ret_int HZ.out, rfl⟩

/-- A step's numbers. -/
structure OpD where
  k : Int
  on : Int
  c : Nat → Int
  fr : ByteArray
  nn : Int
  l : Nat → Int
def OpD.val (o : OpD) : Value := .agg #[.int .i64 o.k, .int .i64 o.on, .int .i64 (o.c 0), .int .i64 (o.c 1), .int .i64 (o.c 2), .int .i64 (o.c 3), .int .i64 (o.c 4), .int .i64 (o.c 5), .int .i64 (o.c 6), .int .i64 (o.c 7), .int .i64 (o.c 8), .string o.fr, .int .i64 o.nn, .int .i64 (o.l 0), .int .i64 (o.l 1), .int .i64 (o.l 2), .int .i64 (o.l 3)]

/-- What a step leaves. -/
def StepPost (B : Nat) (w : World) (wb : Nat) (qs : List PD) (e : Ending) (w' : World) : Prop := e = .returned (.bool true) ∧ ∃ v' qs', WI B w' wb v' qs' ∧ qs'.length ≤ qs.length + 1 ∧ qs.length ≤ qs'.length ∧ Keeps (fun g => B ≤ g) w w' ∧ TagK w w'

set_option maxRecDepth 8000 in
set_option maxHeartbeats 4000000 in
theorem step_open (B wb : Nat) (v : Value) (qs : List PD) (o : OpD) (hk : o.k = 1) (hn : I64 o.nn) (w : World) (h : WI B w wb v qs) (hB : B ≤ w.heap.size) (hl : qs.length ≤ 900) :
    Calls Tryz.prog 19 #[.pointer (some ⟨wb, 0, none⟩), o.val] w (StepPost B w wb qs) := by
  obtain ⟨z, hz, hpk⟩ := lpick_val o.nn hn 300 (by omega) (by omega)
  have H := hid h
  clear h hn
  unfold OpD.val
  rw [hk]
  go_enter Tryz.func19, Tryz.ntmps19
  have HB := hid (fun u hu hBu => begins_any B wb v qs o.nn z hz (hid hpk) u hu hBu (by omega))
  have hb0 : Below w.heap.size w (w.alloc (.cells #[.int .i64 1, .int .i64 o.on, .int .i64 (o.c 0), .int .i64 (o.c 1), .int .i64 (o.c 2), .int .i64 (o.c 3), .int .i64 (o.c 4), .int .i64 (o.c 5), .int .i64 (o.c 6), .int .i64 (o.c 7), .int .i64 (o.c 8), .string o.fr, .int .i64 o.nn, .int .i64 (o.l 0), .int .i64 (o.l 1), .int .i64 (o.l 2), .int .i64 (o.l 3)] 60)) := (Below.refl _ w).alloc (Nat.le_refl _) _
  have hW := H.out.below hb0
  have hs0 := hb0.size
  go_wp2_with fail
  refine (HB.out _ hW (by omega)).mono ?_
  rintro e w1 ⟨rfl, v1, qs1, hW1, h1, h2, _, h4, h5⟩
  have HE := hid (And.intro hW1 (And.intro h1 (And.intro h2 (And.intro ((below_toKeeps hb0 (fun g => B ≤ g)).trans h4) ((TagK.below hb0).trans h5)))))
  clear hW1 h1 h2 h4 h5 hb0 hW HB H
  go_wp2
  go_ret
  exact ⟨rfl, v1, qs1, HE.out.1, HE.out.2.1, HE.out.2.2.1, HE.out.2.2.2⟩

end Go.Proofs.YtbpnllhhmookcaaGreatDoor

/- firnlaw: step: what a pair does. -/
namespace Go.Proofs.YtbpnllhhmookcaaGreatDoor
open Go.RowKit Go.Shelf

theorem add_zero_at2 (g j : Nat) : (⟨g, 0, none⟩ : Addr).add j = ⟨g, j, none⟩ := by unfold Addr.add; split <;> simp_all

set_option maxRecDepth 8000 in
set_option maxHeartbeats 4000000 in
theorem step_do (B wb : Nat) (v : Value) (qs : List PD) (o : OpD) (hk : o.k = 2) (ho : I64 o.on) (_hs : o.fr.size ≤ maxLen) (w : World) (h : WI B w wb v qs) (hl : qs.length ≤ 900) (hq : 1 ≤ qs.length) :
    Calls Tryz.prog 19 #[.pointer (some ⟨wb, 0, none⟩), o.val] w (StepPost B w wb qs) := by
  obtain ⟨z, hz, hpk⟩ := lpick_val o.on ho qs.length (by omega) (by omega)
  obtain ⟨g, cap, rfl⟩ := own_form2 (by omega) h.row
  have hb0 : Below w.heap.size w (w.alloc (.cells #[.int .i64 2, .int .i64 o.on, .int .i64 (o.c 0), .int .i64 (o.c 1), .int .i64 (o.c 2), .int .i64 (o.c 3), .int .i64 (o.c 4), .int .i64 (o.c 5), .int .i64 (o.c 6), .int .i64 (o.c 7), .int .i64 (o.c 8), .string o.fr, .int .i64 o.nn, .int .i64 (o.l 0), .int .i64 (o.l 1), .int .i64 (o.l 2), .int .i64 (o.l 3)] 60)) := (Below.refl _ w).alloc (Nat.le_refl _) _
  have h1 := h.below hb0
  have wc1 := h1.cell
  have rc1 : (w.alloc (.cells #[.int .i64 2, .int .i64 o.on, .int .i64 (o.c 0), .int .i64 (o.c 1), .int .i64 (o.c 2), .int .i64 (o.c 3), .int .i64 (o.c 4), .int .i64 (o.c 5), .int .i64 (o.c 6), .int .i64 (o.c 7), .int .i64 (o.c 8), .string o.fr, .int .i64 o.nn, .int .i64 (o.l 0), .int .i64 (o.l 1), .int .i64 (o.l 2), .int .i64 (o.l 3)] 60)).cell? ⟨g, z, none⟩ = some (.pointer (some ⟨(qs[z]).p, 0, none⟩)) := by
    have := h1.row.cells (g := g) rfl z (.pointer (some ⟨(qs[z]).p, 0, none⟩)) (by simp [ptrs, hz])
    rwa [add_zero_at2] at this
  have hbw : ¬ wb = w.heap.size := by have := h.lt; omega
  have hgw : ¬ g = w.heap.size := by have := (h.row.lt g rfl).2; omega
  have hzi : (z : Int) < (qs.length : Int) := by omega
  have HEn := hid (fun u => refEncode_any o.c u)
  have H1 := hid (And.intro h1 hb0)
  have Hpk := hid hpk
  clear h ho h1 hb0 hpk
  unfold OpD.val
  rw [hk]
  go_enter Tryz.func19, Tryz.ntmps19
  go_wp2_with fail
  go_quiet (first | (go_at_call 24; exact Calls.quiet_of_same (Hpk.out _)))
  obtain ⟨h1, hb1⟩ := H1.out
  have h2 := h1.below (below_drewN (Below.refl _ _) nq)
  have hb2 := below_drewN hb1 nq
  clear Hpk H1 h1 hb1 wc1 rc1
  have k0 : ((w.alloc (.cells #[.int .i64 2, .int .i64 o.on, .int .i64 (o.c 0), .int .i64 (o.c 1), .int .i64 (o.c 2), .int .i64 (o.c 3), .int .i64 (o.c 4), .int .i64 (o.c 5), .int .i64 (o.c 6), .int .i64 (o.c 7), .int .i64 (o.c 8), .string o.fr, .int .i64 o.nn, .int .i64 (o.l 0), .int .i64 (o.l 1), .int .i64 (o.l 2), .int .i64 (o.l 3)] 60)).drewN nq).cell? ⟨w.heap.size, 0, none⟩ = some (.int .i64 2) := by
    show (w.alloc (.cells #[.int .i64 2, .int .i64 o.on, .int .i64 (o.c 0), .int .i64 (o.c 1), .int .i64 (o.c 2), .int .i64 (o.c 3), .int .i64 (o.c 4), .int .i64 (o.c 5), .int .i64 (o.c 6), .int .i64 (o.c 7), .int .i64 (o.c 8), .string o.fr, .int .i64 o.nn, .int .i64 (o.l 0), .int .i64 (o.l 1), .int .i64 (o.l 2), .int .i64 (o.l 3)] 60)).cell? _ = _
    rw [World.cell?_alloc_new]; rfl
  have f0 : ((w.alloc (.cells #[.int .i64 2, .int .i64 o.on, .int .i64 (o.c 0), .int .i64 (o.c 1), .int .i64 (o.c 2), .int .i64 (o.c 3), .int .i64 (o.c 4), .int .i64 (o.c 5), .int .i64 (o.c 6), .int .i64 (o.c 7), .int .i64 (o.c 8), .string o.fr, .int .i64 o.nn, .int .i64 (o.l 0), .int .i64 (o.l 1), .int .i64 (o.l 2), .int .i64 (o.l 3)] 60)).drewN nq).cell? ⟨w.heap.size, 11, none⟩ = some (.string o.fr) := by
    show (w.alloc (.cells #[.int .i64 2, .int .i64 o.on, .int .i64 (o.c 0), .int .i64 (o.c 1), .int .i64 (o.c 2), .int .i64 (o.c 3), .int .i64 (o.c 4), .int .i64 (o.c 5), .int .i64 (o.c 6), .int .i64 (o.c 7), .int .i64 (o.c 8), .string o.fr, .int .i64 o.nn, .int .i64 (o.l 0), .int .i64 (o.l 1), .int .i64 (o.l 2), .int .i64 (o.l 3)] 60)).cell? _ = _
    rw [World.cell?_alloc_new]; rfl
  have hlb : w.heap.size < ((w.alloc (.cells #[.int .i64 2, .int .i64 o.on, .int .i64 (o.c 0), .int .i64 (o.c 1), .int .i64 (o.c 2), .int .i64 (o.c 3), .int .i64 (o.c 4), .int .i64 (o.c 5), .int .i64 (o.c 6), .int .i64 (o.c 7), .int .i64 (o.c 8), .string o.fr, .int .i64 o.nn, .int .i64 (o.l 0), .int .i64 (o.l 1), .int .i64 (o.l 2), .int .i64 (o.l 3)] 60)).drewN nq).heap.size := by show w.heap.size < (w.alloc (.cells #[.int .i64 2, .int .i64 o.on, .int .i64 (o.c 0), .int .i64 (o.c 1), .int .i64 (o.c 2), .int .i64 (o.c 3), .int .i64 (o.c 4), .int .i64 (o.c 5), .int .i64 (o.c 6), .int .i64 (o.c 7), .int .i64 (o.c 8), .string o.fr, .int .i64 o.nn, .int .i64 (o.l 0), .int .i64 (o.l 1), .int .i64 (o.l 2), .int .i64 (o.l 3)] 60)).heap.size; simp
  have H2 := hid (And.intro h2 hb2)
  have HKF := hid (And.intro k0 (And.intro f0 hlb))
  clear h2 hb2 k0 f0 hlb
  go_wp2_with fail
  refine (HEn.out _).mono ?_
  clear HEn
  rintro e w3 ⟨rfl, hb3⟩
  obtain ⟨h2, hb2⟩ := H2.out
  obtain ⟨k0, f0, hlb⟩ := HKF.out
  have k0 := (hb3.cell (p := ⟨w.heap.size, 0, none⟩) hlb).trans k0
  have f0 := (hb3.cell (p := ⟨w.heap.size, 11, none⟩) hlb).trans f0
  have h3 := h2.below hb3
  have hb4 := hb2.trans (hb3.mono hb2.size)
  have hq3 := h3.each _ (List.getElem_mem hz)
  have H3 := hid (And.intro h3 hb4)
  have HD := hid (fun s hs => does_any _ _ _ _ _ _ s hs w3 hq3)
  have HEnd := hid (fun (w4 : World) (b' : Nat) (L' : Led) (hI : PairI w4 (qs[z]).p (qs[z]).l (qs[z]).d b' (qs[z]).n L') (hk : Keeps (fun g => g = (qs[z]).l ∨ g = (qs[z]).p) w3 w4) => And.intro (h3.turn hz (q' := ⟨(qs[z]).p, (qs[z]).l, (qs[z]).d, b', (qs[z]).n, L'⟩) ⟨rfl, rfl⟩ hI hk) ((below_toKeeps hb4 (fun g => B ≤ g)).trans (hk.mono (fun g _ hg => by have := h3.far.2 _ (List.getElem_mem hz); rcases hg with rfl | rfl; exact this.2; exact this.1)) |> fun x => And.intro x ((TagK.below hb4).trans (h3.tagTurn hz hk))))
  clear H2 HKF h2 hb2 hlb h3 hb4 hq3 hb3
  cases hen : encB o.c with
  | true =>
    have hE : encE o.c = 0 := by simp [encE, hen]
    have hsz : (⟨(encS o.c).toArray⟩ : ByteArray).size ≤ maxLen := by
      show (encS o.c).toArray.size ≤ maxLen
      have := (enc_len o.c hen).2
      simp only [List.size_toArray]; unfold maxLen; omega
    have HDs := hid (HD.out _ hsz)
    rw [hE]
    clear HD hsz hen hE
    go_wp2_with fail
    refine HDs.out.mono ?_
    clear HDs
    rintro e w4 ⟨rfl, b', hI4, hk4⟩
    have HX := hid (HEnd.out w4 b' _ hI4 hk4)
    clear hI4 hk4 HEnd
    go_wp2
    go_ret
    exact ⟨rfl, _, _, HX.out.1, by rw [List.length_set]; omega, by rw [List.length_set]; omega, HX.out.2.1, HX.out.2.2⟩
  | false =>
    have hE : encE o.c = 1 := by simp [encE, hen]
    rw [hE]
    clear HD hen hE HEnd
    go_wp2
    go_ret
    exact ⟨rfl, _, _, H3.out.1, by omega, by omega, below_toKeeps H3.out.2 _, TagK.below H3.out.2⟩

set_option maxRecDepth 8000 in
set_option maxHeartbeats 4000000 in
theorem step_frame (B wb : Nat) (v : Value) (qs : List PD) (o : OpD) (hk : o.k = 3) (ho : I64 o.on) (hs : o.fr.size ≤ maxLen) (w : World) (h : WI B w wb v qs) (hl : qs.length ≤ 900) (hq : 1 ≤ qs.length) :
    Calls Tryz.prog 19 #[.pointer (some ⟨wb, 0, none⟩), o.val] w (StepPost B w wb qs) := by
  obtain ⟨z, hz, hpk⟩ := lpick_val o.on ho qs.length (by omega) (by omega)
  obtain ⟨g, cap, rfl⟩ := own_form2 (by omega) h.row
  have hb0 : Below w.heap.size w (w.alloc (.cells #[.int .i64 3, .int .i64 o.on, .int .i64 (o.c 0), .int .i64 (o.c 1), .int .i64 (o.c 2), .int .i64 (o.c 3), .int .i64 (o.c 4), .int .i64 (o.c 5), .int .i64 (o.c 6), .int .i64 (o.c 7), .int .i64 (o.c 8), .string o.fr, .int .i64 o.nn, .int .i64 (o.l 0), .int .i64 (o.l 1), .int .i64 (o.l 2), .int .i64 (o.l 3)] 60)) := (Below.refl _ w).alloc (Nat.le_refl _) _
  have h1 := h.below hb0
  have wc1 := h1.cell
  have rc1 : (w.alloc (.cells #[.int .i64 3, .int .i64 o.on, .int .i64 (o.c 0), .int .i64 (o.c 1), .int .i64 (o.c 2), .int .i64 (o.c 3), .int .i64 (o.c 4), .int .i64 (o.c 5), .int .i64 (o.c 6), .int .i64 (o.c 7), .int .i64 (o.c 8), .string o.fr, .int .i64 o.nn, .int .i64 (o.l 0), .int .i64 (o.l 1), .int .i64 (o.l 2), .int .i64 (o.l 3)] 60)).cell? ⟨g, z, none⟩ = some (.pointer (some ⟨(qs[z]).p, 0, none⟩)) := by
    have := h1.row.cells (g := g) rfl z (.pointer (some ⟨(qs[z]).p, 0, none⟩)) (by simp [ptrs, hz])
    rwa [add_zero_at2] at this
  have hbw : ¬ wb = w.heap.size := by have := h.lt; omega
  have hgw : ¬ g = w.heap.size := by have := (h.row.lt g rfl).2; omega
  have hzi : (z : Int) < (qs.length : Int) := by omega
  have HEn := hid (fun u => refEncode_any o.c u)
  have H1 := hid (And.intro h1 hb0)
  have Hpk := hid hpk
  clear h ho h1 hb0 hpk
  unfold OpD.val
  rw [hk]
  go_enter Tryz.func19, Tryz.ntmps19
  go_wp2_with fail
  go_quiet (first | (go_at_call 24; exact Calls.quiet_of_same (Hpk.out _)))
  obtain ⟨h1, hb1⟩ := H1.out
  have h2 := h1.below (below_drewN (Below.refl _ _) nq)
  have hb2 := below_drewN hb1 nq
  clear Hpk H1 h1 hb1 wc1 rc1
  have k0 : ((w.alloc (.cells #[.int .i64 3, .int .i64 o.on, .int .i64 (o.c 0), .int .i64 (o.c 1), .int .i64 (o.c 2), .int .i64 (o.c 3), .int .i64 (o.c 4), .int .i64 (o.c 5), .int .i64 (o.c 6), .int .i64 (o.c 7), .int .i64 (o.c 8), .string o.fr, .int .i64 o.nn, .int .i64 (o.l 0), .int .i64 (o.l 1), .int .i64 (o.l 2), .int .i64 (o.l 3)] 60)).drewN nq).cell? ⟨w.heap.size, 0, none⟩ = some (.int .i64 3) := by
    show (w.alloc (.cells #[.int .i64 3, .int .i64 o.on, .int .i64 (o.c 0), .int .i64 (o.c 1), .int .i64 (o.c 2), .int .i64 (o.c 3), .int .i64 (o.c 4), .int .i64 (o.c 5), .int .i64 (o.c 6), .int .i64 (o.c 7), .int .i64 (o.c 8), .string o.fr, .int .i64 o.nn, .int .i64 (o.l 0), .int .i64 (o.l 1), .int .i64 (o.l 2), .int .i64 (o.l 3)] 60)).cell? _ = _
    rw [World.cell?_alloc_new]; rfl
  have f0 : ((w.alloc (.cells #[.int .i64 3, .int .i64 o.on, .int .i64 (o.c 0), .int .i64 (o.c 1), .int .i64 (o.c 2), .int .i64 (o.c 3), .int .i64 (o.c 4), .int .i64 (o.c 5), .int .i64 (o.c 6), .int .i64 (o.c 7), .int .i64 (o.c 8), .string o.fr, .int .i64 o.nn, .int .i64 (o.l 0), .int .i64 (o.l 1), .int .i64 (o.l 2), .int .i64 (o.l 3)] 60)).drewN nq).cell? ⟨w.heap.size, 11, none⟩ = some (.string o.fr) := by
    show (w.alloc (.cells #[.int .i64 3, .int .i64 o.on, .int .i64 (o.c 0), .int .i64 (o.c 1), .int .i64 (o.c 2), .int .i64 (o.c 3), .int .i64 (o.c 4), .int .i64 (o.c 5), .int .i64 (o.c 6), .int .i64 (o.c 7), .int .i64 (o.c 8), .string o.fr, .int .i64 o.nn, .int .i64 (o.l 0), .int .i64 (o.l 1), .int .i64 (o.l 2), .int .i64 (o.l 3)] 60)).cell? _ = _
    rw [World.cell?_alloc_new]; rfl
  have hlb : w.heap.size < ((w.alloc (.cells #[.int .i64 3, .int .i64 o.on, .int .i64 (o.c 0), .int .i64 (o.c 1), .int .i64 (o.c 2), .int .i64 (o.c 3), .int .i64 (o.c 4), .int .i64 (o.c 5), .int .i64 (o.c 6), .int .i64 (o.c 7), .int .i64 (o.c 8), .string o.fr, .int .i64 o.nn, .int .i64 (o.l 0), .int .i64 (o.l 1), .int .i64 (o.l 2), .int .i64 (o.l 3)] 60)).drewN nq).heap.size := by show w.heap.size < (w.alloc (.cells #[.int .i64 3, .int .i64 o.on, .int .i64 (o.c 0), .int .i64 (o.c 1), .int .i64 (o.c 2), .int .i64 (o.c 3), .int .i64 (o.c 4), .int .i64 (o.c 5), .int .i64 (o.c 6), .int .i64 (o.c 7), .int .i64 (o.c 8), .string o.fr, .int .i64 o.nn, .int .i64 (o.l 0), .int .i64 (o.l 1), .int .i64 (o.l 2), .int .i64 (o.l 3)] 60)).heap.size; simp
  have H2 := hid (And.intro h2 hb2)
  have HKF := hid (And.intro k0 (And.intro f0 hlb))
  clear h2 hb2 k0 f0 hlb
  go_wp2_with fail
  refine (HEn.out _).mono ?_
  clear HEn
  rintro e w3 ⟨rfl, hb3⟩
  obtain ⟨h2, hb2⟩ := H2.out
  obtain ⟨k0, f0, hlb⟩ := HKF.out
  have k0 := (hb3.cell (p := ⟨w.heap.size, 0, none⟩) hlb).trans k0
  have f0 := (hb3.cell (p := ⟨w.heap.size, 11, none⟩) hlb).trans f0
  have h3 := h2.below hb3
  have hb4 := hb2.trans (hb3.mono hb2.size)
  have hq3 := h3.each _ (List.getElem_mem hz)
  have H3 := hid (And.intro h3 hb4)
  have HD := hid (fun s hs => does_any _ _ _ _ _ _ s hs w3 hq3)
  have HEnd := hid (fun (w4 : World) (b' : Nat) (L' : Led) (hI : PairI w4 (qs[z]).p (qs[z]).l (qs[z]).d b' (qs[z]).n L') (hk : Keeps (fun g => g = (qs[z]).l ∨ g = (qs[z]).p) w3 w4) => And.intro (h3.turn hz (q' := ⟨(qs[z]).p, (qs[z]).l, (qs[z]).d, b', (qs[z]).n, L'⟩) ⟨rfl, rfl⟩ hI hk) ((below_toKeeps hb4 (fun g => B ≤ g)).trans (hk.mono (fun g _ hg => by have := h3.far.2 _ (List.getElem_mem hz); rcases hg with rfl | rfl; exact this.2; exact this.1)) |> fun x => And.intro x ((TagK.below hb4).trans (h3.tagTurn hz hk))))
  clear H2 HKF h2 hb2 hlb h3 hb4 hq3 hb3
  have HDs := hid (HD.out o.fr hs)
  generalize encE o.c = ee at *
  clear HD
  go_wp2_with fail
  refine HDs.out.mono ?_
  clear HDs
  rintro e w4 ⟨rfl, b', hI4, hk4⟩
  have HX := hid (HEnd.out w4 b' _ hI4 hk4)
  clear hI4 hk4 HEnd
  go_wp2
  go_ret
  exact ⟨rfl, _, _, HX.out.1, by rw [List.length_set]; omega, by rw [List.length_set]; omega, HX.out.2.1, HX.out.2.2⟩

end Go.Proofs.YtbpnllhhmookcaaGreatDoor
