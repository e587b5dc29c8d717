/- What Reply and Count of package firnref return. -/
import Derived.Test.YtbpnllhhmookcaaGreatDoorKm02
import Derived.Test.YtbpnllhhmookcaaGreatDoorKk34
import Derived.Test.YtbpnllhhmookcaaGreatDoorKm00
import Derived.BigRegion
import Derived.Test.YtbpnllhhmookcaaGreatDoorKk19
import Derived.Deep.RegionLawGrows
namespace Go.Proofs.YtbpnllhhmookcaaGreatDoor
open Go.RowKit

set_option maxHeartbeats 1000000 in
theorem reply_any (e : Nat) (v : Value) (zs : List Int) (w : World) (he : e < 256) (hv : IntsIn w v zs) (hn : zs.length < 65536) (hz : ∀ z ∈ zs, 0 ≤ z ∧ z < 4294967296) :
    Calls Tryz.prog 52 #[.int .i64 e, v] w fun r w' => r = .returned (.string ⟨(replyL e zs).toArray⟩) ∧ Below w.heap.size w w' := by
  obtain ⟨oa, ca, rfl, hca⟩ := hv.parts
  have HA := hid hca
  have HZ := hid hz
  clear hca hv hz
  have hcv := own_conv (w := w.alloc (.cells #[.int .u8 (e : Int), .int .u8 ((zs.length : Int) / 256), .int .u8 ((zs.length : Int) % 256)] 5)) (g := w.heap.size) (cap := 3) (l := [UInt8.ofNat e, UInt8.ofNat (zs.length / 256), UInt8.ofNat zs.length]) (bytes3_cells w e zs.length he hn)
  have h3 : [UInt8.ofNat e, UInt8.ofNat (zs.length / 256), UInt8.ofNat zs.length].length = 3 := rfl
  rw [h3] at hcv
  clear h3
  go_enter Tryz.func52, Tryz.ntmps52
  have HD := hid (show replyL e zs = [UInt8.ofNat e, UInt8.ofNat (zs.length / 256), UInt8.ofNat zs.length] ++ (zs.take zs.length).flatMap (fun z => be4 z.toNat) by rw [List.take_length]; rfl)
  have HSt := hid (fun m h => replyL_step e zs m h)
  simp only [Int.toNat_natCast] at HSt
  have h3 : ([UInt8.ofNat e, UInt8.ofNat (zs.length / 256), UInt8.ofNat zs.length] : List UInt8).length = 3 := rfl
  generalize [UInt8.ofNat e, UInt8.ofNat (zs.length / 256), UInt8.ofNat zs.length] = hd at *
  have h3' : hd.length ≤ 3 := by omega
  have HSt2 : Hid (∀ (m : Nat) (h : m < zs.length), hd ++ (zs.take (m + 1)).flatMap (fun z => be4 z.toNat) = (hd ++ (zs.take m).flatMap fun z => be4 z.toNat) ++ be4 zs[m].toNat) := HSt.out
  clear HSt h3
  go_wp2_with fail
  go_loopw [5, 6] (fun sv i wr => ∃ m : Nat, m ≤ zs.length ∧ i = .int .i64 m ∧ sv = .string ⟨(hd ++ (zs.take m).flatMap fun z => be4 z.toNat).toArray⟩ ∧ (hd ++ (zs.take m).flatMap fun z => be4 z.toNat).length ≤ 3 + 4 * m ∧ Below w.heap.size w wr) (fun _ i _ => zs.length - (intOf i).toNat)
  case atStart => exact ⟨0, Nat.zero_le _, rfl, by simp, by simpa using h3', (Below.refl _ _).alloc (Nat.le_refl _) _⟩
  case round =>
    obtain ⟨m, hm, rfl, rfl, hle, hb⟩ := hrel
    by_cases hlt : m < zs.length
    · obtain ⟨p, rfl, hpl, hp⟩ := HA.out m hlt
      have hpr := (hb.cell (p := ⟨p, m, none⟩) hpl).trans hp
      have hzm := HZ.out zs[m] (List.getElem_mem hlt)
      have HS := hid (HSt2.out m hlt)
      have hlt' : (m : Int) < (zs.length : Int) := by omega
      obtain ⟨n, hn2⟩ := Int.eq_ofNat_of_zero_le hzm.1
      rw [hn2] at hpr hzm
      have HS2 : Hid (hd ++ (zs.take (m + 1)).flatMap (fun z => be4 z.toNat) = (hd ++ (zs.take m).flatMap fun z => be4 z.toNat) ++ be4 n) := by rw [HS.out, hn2, Int.toNat_natCast]; exact hid rfl
      obtain ⟨hz0, hz1⟩ := hzm
      clear HS hn2 hp
      have hcat := str_app (hd ++ (zs.take m).flatMap fun z => be4 z.toNat) (be4 n)
      generalize hd ++ (zs.take m).flatMap (fun z => be4 z.toNat) = cur at *
      have hnl : ¬ 9223372036854775807 < cur.length + (be4 n).length := by rw [be4_len]; omega
      have hzw := hb.size
      go_wp2_with (go_at_call 45; refine (four_any n (by omega) _).mono ?_; rintro e w4 ⟨rfl, hb4⟩)
      go_roundw
      case rel => exact ⟨m + 1, by omega, by go_num, by rw [HS2.out], by rw [HS2.out, List.length_append, be4_len]; omega, hb.trans (hb4.mono hzw)⟩
      case measure => simp [intOf]; omega
    · have hme : m = zs.length := by omega
      rw [← hme] at HD
      clear hme
      generalize hd ++ (zs.take m).flatMap (fun z => be4 z.toNat) = cur at *
      go_wp2
      go_ret
      exact ⟨ret_str HD.out, hb⟩

/-- Boxes, tubes and pairs. -/
def cntB (k : Bk) : Int := k.tubes.length + k.poured.length + ((List.range 10).countP fun i => decide (0 < k.sides i) : Nat)

set_option maxHeartbeats 1000000 in
theorem count_any (b : Nat) (vt vp : Value) (k : Bk) (w : World) (h : BkAt w b vt vp k) :
    Calls Tryz.prog 68 #[.pointer (some ⟨b, 0, none⟩)] w fun e w' => e = .returned (.int .i64 (cntB k)) ∧ ∃ n, w' = w.drewN n := by
  have hct := h.ct
  have hcp := h.cp
  have HS := hid h.side
  have hfew := h.few
  obtain ⟨oa, cap, rfl, _⟩ := h.tubes.form
  obtain ⟨op, cpp, rfl, _⟩ := h.poured.form
  have hw1 : IntKind.i64.wrap ((k.tubes.length : Int) + (k.poured.length : Int)) = (k.tubes.length : Int) + (k.poured.length : Int) := wraps63 _ (by omega) (by omega)
  go_enter Tryz.func68, Tryz.ntmps68
  go_wp2_with fail
  go_quiet (fail)
  go_wp2_with fail
  go_loop [3, 4] (fun n i => ∃ m : Nat, m ≤ 10 ∧ i = .int .i64 m ∧ n = .int .i64 (k.tubes.length + k.poured.length + ((List.range m).countP fun i => decide (0 < k.sides i) : Nat) : Int)) (fun _ i => 10 - (intOf i).toNat)
  case atStart => exact ⟨0, by omega, rfl, by simp⟩
  case round =>
    obtain ⟨m, hm, rfl, rfl⟩ := hrel
    have hcb : (List.range m).countP (fun i => decide (0 < k.sides i)) ≤ m := by have := List.countP_le_length (p := fun i => decide (0 < k.sides i)) (l := List.range m); simpa using this
    have HC := hid (show (List.range (m + 1)).countP (fun i => decide (0 < k.sides i)) = (List.range m).countP (fun i => decide (0 < k.sides i)) + (if 0 < k.sides m then 1 else 0) by rw [List.range_succ, List.countP_append]; simp [List.countP_cons])
    generalize hcc : (List.range m).countP (fun i => decide (0 < k.sides i)) = cc at *
    have HCC := hid hcc
    clear hcc
    by_cases hlt : m < 10
    · have hsd := HS.out m hlt
      have hlt' : (m : Int) < 10 := by omega
      by_cases hp : 0 < k.sides m
      · have HC2 := hid (show (List.range (m + 1)).countP (fun i => decide (0 < k.sides i)) = cc + 1 by rw [HC.out, if_pos hp])
        generalize k.sides m = sd at *
        go_wp2
        go_round
        case rel => exact ⟨m + 1, by omega, by go_num, by rw [HC2.out]; go_num⟩
        case measure => simp [intOf]; omega
      · have HC2 := hid (show (List.range (m + 1)).countP (fun i => decide (0 < k.sides i)) = cc by rw [HC.out, if_neg hp]; rfl)
        generalize k.sides m = sd at *
        go_wp2
        go_round
        case rel => exact ⟨m + 1, by omega, by go_num, by rw [HC2.out]⟩
        case measure => simp [intOf]; omega
    · have hme : m = 10 := by omega
      subst hme
      go_wp2
      go_ret
      exact ⟨ret_int (by unfold cntB; rw [HCC.out]), _, rfl⟩

end Go.Proofs.YtbpnllhhmookcaaGreatDoor

/- What gone and turned of the books of package firnref do. -/
namespace Go.Proofs.YtbpnllhhmookcaaGreatDoor
open Go.RowKit

def Bk.withTubes (k : Bk) (ts : List (Nat → Int)) : Bk := { k with tubes := ts }
/-- A number of a tube in the list is another one. -/
def setT (ts : List (Nat → Int)) (i f : Nat) (n : Int) : List (Nat → Int) := ts.set i (upd (ts.getD i zeroT) f n)
theorem setT_len (ts : List (Nat → Int)) (i f : Nat) (n : Int) : (setT ts i f n).length = ts.length := by simp [setT]
theorem getD_T {ts : List (Nat → Int)} {i : Nat} (h : i < ts.length) : ts.getD i zeroT = ts[i] := by
  rw [List.getD_eq_getElem?_getD, List.getElem?_eq_getElem h]; rfl
theorem setT_at {ts : List (Nat → Int)} {i f : Nat} {n : Int} (hi : i < ts.length) (f' : Nat) : (setT ts i f n).getD i zeroT f' = if f' = f then n else ts.getD i zeroT f' := by
  rw [getD_T (by rw [setT_len]; exact hi)]
  unfold setT
  rw [List.getElem_set_self]; rfl

theorem Recs.setOther {w : World} {e : TypeId} {n : Nat} {v : Value} {l : List (Nat → Int)} (h : Recs w e n v l) {p : Addr} (hp : v.ownBlock ≠ some p.block) (u : Value) : Recs (w.setCell p u) e n v l :=
  ownsRow_block h (fun g hg => Below.heap_setCell w p u g (by rintro rfl; exact hp hg))

theorem BkAt.setTube {w : World} {b : Nat} {vt vp : Value} {k : Bk} (h : BkAt w b vt vp k) {g : Nat} (hg : vt.ownBlock = some g) {i f : Nat} (hi : i < k.tubes.length) (hf : f < 11) (n : Int) :
    BkAt (w.setCell ⟨g, i * 11 + f, none⟩ (.int .i64 n)) b vt vp (k.withTubes (setT k.tubes i f n)) := by
  have hgb : ¬ g = b := fun e => h.nt (by rw [← e]; exact hg)
  have ho : ∀ j, (w.setCell ⟨g, i * 11 + f, none⟩ (.int .i64 n)).cell? ⟨b, j, none⟩ = w.cell? ⟨b, j, none⟩ := fun j => World.cell?_setCell_other w ⟨g, i * 11 + f, none⟩ ⟨b, j, none⟩ _ (by intro h'; injection h' with h1 _ _; exact hgb h1)
  refine ⟨by simpa using h.lt, fun j hj => (ho j).trans (h.side j hj), (ho 10).trans h.ct, (ho 11).trans h.cp, fun j => by rw [World.frozen?_setCell]; exact h.fz j, ?_, h.poured.setOther (fun e => h.tp g hg e) _, h.nt, h.np, h.tp, ?_⟩
  · show Recs _ _ 11 vt (setT k.tubes i f n)
    have := h.tubes.set hg hi hf n
    unfold setT; rw [getD_T hi]; exact this
  · refine ⟨?_, h.few.2⟩
    show (setT k.tubes i f n).length < _
    rw [setT_len]; exact h.few.1

theorem Keeps.set1 {S : Nat → Prop} {a w : World} (h : Keeps S a w) {g : Nat} (hg : S g) (o : Nat) (u : Value) : Keeps S a (w.setCell ⟨g, o, none⟩ u) := h.setCell (p := ⟨g, o, none⟩) (.inl hg) u

def goneT (ts : List (Nat → Int)) (i : Nat) : List (Nat → Int) := setT (setT (setT ts i 8 0) i 9 0) i 10 0
theorem goneT_len (ts : List (Nat → Int)) (i : Nat) : (goneT ts i).length = ts.length := by simp [goneT, setT_len]

set_option maxHeartbeats 1000000 in
theorem gone_any (b : Nat) (vt vp : Value) (k : Bk) (i : Nat) (hi : i < k.tubes.length) (w : World) (h : BkAt w b vt vp k) :
    Calls Tryz.prog 75 #[.pointer (some ⟨b, 0, none⟩), .int .i64 i] w fun e w' => e = .returned (.tuple #[]) ∧ BkAt w' b vt vp (k.withTubes (goneT k.tubes i)) ∧ Keeps (fun g => vt.ownBlock = some g) w w' := by
  obtain ⟨oa, cap, rfl, _⟩ := h.tubes.form
  obtain ⟨g, rfl, hn, hcap, hgl, t0, t1, t2, t3, t4, t5, t6, t7, t8, t9, t10, hfz⟩ := h.tube hi
  have hct := h.ct
  have hbl := h.lt
  have hg : (Value.slice (some ⟨g, 0, none⟩) k.tubes.length cap).ownBlock = some g := rfl
  have hgb : ¬ g = b := fun e => h.nt (by rw [← e]; rfl)
  have hbg : ¬ b = g := fun e => hgb e.symm
  have r1 := h.setTube hg hi (f := 8) (by omega) 0
  have r2 := r1.setTube hg (i := i) (f := 9) (by show i < (setT k.tubes i 8 0).length; rw [setT_len]; exact hi) (by omega) 0
  have r3 := r2.setTube hg (i := i) (f := 10) (by show i < (setT (setT k.tubes i 8 0) i 9 0).length; rw [setT_len, setT_len]; exact hi) (by omega) 0
  have R3 := hid r3
  clear r1 r2 r3 t0 t1 t2 t3 t4 t5 t6 t7
  have hi' : (i : Int) < (k.tubes.length : Int) := by omega
  go_enter Tryz.func75, Tryz.ntmps75
  go_wp2
  go_end0
  exact ⟨rfl, R3.out, (((Keeps.refl (fun g' => g = g') w).set1 rfl _ _).set1 rfl _ _).set1 rfl _ _⟩

end Go.Proofs.YtbpnllhhmookcaaGreatDoor

/- What turned of the books of package firnref does. -/
namespace Go.Proofs.YtbpnllhhmookcaaGreatDoor
open Go.RowKit

/-- A list whose first m records have been handled. -/
def mapTo (f : (Nat → Int) → Nat → Int) (ts : List (Nat → Int)) (m : Nat) : List (Nat → Int) := (ts.take m).map f ++ ts.drop m
theorem mapTo_len (f : (Nat → Int) → Nat → Int) (ts : List (Nat → Int)) (m : Nat) : (mapTo f ts m).length = ts.length := by simp [mapTo]; omega
theorem mapTo_zero (f : (Nat → Int) → Nat → Int) (ts : List (Nat → Int)) : mapTo f ts 0 = ts := by simp [mapTo]
theorem mapTo_all (f : (Nat → Int) → Nat → Int) (ts : List (Nat → Int)) : mapTo f ts ts.length = ts.map f := by simp [mapTo]
theorem mapTo_at (f : (Nat → Int) → Nat → Int) (ts : List (Nat → Int)) (m : Nat) (h : m < ts.length) : (mapTo f ts m)[m]'(by rw [mapTo_len]; exact h) = ts[m] := by
  unfold mapTo
  rw [List.getElem_append_right (by simp; omega)]
  simp
  congr 1
  omega
theorem mapTo_set (f : (Nat → Int) → Nat → Int) (ts : List (Nat → Int)) (m : Nat) (h : m < ts.length) : (mapTo f ts m).set m (f ts[m]) = mapTo f ts (m + 1) := by
  unfold mapTo
  have e : ts.drop m = ts[m] :: ts.drop (m + 1) := List.drop_eq_getElem_cons h
  rw [e, List.take_succ_eq_append_getElem h, List.map_append, List.set_append_right _ _ (by simp; omega)]
  have hl : m - ((ts.take m).map f).length = 0 := by simp; omega
  rw [hl, List.set_cons_zero]
  simp
theorem mapTo_same (f : (Nat → Int) → Nat → Int) (ts : List (Nat → Int)) (m : Nat) (h : m < ts.length) (e : f ts[m] = ts[m]) : mapTo f ts m = mapTo f ts (m + 1) := by
  rw [← mapTo_set f ts m h, e]
  have hm : m < (mapTo f ts m).length := by rw [mapTo_len]; exact h
  have := List.set_getElem_self hm
  rw [mapTo_at f ts m h] at this
  exact this.symm

theorem setT_mapTo (f : (Nat → Int) → Nat → Int) (ts : List (Nat → Int)) (m : Nat) (h : m < ts.length) (i : Nat) (n : Int) : setT (mapTo f ts m) m i n = (mapTo f ts m).set m (upd ts[m] i n) := by
  unfold setT; rw [getD_T (by rw [mapTo_len]; exact h), mapTo_at f ts m h]
theorem setT_set (l : List (Nat → Int)) (m : Nat) (h : m < l.length) (t : Nat → Int) (i : Nat) (n : Int) : setT (l.set m t) m i n = l.set m (upd t i n) := by
  unfold setT; rw [getD_T (by simpa using h), List.getElem_set_self, List.set_set]

/-- A tube in a box that is turned once, or flipped. -/
def turnF (box sd : Int) (flip : Bool) (t : Nat → Int) : Nat → Int :=
  if t 8 = box then (if flip then upd t 9 (sd - 1 - t 9) else upd (upd t 9 (sd - 1 - t 10)) 10 (t 9)) else t

set_option maxHeartbeats 1000000 in
theorem bturned_any (b : Nat) (vt vp : Value) (k : Bk) (box : Nat) (flip : Bool) (hbox : box < 10) (w : World) (h : BkAt w b vt vp k) (hsm : Small k) (hsd : 0 ≤ k.sides box ∧ k.sides box ≤ 1000000) :
    Calls Tryz.prog 77 #[.pointer (some ⟨b, 0, none⟩), .int .i64 box, .bool flip] w fun e w' => e = .returned (.tuple #[]) ∧ BkAt w' b vt vp (k.withTubes (k.tubes.map (turnF box (k.sides box) flip))) ∧ Keeps (fun g => vt.ownBlock = some g) w w' := by
  obtain ⟨oa, cap, rfl, _⟩ := h.tubes.form
  have hct := h.ct
  have hbl := h.lt
  have hside := h.side box hbox
  have hbt : (box : Int) < 10 := by omega
  have hfew := h.few.1
  have HSm := hid hsm.tubes
  have hK0 : BkAt w b (.slice oa k.tubes.length cap) vp (k.withTubes (mapTo (turnF box (k.sides box) flip) k.tubes 0)) := by rw [mapTo_zero]; exact h
  clear hsm
  go_enter Tryz.func77, Tryz.ntmps77
  go_wp2_with fail
  go_loopg [7] k.tubes.length (fun gk i wr => ∃ m : Nat, m + gk = k.tubes.length ∧ i = .int .i64 m ∧ BkAt wr b (.slice oa k.tubes.length cap) vp (k.withTubes (mapTo (turnF box (k.sides box) flip) k.tubes m)) ∧ Keeps (fun g => (Value.slice oa k.tubes.length cap).ownBlock = some g) w wr)
  case atStart => exact ⟨0, by omega, rfl, hK0, Keeps.refl _ _⟩
  case round =>
    clear hK0
    obtain ⟨m, hm, rfl, hK, hkp⟩ := hrel
    have HM := hid hm
    have hmle : m ≤ k.tubes.length := by omega
    clear hm
    have hctr := hK.ct
    by_cases hlt : m < k.tubes.length
    · have hlm : m < (mapTo (turnF box (k.sides box) flip) k.tubes m).length := by rw [mapTo_len]; exact hlt
      obtain ⟨g, rfl, hn, hcap, hgl, t0, t1, t2, t3, t4, t5, t6, t7, t8, t9, t10, hfz⟩ := hK.tube (m := m) hlm
      have hat : (k.withTubes (mapTo (turnF box (k.sides box) flip) k.tubes m)).tubes[m] = k.tubes[m] := mapTo_at _ _ m hlt
      rw [hat] at t8 t9 t10
      clear hat t0 t1 t2 t3 t4 t5 t6 t7
      have hg : (Value.slice (some ⟨g, 0, none⟩) k.tubes.length cap).ownBlock = some g := rfl
      have hgb : ¬ g = b := fun e => hK.nt (by rw [← e]; rfl)
      have hbg : ¬ b = g := fun e => hgb e.symm
      have hlt' : (m : Int) < (k.tubes.length : Int) := by omega
      have b9 := HSm.out k.tubes[m] (List.getElem_mem hlt) 9
      have b10 := HSm.out k.tubes[m] (List.getElem_mem hlt) 10
      have HST := hid (fun i n => setT_mapTo (turnF box (k.sides box) flip) k.tubes m hlt i n)
      have HSe := hid (mapTo_set (turnF box (k.sides box) flip) k.tubes m hlt)
      have HSa := hid (mapTo_same (turnF box (k.sides box) flip) k.tubes m hlt)
      have hlm2 : m < (mapTo (turnF box (k.sides box) flip) k.tubes m).length := hlm
      by_cases hbx : k.tubes[m] 8 = box
      · cases flip with
        | true =>
          have e1 : turnF box (k.sides box) true k.tubes[m] = upd k.tubes[m] 9 (k.sides box - 1 - k.tubes[m] 9) := by unfold turnF; rw [if_pos hbx]; rfl
          have r1 := hK.setTube hg (i := m) (f := 9) hlm (by omega) (k.sides box - 1 - k.tubes[m] 9)
          have e2 : setT (mapTo (turnF box (k.sides box) true) k.tubes m) m 9 (k.sides box - 1 - k.tubes[m] 9) = mapTo (turnF box (k.sides box) true) k.tubes (m + 1) := by
            rw [HST.out, ← e1]; exact HSe.out
          have R1 : Hid (BkAt (wr.setCell ⟨g, m * 11 + 9, none⟩ (.int .i64 (k.sides box - 1 - k.tubes[m] 9))) b (.slice (some ⟨g, 0, none⟩) k.tubes.length cap) vp (k.withTubes (mapTo (turnF box (k.sides box) true) k.tubes (m + 1)))) := by
            rw [← e2]; exact r1
          rw [hbx] at t8
          clear r1 e1 e2 HST HSe HSa hbx
          generalize k.tubes[m] = t at *
          generalize k.sides box = sd at *
          go_wp2
          go_roundg (gk - 1)
          case measure => have := HM.out; omega
          case rel => exact ⟨m + 1, by have := HM.out; omega, by go_num, R1.out, hkp.set1 hg _ _⟩
        | false =>
          have e1 : turnF box (k.sides box) false k.tubes[m] = upd (upd k.tubes[m] 9 (k.sides box - 1 - k.tubes[m] 10)) 10 (k.tubes[m] 9) := by unfold turnF; rw [if_pos hbx]; rfl
          have r1 := hK.setTube hg (i := m) (f := 9) hlm (by omega) (k.sides box - 1 - k.tubes[m] 10)
          have r2 := r1.setTube hg (i := m) (f := 10) (by show m < (setT _ m 9 _).length; rw [setT_len]; exact hlm) (by omega) (k.tubes[m] 9)
          have e2 : setT (setT (mapTo (turnF box (k.sides box) false) k.tubes m) m 9 (k.sides box - 1 - k.tubes[m] 10)) m 10 (k.tubes[m] 9) = mapTo (turnF box (k.sides box) false) k.tubes (m + 1) := by
            rw [HST.out, setT_set _ m hlm2, ← e1]; exact HSe.out
          have R1 : Hid (BkAt ((wr.setCell ⟨g, m * 11 + 9, none⟩ (.int .i64 (k.sides box - 1 - k.tubes[m] 10))).setCell ⟨g, m * 11 + 10, none⟩ (.int .i64 (k.tubes[m] 9))) b (.slice (some ⟨g, 0, none⟩) k.tubes.length cap) vp (k.withTubes (mapTo (turnF box (k.sides box) false) k.tubes (m + 1)))) := by
            rw [← e2]; exact r2
          rw [hbx] at t8
          clear r1 r2 e1 e2 HST HSe HSa hbx
          generalize k.tubes[m] = t at *
          generalize k.sides box = sd at *
          go_wp2
          go_roundg (gk - 1)
          case measure => have := HM.out; omega
          case rel => exact ⟨m + 1, by have := HM.out; omega, by go_num, R1.out, (hkp.set1 hg _ _).set1 hg _ _⟩
      · have e1 : turnF box (k.sides box) flip k.tubes[m] = k.tubes[m] := by unfold turnF; rw [if_neg hbx]
        have R1 : Hid (BkAt wr b (.slice (some ⟨g, 0, none⟩) k.tubes.length cap) vp (k.withTubes (mapTo (turnF box (k.sides box) flip) k.tubes (m + 1)))) := by
          rw [← HSa.out e1]; exact hK
        have hbx' : (k.tubes[m] 8 != (box : Int)) = true := by rw [bne_iff_ne]; exact hbx
        clear e1 HST HSe HSa hbx
        generalize k.tubes[m] = t at *
        go_wp2
        go_roundg (gk - 1)
        case measure => have := HM.out; omega
        case rel => exact ⟨m + 1, by have := HM.out; omega, by go_num, R1.out, hkp⟩
    · have hme : m = k.tubes.length := by omega
      have R1 : Hid (BkAt wr b (.slice oa k.tubes.length cap) vp (k.withTubes (k.tubes.map (turnF box (k.sides box) flip)))) := by
        rw [← mapTo_all, ← hme]; rw [hme]; rw [hme] at hK; exact hK
      clear hme
      go_wp2
      go_end0
      exact ⟨rfl, R1.out, hkp⟩

end Go.Proofs.YtbpnllhhmookcaaGreatDoor

/- What pour of the books of package firnref does. -/
namespace Go.Proofs.YtbpnllhhmookcaaGreatDoor
open Go.RowKit

def Bk.withPoured (k : Bk) (ps : List (Nat → Int)) : Bk := { k with poured := ps }
def mkP (a b v : Int) : Nat → Int := fun i => [a, b, v].getD i 0

theorem Tryz.infoPoured : (Tryz.prog.info? 138).map (fun i => (i.zero, i.size, i.bytes)) = some (some (.agg #[.int .i64 0, .int .i64 0, .int .i64 0]), 3, 24) := by kernel_rfl

/-- What pouring leaves of the tubes: the one has less left, the other more. -/
def pourT (ts : List (Nat → Int)) (i j : Nat) (v : Int) : List (Nat → Int) :=
  setT (setT ts i 3 (ts.getD i zeroT 3 - v)) j 3 ((setT ts i 3 (ts.getD i zeroT 3 - v)).getD j zeroT 3 + v)
def pourP (ps : List (Nat → Int)) (a b v : Int) : List (Nat → Int) :=
  if pairI ps a b < 0 then ps ++ [mkP a b v] else setT ps (pairI ps a b).toNat 2 (ps.getD (pairI ps a b).toNat zeroT 2 + v)

theorem wraps64s (n : Int) (h0 : -9223372036854775808 ≤ n) (h1 : n ≤ 9223372036854775807) : IntKind.i64.wrap n = n := by
  simp only [IntKind.wrap, IntKind.bits, IntKind.signed]; simp; omega

theorem BkAt.drew {w : World} {b : Nat} {vt vp : Value} {k : Bk} (h : BkAt w b vt vp k) : BkAt w.drew b vt vp k :=
  ⟨h.lt, h.side, h.ct, h.cp, h.fz, h.tubes, h.poured, h.nt, h.np, h.tp, h.few⟩
theorem BkAt.setPoured {w : World} {b : Nat} {vt vp : Value} {k : Bk} (h : BkAt w b vt vp k) {g : Nat} (hg : vp.ownBlock = some g) {i f : Nat} (hi : i < k.poured.length) (hf : f < 3) (n : Int) :
    BkAt (w.setCell ⟨g, i * 3 + f, none⟩ (.int .i64 n)) b vt vp (k.withPoured (setT k.poured i f n)) := by
  have hgb : ¬ g = b := fun e => h.np (by rw [← e]; exact hg)
  have ho : ∀ j, (w.setCell ⟨g, i * 3 + f, none⟩ (.int .i64 n)).cell? ⟨b, j, none⟩ = w.cell? ⟨b, j, none⟩ := fun j => World.cell?_setCell_other w ⟨g, i * 3 + f, none⟩ ⟨b, j, none⟩ _ (by intro h'; injection h' with h1 _ _; exact hgb h1)
  refine ⟨by simpa using h.lt, fun j hj => (ho j).trans (h.side j hj), (ho 10).trans h.ct, (ho 11).trans h.cp, fun j => by rw [World.frozen?_setCell]; exact h.fz j, h.tubes.setOther (fun e => h.tp g e hg) _, ?_, h.nt, h.np, h.tp, ?_⟩
  · show Recs _ _ 3 vp (setT k.poured i f n)
    have := h.poured.set hg hi hf n
    unfold setT; rw [getD_T hi]; exact this
  · refine ⟨h.few.1, ?_⟩
    show (setT k.poured i f n).length < _
    rw [setT_len]; exact h.few.2
/-- Another list of what was poured is laid into the books. -/
theorem BkAt.newPoured {S : Nat → Prop} {w w1 : World} {b : Nat} {vt vp vp' : Value} {k : Bk} (h : BkAt w b vt vp k) (hk : Keeps S w w1) (hsb : ¬ S b) (hst : ∀ g, vt.ownBlock = some g → ¬ S g) {ps : List (Nat → Int)} (hr : Recs w1 138 3 vp' ps)
    (hd : ∀ g, vp'.ownBlock = some g → g ≠ b ∧ vt.ownBlock ≠ some g) (hf : ps.length < 1000000) : BkAt (w1.setCell ⟨b, 11, none⟩ vp') b vt vp' (k.withPoured ps) := by
  have hlt1 : b < w1.heap.size := Nat.lt_of_lt_of_le h.lt hk.size
  have hc11 : w1.cell? ⟨b, 11, none⟩ = some vp := (hk.cell (p := ⟨b, 11, none⟩) h.lt hsb).trans h.cp
  have ho : ∀ j, j ≠ 11 → (w1.setCell ⟨b, 11, none⟩ vp').cell? ⟨b, j, none⟩ = w.cell? ⟨b, j, none⟩ := fun j hj =>
    (World.cell?_setCell_other w1 ⟨b, 11, none⟩ ⟨b, j, none⟩ _ (by intro h'; injection h' with _ h2 _; exact hj h2.symm)).trans (hk.cell (p := ⟨b, j, none⟩) h.lt hsb)
  refine ⟨by simpa using hlt1, fun j hj => (ho j (by omega)).trans (h.side j hj), (ho 10 (by omega)).trans h.ct, World.cell?_setCell_same w1 ⟨b, 11, none⟩ vp' hc11, fun j => by rw [World.frozen?_setCell]; exact (hk.frozen (p := ⟨b, j, none⟩) h.lt hsb).trans (h.fz j), ?_, ?_, h.nt, ?_, ?_, ?_⟩
  · exact (h.tubes.keeps hk hst).setOther (fun e => h.nt e) _
  · exact hr.setOther (fun e => (hd b e).1 rfl) _
  · intro e; exact (hd b e).1 rfl
  · intro g hg e; exact (hd g e).2 hg
  · exact ⟨h.few.1, hf⟩

theorem own_lower {w : World} {base : Nat} {e : TypeId} {size : Nat} {v : Value} {n : Nat} {xs : List Value} (h : w.ownsRow base e size v n xs) : w.ownsRow 0 e size v n xs := by
  refine ⟨h.1, ?_⟩
  rcases h.2 with hn | ⟨g, cap, cur, rfl, h1, hg, rest⟩
  · exact .inl hn
  · exact .inr ⟨g, cap, cur, rfl, Nat.zero_le _, hg, rest⟩
theorem recs_one (k : Nat) (t : Nat → Int) : recs k [t] = recCells k t := by simp [recs]
theorem p_cells (w : World) (p q v : Int) : ∀ j u, (recCells 3 (mkP p q v))[j]? = some u → (w.alloc (.cells #[.int .i64 p, .int .i64 q, .int .i64 v] 138)).cell? ((⟨w.heap.size, 0, none⟩ : Addr).add j) = some u := by
  intro j u hj
  rw [addr_add, World.cell?_alloc_new]
  have : recCells 3 (mkP p q v) = [.int .i64 p, .int .i64 q, .int .i64 v] := rfl
  rw [this] at hj
  rw [← hj]; simp
theorem rec_one {k : Nat} {t : Nat → Int} : ∀ u ∈ recCells k t, u.oneCell' = true := by
  intro u hu
  simp only [recCells, List.mem_map] at hu
  obtain ⟨i, _, rfl⟩ := hu
  rfl

set_option maxRecDepth 100000 in
set_option maxHeartbeats 1000000 in
theorem bpour_any (b : Nat) (vt vp : Value) (k : Bk) (p q v : Int) (w : World) (h : BkAt w b vt vp k) (hsm : Small k) (hv : 0 ≤ v ∧ v ≤ 1000000000)
    (i j : Nat) (hi : i < k.tubes.length) (hj : j < k.tubes.length) (hij : ¬ i = j) (hfi : findI k.tubes p = i) (hfj : findI k.tubes q = j) (hroom : k.poured.length < 900000) :
    Calls Tryz.prog 74 #[.pointer (some ⟨b, 0, none⟩), .int .i64 p, .int .i64 q, .int .i64 v] w fun e w' => e = .returned (.tuple #[]) ∧ ∃ vp', BkAt w' b vt vp' ((k.withTubes (pourT k.tubes i j v)).withPoured (pourP k.poured p q v)) ∧ (vp'.ownBlock = vp.ownBlock ∨ ∀ g, vp'.ownBlock = some g → w.heap.size ≤ g) ∧ Keeps (bkOwn b vt vp) w w' := by
  obtain ⟨oa, cap, rfl, _⟩ := h.tubes.form
  obtain ⟨g, rfl, hn, hcap, hgl, t0, t1, t2, t3, t4, t5, t6, t7, t8, t9, t10, hfz⟩ := h.tube hi
  obtain ⟨g2, e2, _, _, _, u0, u1, u2, u3, u4, u5, u6, u7, u8, u9, u10, _⟩ := h.tube hj
  injection e2 with e2; injection e2 with e2
  subst e2
  clear t0 t1 t2 t4 t5 t6 t7 t8 t9 t10 u0 u1 u2 u4 u5 u6 u7 u8 u9 u10
  have hct := h.ct
  have hbl := h.lt
  have hfew := h.few.1
  have hg : (Value.slice (some ⟨g, 0, none⟩) k.tubes.length cap).ownBlock = some g := rfl
  have hgb : ¬ g = b := fun e => h.nt (by rw [← e]; rfl)
  have hbg : ¬ b = g := fun e => hgb e.symm
  have hi' : (i : Int) < (k.tubes.length : Int) := by omega
  have hj' : (j : Int) < (k.tubes.length : Int) := by omega
  have hji : ¬ j = i := fun e => hij e.symm
  have bi := hsm.tubes k.tubes[i] (List.getElem_mem hi) 3
  have bj := hsm.tubes k.tubes[j] (List.getElem_mem hj) 3
  have hw1 : IntKind.i64.wrap (k.tubes[i] 3 - v) = k.tubes[i] 3 - v := wraps64s _ (by omega) (by omega)
  have hw2 : IntKind.i64.wrap (k.tubes[j] 3 + v) = k.tubes[j] 3 + v := wraps64s _ (by omega) (by omega)
  have r1 := h.setTube hg (i := i) (f := 3) hi (by omega) (k.tubes[i] 3 - v)
  have r2 := r1.setTube hg (i := j) (f := 3) (by show j < (setT _ i 3 _).length; rw [setT_len]; exact hj) (by omega) (k.tubes[j] 3 + v)
  have eT : pourT k.tubes i j v = setT (setT k.tubes i 3 (k.tubes[i] 3 - v)) j 3 (k.tubes[j] 3 + v) := by
    unfold pourT
    rw [getD_T hi]
    have : (setT k.tubes i 3 (k.tubes[i] 3 - v)).getD j zeroT = k.tubes[j] := by
      rw [getD_T (by rw [setT_len]; exact hj)]
      unfold setT
      rw [List.getElem_set_ne (by omega)]
    rw [this]
  have R2 : Hid (BkAt ((w.setCell ⟨g, i * 11 + 3, none⟩ (.int .i64 (k.tubes[i] 3 - v))).setCell ⟨g, j * 11 + 3, none⟩ (.int .i64 (k.tubes[j] 3 + v))).drew.drew b (.slice (some ⟨g, 0, none⟩) k.tubes.length cap) vp (k.withTubes (pourT k.tubes i j v))) := by
    rw [eT]; exact r2.drew.drew
  have RK : Hid (Keeps (bkOwn b (.slice (some ⟨g, 0, none⟩) k.tubes.length cap) vp) w ((w.setCell ⟨g, i * 11 + 3, none⟩ (.int .i64 (k.tubes[i] 3 - v))).setCell ⟨g, j * 11 + 3, none⟩ (.int .i64 (k.tubes[j] 3 + v))).drew.drew) :=
    (((Keeps.refl _ w).set1 (.inr (.inl hg)) _ _).set1 (.inr (.inl hg)) _ _).drew.drew
  clear r1 r2 eT
  generalize k.tubes[i] 3 = ti at *
  generalize k.tubes[j] 3 = tj at *
  have hne : ¬ (i * 11 + 3 = j * 11 + 3) := by omega
  have hne2 : ¬ (j * 11 + 3 = i * 11 + 3) := by omega
  go_enter Tryz.func74, Tryz.ntmps74
  go_wp2_with (first | (go_at_call_of 69 (Value.int .i64 p); refine (find_any b _ vp k _ _ h).mono ?_; rintro e w ⟨rfl, rfl⟩; rw [hfi]) | (go_at_call 69; refine (find_any b _ vp k _ _ h).mono ?_; rintro e w ⟨rfl, rfl⟩; rw [hfj]))
  go_region
  go_wp2_with fail
  go_region
  go_wp2_with fail
  have hK2 := R2.out
  have hKp := RK.out
  clear R2 RK t3 u3 hct
  generalize ((w.setCell ⟨g, i * 11 + 3, none⟩ (.int .i64 (ti - v))).setCell ⟨g, j * 11 + 3, none⟩ (.int .i64 (tj + v))).drew.drew = w2 at *
  refine (pair_any b _ vp _ _ _ _ hK2).mono ?_
  rintro e w2 ⟨rfl, rfl⟩
  have hK3 : BkAt w2 b (.slice (some ⟨g, 0, none⟩) k.tubes.length cap) vp (k.withTubes (pourT k.tubes i j v)) := hK2
  have hcp := hK3.cp
  have hzz := hKp.size
  have hbl2 := hK3.lt
  have hf11 := hK3.fz 11
  have hown0 : w2.ownsRow 0 138 3 vp k.poured.length (recs 3 k.poured) := hK3.poured
  have hnpb := hK3.np
  have htp := hK3.tp g rfl
  have HN : Hid (∀ g', (Value.slice (some ⟨g, 0, none⟩) k.tubes.length cap).ownBlock = some g' → g' = g) := fun g' h => by injection h with h; exact h.symm
  obtain ⟨ip, hip, hz0, hz1, hz2⟩ := info_parts Tryz.infoPoured
  have hpl : (k.withTubes (pourT k.tubes i j v)).poured = k.poured := rfl
  rw [hpl]
  clear hpl
  -- what is left to say when the new list lies there
  have HEnd : Hid (∀ (w3 : World) (vp' : Value) (ps : List (Nat → Int)), Keeps (fun g' => vp.ownBlock = some g') w2 w3 → Recs w3 138 3 vp' ps → (vp'.ownBlock = vp.ownBlock ∨ ∀ g, vp'.ownBlock = some g → w2.heap.size ≤ g) → ps.length < 1000000 →
      BkAt (w3.setCell ⟨b, 11, none⟩ vp') b (.slice (some ⟨g, 0, none⟩) k.tubes.length cap) vp' ((k.withTubes (pourT k.tubes i j v)).withPoured ps) ∧ (vp'.ownBlock = vp.ownBlock ∨ ∀ g, vp'.ownBlock = some g → w.heap.size ≤ g) ∧ Keeps (bkOwn b (.slice (some ⟨g, 0, none⟩) k.tubes.length cap) vp) w (w3.setCell ⟨b, 11, none⟩ vp')) := by
    intro w3 vp' ps hk3 hr hor hf
    have hglt : g < w2.heap.size := Nat.lt_of_lt_of_le hgl hzz
    refine ⟨hK3.newPoured hk3 (fun e => hnpb e) (fun g' hg' e => by rw [HN.out g' hg'] at e; exact htp e) hr ?_ hf, ?_, ?_⟩
    · intro g' hg'
      rcases hor with hor | hor
      · rw [hor] at hg'
        refine ⟨fun e => hnpb (by rw [← e]; exact hg'), fun e => ?_⟩
        rw [HN.out g' e] at hg'; exact htp hg'
      · have := hor g' hg'
        refine ⟨by omega, fun e => ?_⟩
        rw [HN.out g' e] at this; omega
    · rcases hor with hor | hor
      · exact .inl hor
      · exact .inr (fun g' hg' => Nat.le_trans hzz (hor g' hg'))
    · exact (hKp.trans ((hk3.mono (fun g' _ hg' => .inr (.inr hg'))))).set1 (.inl rfl) _ _
  rcases pairI_cases k.poured p q with ⟨e1, e1', _⟩ | ⟨hm, e1, _⟩
  · have EP : Hid (pourP k.poured p q v = k.poured ++ [mkP p q v]) := by unfold pourP; rw [if_pos e1]; exact hid rfl
    have hlenp : (k.poured ++ [mkP p q v]).length < 1000000 := by simp; omega
    have HFIN : Hid (∀ (base : Nat) (w3 : World) (v' : Value), w3.ownsRow base 138 3 v' (k.poured.length + 1) (recs 3 k.poured ++ recCells 3 (mkP p q v)) → Recs w3 138 3 v' (k.poured ++ [mkP p q v])) := by
      intro base w3 v' ho
      unfold Recs
      rw [recs_append, recs_one, List.length_append]
      exact own_lower ho
    clear e1'
    generalize pairI k.poured p q = pp at *
    rcases hK3.poured.2 with ⟨hv0, hn0⟩ | ⟨gp, cpp, cur, hvp, _, hgp, hle, hcm, _⟩
    · subst hv0
      have hn0' : k.poured = [] := List.eq_nil_of_length_eq_zero hn0
      have hl0 : k.poured.length = 0 := hn0
      clear hn0
      rw [hn0'] at HFIN
      have HN0 := hid hn0'
      clear hn0' hl0
      go_wp2_with (at_builtin; refine wpList_append_grows _ rfl _ _ 83 rfl 138 ip _ 3 24 Tryz.underlying83 hip hz0 hz1 hz2 rfl (by decide) none 0 0 [] rfl (fun _ => ⟨rfl, rfl⟩) rfl (fun b h => by cases h) ⟨w2.heap.size, 0, none⟩ 1 1 (recCells 3 (mkP p q v)) rfl rfl (p_cells w2 p q v) rec_one (by decide) (by decide) (by decide) ?_; intro v' w3 hown' hgrow'; obtain ⟨g3, cap3, rfl⟩ := own_form hown'; have hk3 : Keeps (fun g' => (Value.slice none 0 0).ownBlock = some g') w2 w3 := ((Keeps.refl _ w2).alloc _).grown hgrow' (fun k hk => by cases hk); have hc3 := (hk3.cell (p := ⟨b, 11, none⟩) hbl2 hnpb).trans hcp; have hf3 := (hk3.frozen (p := ⟨b, 11, none⟩) hbl2 hnpb).trans hf11)
      refine bodyPost_ret (v := .tuple #[]) (by simp [results, Tryz.results74, go_sem]) rfl ?_
      refine ⟨rfl, ?_⟩
      rw [EP.out]
      exact ⟨_, HEnd.out w3 _ _ hk3 (by rw [HN0.out]; exact HFIN.out _ w3 _ hown') (.inr (fun g' hg' => by have := (hown'.lt g' hg').1; simp at this; omega)) hlenp⟩
    · subst hvp
      have hgp' : (Value.slice (some ⟨gp, 0, none⟩) k.poured.length cpp).ownBlock = some gp := rfl
      by_cases hroom2 : k.poured.length + 1 ≤ cpp
      · go_wp2_with (at_builtin; refine wpList_append_fits _ rfl _ _ 83 rfl 0 138 ip 3 Tryz.underlying83 hip hz1 gp k.poured.length cpp (recs 3 k.poured) rfl (hown0.alloc _) ⟨w2.heap.size, 0, none⟩ 1 1 (recCells 3 (mkP p q v)) rfl rfl (p_cells w2 p q v) rec_one hroom2 ?_; intro w3 hown' hgrow'; have hk3 : Keeps (fun g' => (Value.slice (some ⟨gp, 0, none⟩) k.poured.length cpp).ownBlock = some g') w2 w3 := ((Keeps.refl _ w2).alloc _).grown hgrow' (fun k hk => .inl hk); have hc3 := (hk3.cell (p := ⟨b, 11, none⟩) hbl2 hnpb).trans hcp; have hf3 := (hk3.frozen (p := ⟨b, 11, none⟩) hbl2 hnpb).trans hf11)
        refine bodyPost_ret (v := .tuple #[]) (by simp [results, Tryz.results74, go_sem]) rfl ?_
        refine ⟨rfl, ?_⟩
        rw [EP.out]
        exact ⟨_, HEnd.out w3 _ _ hk3 (HFIN.out _ w3 _ hown') (.inl rfl) hlenp⟩
      · have hlo : (recs 3 k.poured).length = k.poured.length * 3 := recs_len 3 k.poured
        have hcells : Hid (∀ b', some (⟨gp, 0, none⟩ : Addr) = some b' → ∀ j u, (recs 3 k.poured)[j]? = some u → (w2.alloc (.cells #[.int .i64 p, .int .i64 q, .int .i64 v] 138)).cell? (b'.add j) = some u) := by
          intro b' hb' j u hj
          cases hb'
          exact (hown0.alloc (.cells #[.int .i64 p, .int .i64 q, .int .i64 v] 138)).cells (g := gp) rfl j u hj
        go_wp2_with (at_builtin; refine wpList_append_grows _ rfl _ _ 83 rfl 138 ip _ 3 24 Tryz.underlying83 hip hz0 hz1 hz2 rfl (by decide) (some ⟨gp, 0, none⟩) k.poured.length cpp (recs 3 k.poured) rfl (fun h => by cases h) hlo hcells.out ⟨w2.heap.size, 0, none⟩ 1 1 (recCells 3 (mkP p q v)) rfl rfl (p_cells w2 p q v) rec_one (by omega) (by unfold maxLen; omega) (by omega) ?_; intro v' w3 hown' hgrow'; obtain ⟨g3, cap3, rfl⟩ := own_form hown'; have hk3 : Keeps (fun g' => (Value.slice (some ⟨gp, 0, none⟩) k.poured.length cpp).ownBlock = some g') w2 w3 := ((Keeps.refl _ w2).alloc _).grown hgrow' (fun k hk => by cases hk); have hc3 := (hk3.cell (p := ⟨b, 11, none⟩) hbl2 hnpb).trans hcp; have hf3 := (hk3.frozen (p := ⟨b, 11, none⟩) hbl2 hnpb).trans hf11)
        refine bodyPost_ret (v := .tuple #[]) (by simp [results, Tryz.results74, go_sem]) rfl ?_
        refine ⟨rfl, ?_⟩
        rw [EP.out]
        exact ⟨_, HEnd.out w3 _ _ hk3 (HFIN.out _ w3 _ hown') (.inr (fun g' hg' => by have := (hown'.lt g' hg').1; simp at this; omega)) hlenp⟩
  · have EP : Hid (pourP k.poured p q v = setT k.poured (pairI k.poured p q).toNat 2 (k.poured[(pairI k.poured p q).toNat] 2 + v)) := by
      unfold pourP; rw [if_neg (by omega), getD_T hm]; exact hid rfl
    obtain ⟨op, cpp, rfl, _⟩ := hK3.poured.form
    have hK4 : BkAt w2 b (.slice (some ⟨g, 0, none⟩) k.tubes.length cap) (.slice op k.poured.length cpp) (k.withTubes (pourT k.tubes i j v)) := hK3
    obtain ⟨gp, rfl, _, hcpp, hgpl, c0, c1, c2, hfzp⟩ := hK4.pouredCell (m := (pairI k.poured p q).toNat) hm
    have hc2 : w2.cell? ⟨gp, (pairI k.poured p q).toNat * 3 + 2, none⟩ = some (.int .i64 (k.poured[(pairI k.poured p q).toNat] 2)) := c2
    have bp := hsm.poured k.poured[(pairI k.poured p q).toNat] (List.getElem_mem hm) 2
    have r1 := hK4.setPoured (g := gp) rfl (i := (pairI k.poured p q).toNat) (f := 2) hm (by omega) (k.poured[(pairI k.poured p q).toNat] 2 + v)
    have R1 : Hid (BkAt ((w2.setCell ⟨gp, (pairI k.poured p q).toNat * 3 + 2, none⟩ (.int .i64 (k.poured[(pairI k.poured p q).toNat] 2 + v))).drew) b (.slice (some ⟨g, 0, none⟩) k.tubes.length cap) (.slice (some ⟨gp, 0, none⟩) k.poured.length cpp) ((k.withTubes (pourT k.tubes i j v)).withPoured (pourP k.poured p q v))) := by
      rw [EP.out]; exact r1.drew
    have hgpb : ¬ gp = b := fun e => hnpb (by rw [← e]; rfl)
    have hbgp : ¬ b = gp := fun e => hgpb e.symm
    have hfzp2 := hfzp ((pairI k.poured p q).toNat * 3 + 2)
    have hplen := hK3.few.2
    have hpl2 : k.poured.length < 1000000 := hplen
    clear r1 c0 c1 c2 hfzp hplen EP HEnd
    generalize k.poured[(pairI k.poured p q).toNat] 2 = pv at *
    generalize pairI k.poured p q = pp at *
    have hm' : pp < (k.poured.length : Int) := by omega
    have hw3 : IntKind.i64.wrap (pv + v) = pv + v := wraps64s _ (by omega) (by omega)
    have hcp' : w2.cell? ⟨b, 11, none⟩ = some (.slice (some ⟨gp, 0, none⟩) k.poured.length cpp) := hcp
    clear hcp
    go_wp2_with fail
    go_region
    go_wp2
    go_end0
    exact ⟨rfl, _, R1.out, .inl rfl, (hKp.set1 (.inr (.inr rfl)) _ _).drew⟩

end Go.Proofs.YtbpnllhhmookcaaGreatDoor

/- What add of the books of package firnref does. -/
namespace Go.Proofs.YtbpnllhhmookcaaGreatDoor
open Go.RowKit

/-- Where a tube goes in a list by rising numbers. -/
def insAt (ts : List (Nat → Int)) (id : Int) : Nat := ts.findIdx fun t => !decide (t 0 < id)
def addT (ts : List (Nat → Int)) (t : Nat → Int) : List (Nat → Int) := ts.take (insAt ts (t 0)) ++ [t] ++ ts.drop (insAt ts (t 0))
theorem insAt_le (ts : List (Nat → Int)) (id : Int) : insAt ts id ≤ ts.length := List.findIdx_le_length
theorem insAt_hit {ts : List (Nat → Int)} {id : Int} {k : Nat} (hk : k < ts.length) (h : ¬ ts[k] 0 < id) (hb : ∀ j (hj : j < k), ts[j] 0 < id) : insAt ts id = k := by
  unfold insAt
  exact (List.findIdx_eq hk).2 ⟨by simpa using h, fun j hj => by have := hb j hj; simp [this]⟩
theorem insAt_end {ts : List (Nat → Int)} {id : Int} (hb : ∀ j (hj : j < ts.length), ts[j] 0 < id) : insAt ts id = ts.length := by
  unfold insAt
  refine List.findIdx_eq_length.2 (fun t ht => ?_)
  obtain ⟨j, hj, rfl⟩ := List.getElem_of_mem ht
  have := hb j hj
  simp [this]

theorem Tryz.infoTube : (Tryz.prog.info? 93).map (fun i => (i.zero, i.size, i.bytes)) = some (some (.agg #[.int .i64 0, .int .i64 0, .int .i64 0, .int .i64 0, .int .i64 0, .int .i64 0, .int .i64 0, .int .i64 0, .int .i64 0, .int .i64 0, .int .i64 0]), 11, 88) := by kernel_rfl

theorem t_cells (w : World) (t : Nat → Int) : ∀ j u, (recCells 11 t)[j]? = some u → (w.alloc (.cells #[.int .i64 (t 0), .int .i64 (t 1), .int .i64 (t 2), .int .i64 (t 3), .int .i64 (t 4), .int .i64 (t 5), .int .i64 (t 6), .int .i64 (t 7), .int .i64 (t 8), .int .i64 (t 9), .int .i64 (t 10)] 93)).cell? ((⟨w.heap.size, 0, none⟩ : Addr).add j) = some u := by
  intro j u hj
  rw [addr_add, World.cell?_alloc_new]
  have : recCells 11 t = [.int .i64 (t 0), .int .i64 (t 1), .int .i64 (t 2), .int .i64 (t 3), .int .i64 (t 4), .int .i64 (t 5), .int .i64 (t 6), .int .i64 (t 7), .int .i64 (t 8), .int .i64 (t 9), .int .i64 (t 10)] := rfl
  rw [this] at hj
  rw [← hj]; simp
theorem recs_oneCell {k : Nat} {l : List (Nat → Int)} : ∀ u ∈ recs k l, u.oneCell' = true := by
  intro u hu
  simp only [recs, List.mem_flatMap] at hu
  obtain ⟨t, _, ht⟩ := hu
  exact rec_one u ht

theorem addr_add2 (g o j : Nat) : ((⟨g, o, none⟩ : Addr).add j) = ⟨g, o + j, none⟩ := by unfold Addr.add; split <;> simp_all
/-- Another list of tubes is laid into the books. -/
theorem BkAt.newTubes {S : Nat → Prop} {w w1 : World} {b : Nat} {vt vt' vp : Value} {k : Bk} (h : BkAt w b vt vp k) (hk : Keeps S w w1) (hsb : ¬ S b) (hsp : ∀ g, vp.ownBlock = some g → ¬ S g) {ts : List (Nat → Int)} (hr : Recs w1 93 11 vt' ts)
    (hd : ∀ g, vt'.ownBlock = some g → g ≠ b ∧ vp.ownBlock ≠ some g) (hf : ts.length < 1000000) : BkAt (w1.setCell ⟨b, 10, none⟩ vt') b vt' vp (k.withTubes ts) := by
  have hlt1 : b < w1.heap.size := Nat.lt_of_lt_of_le h.lt hk.size
  have hc10 : w1.cell? ⟨b, 10, none⟩ = some vt := (hk.cell (p := ⟨b, 10, none⟩) h.lt hsb).trans h.ct
  have ho : ∀ j, j ≠ 10 → (w1.setCell ⟨b, 10, none⟩ vt').cell? ⟨b, j, none⟩ = w.cell? ⟨b, j, none⟩ := fun j hj =>
    (World.cell?_setCell_other w1 ⟨b, 10, none⟩ ⟨b, j, none⟩ _ (by intro h'; injection h' with _ h2 _; exact hj h2.symm)).trans (hk.cell (p := ⟨b, j, none⟩) h.lt hsb)
  refine ⟨by simpa using hlt1, fun j hj => (ho j (by omega)).trans (h.side j hj), World.cell?_setCell_same w1 ⟨b, 10, none⟩ vt' hc10, (ho 11 (by omega)).trans h.cp, fun j => by rw [World.frozen?_setCell]; exact (hk.frozen (p := ⟨b, j, none⟩) h.lt hsb).trans (h.fz j), ?_, ?_, ?_, h.np, ?_, ?_⟩
  · exact hr.setOther (fun e => (hd b e).1 rfl) _
  · exact (h.poured.keeps hk hsp).setOther (fun e => h.np e) _
  · intro e; exact (hd b e).1 rfl
  · intro g hg e; exact (hd g hg).2 e
  · exact ⟨hf, h.few.2⟩

set_option maxRecDepth 100000 in
set_option maxHeartbeats 1000000 in
theorem badd_any (b : Nat) (vp : Value) (g cap : Nat) (k : Bk) (t : Nat → Int) (w : World) (h : BkAt w b (.slice (some ⟨g, 0, none⟩) k.tubes.length cap) vp k) (hcap : k.tubes.length ≤ cap) (hroom : k.tubes.length < 900000) :
    Calls Tryz.prog 73 #[.pointer (some ⟨b, 0, none⟩), .agg #[.int .i64 (t 0), .int .i64 (t 1), .int .i64 (t 2), .int .i64 (t 3), .int .i64 (t 4), .int .i64 (t 5), .int .i64 (t 6), .int .i64 (t 7), .int .i64 (t 8), .int .i64 (t 9), .int .i64 (t 10)]] w fun e w' => e = .returned (.tuple #[]) ∧ ∃ vt', BkAt w' b vt' vp (k.withTubes (addT k.tubes t)) ∧ (∀ g, vt'.ownBlock = some g → w.heap.size ≤ g) ∧ Keeps (fun g => g = b) w w' := by
  have hct := h.ct
  have hbl := h.lt
  have hT0 := HasR.new11 w 93 t
  have hb0 := (Below.refl w.heap.size w).alloc (Nat.le_refl _) (.cells #[.int .i64 (t 0), .int .i64 (t 1), .int .i64 (t 2), .int .i64 (t 3), .int .i64 (t 4), .int .i64 (t 5), .int .i64 (t 6), .int .i64 (t 7), .int .i64 (t 8), .int .i64 (t 9), .int .i64 (t 10)] 93)
  have hK0 := h.below hb0
  have hz0 : (w.alloc (.cells #[.int .i64 (t 0), .int .i64 (t 1), .int .i64 (t 2), .int .i64 (t 3), .int .i64 (t 4), .int .i64 (t 5), .int .i64 (t 6), .int .i64 (t 7), .int .i64 (t 8), .int .i64 (t 9), .int .i64 (t 10)] 93)).heap.size = w.heap.size + 1 := by simp
  go_enter Tryz.func73, Tryz.ntmps73
  go_wp2_with fail
  generalize w.alloc (.cells #[.int .i64 (t 0), .int .i64 (t 1), .int .i64 (t 2), .int .i64 (t 3), .int .i64 (t 4), .int .i64 (t 5), .int .i64 (t 6), .int .i64 (t 7), .int .i64 (t 8), .int .i64 (t 9), .int .i64 (t 10)] 93) = w1 at *
  go_loopw [4] (fun i wr => ∃ m nd : Nat, m ≤ k.tubes.length ∧ i = .int .i64 m ∧ wr = w1.drewN nd ∧ ∀ j (hj : j < m) (hj' : j < k.tubes.length), k.tubes[j] 0 < t 0) (fun i _ => k.tubes.length - (intOf i).toNat)
  case atStart => exact ⟨0, 0, Nat.zero_le _, rfl, rfl, fun j hj => by omega⟩
  case round =>
    obtain ⟨m, nd, hm, rfl, rfl, hno⟩ := hrel
    have HNo := hid hno
    clear hno
    have hc10 := hK0.ct
    have hu0 := hT0.1 0 (by omega)
    by_cases hlt : m < k.tubes.length
    · obtain ⟨g', e', _, _, hgl, t0, _⟩ := hK0.tube hlt
      injection e' with e'; injection e' with e'
      subst e'
      have hlt' : (m : Int) < (k.tubes.length : Int) := by omega
      by_cases hid0 : k.tubes[m] 0 < t 0
      · have HNe : Hid (∀ j (hj : j < m + 1) (hj' : j < k.tubes.length), k.tubes[j] 0 < t 0) := by
          intro j hj hj'
          by_cases e : j = m
          · subst e; exact hid0
          · exact HNo.out j (by omega) hj'
        generalize k.tubes[m] 0 = z at *
        go_wp2_with fail
        go_quiet (fail)
        go_wp2
        go_roundw
        case rel => exact ⟨m + 1, _, by omega, by go_num, rfl, HNe.out⟩
        case measure => simp [intOf]; omega
      · have HI := hid (insAt_hit hlt hid0 (fun j hj => HNo.out j hj (by omega)))
        have hid0' : decide (k.tubes[m] 0 < t 0) = false := by simpa using hid0
        generalize k.tubes[m] 0 = z at *
        go_wp2_with fail
        go_quiet (fail)
        rw [World.drewN_drewN]
        have HIm : Hid (insAt k.tubes (t 0) = m) := hid (HI.out)
        clear HI
        have hKq : BkAt (w1.drewN (nd + nq)) b (.slice (some ⟨g, 0, none⟩) k.tubes.length cap) vp k := hK0.below (below_drewN (Below.refl _ _) (nd + nq))
        have hTq : HasR 11 (w1.drewN (nd + nq)) w.heap.size t := hT0.below (B := w1.heap.size) (below_drewN (Below.refl _ _) (nd + nq)) (by omega)
        have hbq : Below w.heap.size w (w1.drewN (nd + nq)) := below_drewN hb0 (nd + nq)
        have hzq : (w1.drewN (nd + nq)).heap.size = w.heap.size + 1 := hz0
        generalize w1.drewN (nd + nq) = wq at *
        clear hK0 hT0 hb0 hz0 hc10 hu0
        have hcq := hKq.ct
        have hown0 : wq.ownsRow 0 93 11 (.slice (some ⟨g, 0, none⟩) k.tubes.length cap) k.tubes.length (recs 11 k.tubes) := hKq.tubes
        obtain ⟨it, hit, hz0, hz1, hz2⟩ := info_parts Tryz.infoTube
        have hsz1 := hzq
        have hl1 : (recs 11 (k.tubes.take m)).length = m * 11 := by rw [recs_len, List.length_take]; congr 1; omega
        have HN1 : Hid (∀ j u, (recs 11 (k.tubes.take m))[j]? = some u → wq.cell? ((⟨g, 0, none⟩ : Addr).add j) = some u) := by
          intro j u hj
          refine hown0.cells (g := g) rfl j u ?_
          have e : recs 11 k.tubes = recs 11 (k.tubes.take m) ++ recs 11 (k.tubes.drop m) := by rw [← recs_append, List.take_append_drop]
          rw [e, List.getElem?_append_left]
          · exact hj
          · exact (List.getElem?_eq_some_iff.1 hj).1
        have hmc : m ≤ cap := by omega
        have hgw : g < w.heap.size := h.own_lt (.inr (.inl rfl))
        have hfq := hKq.fz 10
        have hl2 : (recs 11 (k.tubes.drop m)).length = (k.tubes.length - m) * 11 := by rw [recs_len, List.length_drop]
        have HN2 : Hid (∀ (w5 : World), Below (w.heap.size + 1) wq w5 → ∀ j u, (recs 11 (k.tubes.drop m))[j]? = some u → w5.cell? ((⟨g, m * 11, none⟩ : Addr).add j) = some u) := by
          intro w5 hk2 j u hj
          rw [addr_add2]
          refine (hk2.cell (p := ⟨g, m * 11 + j, none⟩) (by show g < _; omega)).trans ?_
          have := hown0.cells (g := g) rfl (m * 11 + j) u (by
            have e : recs 11 k.tubes = recs 11 (k.tubes.take m) ++ recs 11 (k.tubes.drop m) := by rw [← recs_append, List.take_append_drop]
            rw [e, List.getElem?_append_right (by omega), hl1, Nat.add_sub_cancel_left]; exact hj)
          rw [addr_add] at this; exact this
        have hbq2 := hKq.lt
        go_wp2_with (first
          | (at_builtin; refine wpList_append_own _ rfl (.tmp 28) (.tmp 34) 82 rfl (w.heap.size + 1) 93 it _ 11 88 Tryz.underlying82 hit hz0 hz1 hz2 rfl (by decide) (.slice none 0 0) 0 [] rfl (World.ownsRow_nil _ _ _ _) ⟨g, 0, none⟩ m cap (recs 11 (k.tubes.take m)) rfl hl1 HN1.out recs_oneCell (by unfold maxLen; omega) (by omega) (by omega) ?_; intro v1 w3 hown1 hgrow1 _; have hk1 : Below (w.heap.size + 1) wq w3 := (Below.refl _ wq).grown hgrow1 (by omega) (fun k hk => by cases hk); have hT3 := hTq.below hk1 (by omega); have hsz3 := hk1.size; have x0 := hT3.1 0 (by omega); have x1 := hT3.1 1 (by omega); have x2 := hT3.1 2 (by omega); have x3 := hT3.1 3 (by omega); have x4 := hT3.1 4 (by omega); have x5 := hT3.1 5 (by omega); have x6 := hT3.1 6 (by omega); have x7 := hT3.1 7 (by omega); have x8 := hT3.1 8 (by omega); have x9 := hT3.1 9 (by omega); have x10 := hT3.1 10 (by omega))
          | (at_builtin; refine wpList_append_own _ rfl (.tmp 36) (.tmp 38) 82 rfl (w.heap.size + 1) 93 it _ 11 88 Tryz.underlying82 hit hz0 hz1 hz2 rfl (by decide) v1 (0 + m) ([] ++ recs 11 (k.tubes.take m)) rfl (hown1.alloc _) ⟨w3.heap.size, 0, none⟩ 1 1 (recCells 11 t) rfl rfl (t_cells w3 t) rec_one (by unfold maxLen; omega) (by omega) (by simp; omega) ?_; intro v2 w5 hown2 hgrow2 _; obtain ⟨g2, cap2, rfl⟩ := own_form hown2; simp only [Nat.zero_add, List.nil_append] at hown2; have hk2 : Below (w.heap.size + 1) wq w5 := (hk1.alloc (by omega) _).grown hgrow2 (by simp; omega) (fun k hk => (hown1.lt k hk).1); have hc5 := (hk2.cell (p := ⟨b, 10, none⟩) (by show b < _; omega)).trans hcq; have hsz5 := hk2.size)
          | (at_builtin; refine wpList_append_own _ rfl (.tmp 41) (.tmp 47) 82 rfl (w.heap.size + 1) 93 it _ 11 88 Tryz.underlying82 hit hz0 hz1 hz2 rfl (by decide) (.slice (some ⟨g2, 0, none⟩) (m + 1) cap2) (m + 1) (recs 11 (k.tubes.take m) ++ recCells 11 t) rfl hown2 ⟨g, m * 11, none⟩ (k.tubes.length - m) (cap - m) (recs 11 (k.tubes.drop m)) rfl hl2 (HN2.out w5 hk2) recs_oneCell (by unfold maxLen; omega) (by omega) (by omega) ?_; intro v3 w6 hown3 hgrow3 _; have hone : m + 1 + (k.tubes.length - m) = k.tubes.length + 1 := (by omega); rw [hone] at hown3; obtain ⟨g3, cap3, rfl⟩ := own_form hown3; have hk3 : Below (w.heap.size + 1) wq w6 := hk2.grown hgrow3 (by omega) (fun k hk => (hown2.lt k hk).1); have hc6 := (hk3.cell (p := ⟨b, 10, none⟩) (by show b < _; omega)).trans hcq; have hf6 := (hk3.frozen (p := ⟨b, 10, none⟩) (by show b < _; omega)).trans hfq))
        go_end0
        have hR : Recs w6 93 11 (.slice (some ⟨g3, 0, none⟩) (k.tubes.length + 1) cap3) (addT k.tubes t) := by
          have el : (addT k.tubes t).length = k.tubes.length + 1 := by unfold addT; rw [HIm.out]; simp; omega
          have er : recs 11 (addT k.tubes t) = recs 11 (k.tubes.take m) ++ recCells 11 t ++ recs 11 (k.tubes.drop m) := by
            unfold addT; rw [HIm.out, recs_append, recs_append, recs_one]
          unfold Recs
          rw [el, er]
          exact own_lower hown3
        have hg3 := (hown3.lt g3 rfl).1
        have hkw : Keeps (fun _ => False) wq w6 := (Keeps.refl _ wq).below hk3 (by omega)
        refine ⟨rfl, _, hKq.newTubes hkw (fun e => e) (fun _ _ e => e) hR ?_ ?_, ?_, ?_⟩
        · intro g' hg'
          have e3 : g3 = g' := by simpa [Value.ownBlock] using hg'
          refine ⟨by omega, fun e => ?_⟩
          have := h.own_lt (.inr (.inr e))
          omega
        · show (addT k.tubes t).length < _
          unfold addT; rw [HIm.out]; simp; omega
        · intro g' hg'
          have e3 : g3 = g' := by simpa [Value.ownBlock] using hg'
          omega
        · exact (((Keeps.refl (fun g => g = b) w).below hbq (Nat.le_refl _)).below (hk3.mono (Nat.le_succ _)) (Nat.le_refl _)).set1 rfl _ _
    · have hme : m = k.tubes.length := by omega
      have HI : Hid (insAt k.tubes (t 0) = m) := by rw [hme]; exact insAt_end (fun j hj => HNo.out j (by omega) hj)
      have hlt2 : decide ((m : Int) < (k.tubes.length : Int)) = false := by simp; omega
      clear hme
      by_cases hcm : m < cap
      · go_wp2_with fail
        go_quiet (fail)
        rw [World.drewN_drewN]
        have HIm : Hid (insAt k.tubes (t 0) = m) := hid (HI.out)
        clear HI
        have hKq : BkAt (w1.drewN (nd + nq)) b (.slice (some ⟨g, 0, none⟩) k.tubes.length cap) vp k := hK0.below (below_drewN (Below.refl _ _) (nd + nq))
        have hTq : HasR 11 (w1.drewN (nd + nq)) w.heap.size t := hT0.below (B := w1.heap.size) (below_drewN (Below.refl _ _) (nd + nq)) (by omega)
        have hbq : Below w.heap.size w (w1.drewN (nd + nq)) := below_drewN hb0 (nd + nq)
        have hzq : (w1.drewN (nd + nq)).heap.size = w.heap.size + 1 := hz0
        generalize w1.drewN (nd + nq) = wq at *
        clear hK0 hT0 hb0 hz0 hc10 hu0
        have hcq := hKq.ct
        have hown0 : wq.ownsRow 0 93 11 (.slice (some ⟨g, 0, none⟩) k.tubes.length cap) k.tubes.length (recs 11 k.tubes) := hKq.tubes
        obtain ⟨it, hit, hz0, hz1, hz2⟩ := info_parts Tryz.infoTube
        have hsz1 := hzq
        have hl1 : (recs 11 (k.tubes.take m)).length = m * 11 := by rw [recs_len, List.length_take]; congr 1; omega
        have HN1 : Hid (∀ j u, (recs 11 (k.tubes.take m))[j]? = some u → wq.cell? ((⟨g, 0, none⟩ : Addr).add j) = some u) := by
          intro j u hj
          refine hown0.cells (g := g) rfl j u ?_
          have e : recs 11 k.tubes = recs 11 (k.tubes.take m) ++ recs 11 (k.tubes.drop m) := by rw [← recs_append, List.take_append_drop]
          rw [e, List.getElem?_append_left]
          · exact hj
          · exact (List.getElem?_eq_some_iff.1 hj).1
        have hmc : m ≤ cap := by omega
        have hgw : g < w.heap.size := h.own_lt (.inr (.inl rfl))
        have hfq := hKq.fz 10
        have hl2 : (recs 11 (k.tubes.drop m)).length = (k.tubes.length - m) * 11 := by rw [recs_len, List.length_drop]
        have HN2 : Hid (∀ (w5 : World) (ad : Addr) j u, (recs 11 (k.tubes.drop m))[j]? = some u → w5.cell? (ad.add j) = some u) := by
          intro w5 ad j u hj
          rw [List.drop_of_length_le (by omega)] at hj
          simp [recs] at hj
        have hbq2 := hKq.lt
        go_wp2_with (first
          | (at_builtin; refine wpList_append_own _ rfl (.tmp 28) (.tmp 34) 82 rfl (w.heap.size + 1) 93 it _ 11 88 Tryz.underlying82 hit hz0 hz1 hz2 rfl (by decide) (.slice none 0 0) 0 [] rfl (World.ownsRow_nil _ _ _ _) ⟨g, 0, none⟩ m cap (recs 11 (k.tubes.take m)) rfl hl1 HN1.out recs_oneCell (by unfold maxLen; omega) (by omega) (by omega) ?_; intro v1 w3 hown1 hgrow1 _; have hk1 : Below (w.heap.size + 1) wq w3 := (Below.refl _ wq).grown hgrow1 (by omega) (fun k hk => by cases hk); have hT3 := hTq.below hk1 (by omega); have hsz3 := hk1.size; have x0 := hT3.1 0 (by omega); have x1 := hT3.1 1 (by omega); have x2 := hT3.1 2 (by omega); have x3 := hT3.1 3 (by omega); have x4 := hT3.1 4 (by omega); have x5 := hT3.1 5 (by omega); have x6 := hT3.1 6 (by omega); have x7 := hT3.1 7 (by omega); have x8 := hT3.1 8 (by omega); have x9 := hT3.1 9 (by omega); have x10 := hT3.1 10 (by omega))
          | (at_builtin; refine wpList_append_own _ rfl (.tmp 36) (.tmp 38) 82 rfl (w.heap.size + 1) 93 it _ 11 88 Tryz.underlying82 hit hz0 hz1 hz2 rfl (by decide) v1 (0 + m) ([] ++ recs 11 (k.tubes.take m)) rfl (hown1.alloc _) ⟨w3.heap.size, 0, none⟩ 1 1 (recCells 11 t) rfl rfl (t_cells w3 t) rec_one (by unfold maxLen; omega) (by omega) (by simp; omega) ?_; intro v2 w5 hown2 hgrow2 _; obtain ⟨g2, cap2, rfl⟩ := own_form hown2; simp only [Nat.zero_add, List.nil_append] at hown2; have hk2 : Below (w.heap.size + 1) wq w5 := (hk1.alloc (by omega) _).grown hgrow2 (by simp; omega) (fun k hk => (hown1.lt k hk).1); have hc5 := (hk2.cell (p := ⟨b, 10, none⟩) (by show b < _; omega)).trans hcq; have hsz5 := hk2.size)
          | (at_builtin; refine wpList_append_own _ rfl (.tmp 41) (.tmp 47) 82 rfl (w.heap.size + 1) 93 it _ 11 88 Tryz.underlying82 hit hz0 hz1 hz2 rfl (by decide) (.slice (some ⟨g2, 0, none⟩) (m + 1) cap2) (m + 1) (recs 11 (k.tubes.take m) ++ recCells 11 t) rfl hown2 _ (k.tubes.length - m) (cap - m) (recs 11 (k.tubes.drop m)) rfl hl2 (HN2.out w5 _) recs_oneCell (by unfold maxLen; omega) (by omega) (by omega) ?_; intro v3 w6 hown3 hgrow3 _; have hone : m + 1 + (k.tubes.length - m) = k.tubes.length + 1 := (by omega); rw [hone] at hown3; obtain ⟨g3, cap3, rfl⟩ := own_form hown3; have hk3 : Below (w.heap.size + 1) wq w6 := hk2.grown hgrow3 (by omega) (fun k hk => (hown2.lt k hk).1); have hc6 := (hk3.cell (p := ⟨b, 10, none⟩) (by show b < _; omega)).trans hcq; have hf6 := (hk3.frozen (p := ⟨b, 10, none⟩) (by show b < _; omega)).trans hfq))
        go_end0
        have hR : Recs w6 93 11 (.slice (some ⟨g3, 0, none⟩) (k.tubes.length + 1) cap3) (addT k.tubes t) := by
          have el : (addT k.tubes t).length = k.tubes.length + 1 := by unfold addT; rw [HIm.out]; simp; omega
          have er : recs 11 (addT k.tubes t) = recs 11 (k.tubes.take m) ++ recCells 11 t ++ recs 11 (k.tubes.drop m) := by
            unfold addT; rw [HIm.out, recs_append, recs_append, recs_one]
          unfold Recs
          rw [el, er]
          exact own_lower hown3
        have hg3 := (hown3.lt g3 rfl).1
        have hkw : Keeps (fun _ => False) wq w6 := (Keeps.refl _ wq).below hk3 (by omega)
        refine ⟨rfl, _, hKq.newTubes hkw (fun e => e) (fun _ _ e => e) hR ?_ ?_, ?_, ?_⟩
        · intro g' hg'
          have e3 : g3 = g' := by simpa [Value.ownBlock] using hg'
          refine ⟨by omega, fun e => ?_⟩
          have := h.own_lt (.inr (.inr e))
          omega
        · show (addT k.tubes t).length < _
          unfold addT; rw [HIm.out]; simp; omega
        · intro g' hg'
          have e3 : g3 = g' := by simpa [Value.ownBlock] using hg'
          omega
        · exact (((Keeps.refl (fun g => g = b) w).below hbq (Nat.le_refl _)).below (hk3.mono (Nat.le_succ _)) (Nat.le_refl _)).set1 rfl _ _
      · have hcm2 : cap ≤ m := by omega
        go_wp2_with fail
        go_quiet (fail)
        rw [World.drewN_drewN]
        have HIm : Hid (insAt k.tubes (t 0) = m) := hid (HI.out)
        clear HI
        have hKq : BkAt (w1.drewN (nd + nq)) b (.slice (some ⟨g, 0, none⟩) k.tubes.length cap) vp k := hK0.below (below_drewN (Below.refl _ _) (nd + nq))
        have hTq : HasR 11 (w1.drewN (nd + nq)) w.heap.size t := hT0.below (B := w1.heap.size) (below_drewN (Below.refl _ _) (nd + nq)) (by omega)
        have hbq : Below w.heap.size w (w1.drewN (nd + nq)) := below_drewN hb0 (nd + nq)
        have hzq : (w1.drewN (nd + nq)).heap.size = w.heap.size + 1 := hz0
        generalize w1.drewN (nd + nq) = wq at *
        clear hK0 hT0 hb0 hz0 hc10 hu0
        have hcq := hKq.ct
        have hown0 : wq.ownsRow 0 93 11 (.slice (some ⟨g, 0, none⟩) k.tubes.length cap) k.tubes.length (recs 11 k.tubes) := hKq.tubes
        obtain ⟨it, hit, hz0, hz1, hz2⟩ := info_parts Tryz.infoTube
        have hsz1 := hzq
        have hl1 : (recs 11 (k.tubes.take m)).length = m * 11 := by rw [recs_len, List.length_take]; congr 1; omega
        have HN1 : Hid (∀ j u, (recs 11 (k.tubes.take m))[j]? = some u → wq.cell? ((⟨g, 0, none⟩ : Addr).add j) = some u) := by
          intro j u hj
          refine hown0.cells (g := g) rfl j u ?_
          have e : recs 11 k.tubes = recs 11 (k.tubes.take m) ++ recs 11 (k.tubes.drop m) := by rw [← recs_append, List.take_append_drop]
          rw [e, List.getElem?_append_left]
          · exact hj
          · exact (List.getElem?_eq_some_iff.1 hj).1
        have hmc : m ≤ cap := by omega
        have hgw : g < w.heap.size := h.own_lt (.inr (.inl rfl))
        have hfq := hKq.fz 10
        have hl2 : (recs 11 (k.tubes.drop m)).length = (k.tubes.length - m) * 11 := by rw [recs_len, List.length_drop]
        have HN2 : Hid (∀ (w5 : World) (ad : Addr) j u, (recs 11 (k.tubes.drop m))[j]? = some u → w5.cell? (ad.add j) = some u) := by
          intro w5 ad j u hj
          rw [List.drop_of_length_le (by omega)] at hj
          simp [recs] at hj
        have hbq2 := hKq.lt
        go_wp2_with (first
          | (at_builtin; refine wpList_append_own _ rfl (.tmp 28) (.tmp 34) 82 rfl (w.heap.size + 1) 93 it _ 11 88 Tryz.underlying82 hit hz0 hz1 hz2 rfl (by decide) (.slice none 0 0) 0 [] rfl (World.ownsRow_nil _ _ _ _) ⟨g, 0, none⟩ m cap (recs 11 (k.tubes.take m)) rfl hl1 HN1.out recs_oneCell (by unfold maxLen; omega) (by omega) (by omega) ?_; intro v1 w3 hown1 hgrow1 _; have hk1 : Below (w.heap.size + 1) wq w3 := (Below.refl _ wq).grown hgrow1 (by omega) (fun k hk => by cases hk); have hT3 := hTq.below hk1 (by omega); have hsz3 := hk1.size; have x0 := hT3.1 0 (by omega); have x1 := hT3.1 1 (by omega); have x2 := hT3.1 2 (by omega); have x3 := hT3.1 3 (by omega); have x4 := hT3.1 4 (by omega); have x5 := hT3.1 5 (by omega); have x6 := hT3.1 6 (by omega); have x7 := hT3.1 7 (by omega); have x8 := hT3.1 8 (by omega); have x9 := hT3.1 9 (by omega); have x10 := hT3.1 10 (by omega))
          | (at_builtin; refine wpList_append_own _ rfl (.tmp 36) (.tmp 38) 82 rfl (w.heap.size + 1) 93 it _ 11 88 Tryz.underlying82 hit hz0 hz1 hz2 rfl (by decide) v1 (0 + m) ([] ++ recs 11 (k.tubes.take m)) rfl (hown1.alloc _) ⟨w3.heap.size, 0, none⟩ 1 1 (recCells 11 t) rfl rfl (t_cells w3 t) rec_one (by unfold maxLen; omega) (by omega) (by simp; omega) ?_; intro v2 w5 hown2 hgrow2 _; obtain ⟨g2, cap2, rfl⟩ := own_form hown2; simp only [Nat.zero_add, List.nil_append] at hown2; have hk2 : Below (w.heap.size + 1) wq w5 := (hk1.alloc (by omega) _).grown hgrow2 (by simp; omega) (fun k hk => (hown1.lt k hk).1); have hc5 := (hk2.cell (p := ⟨b, 10, none⟩) (by show b < _; omega)).trans hcq; have hsz5 := hk2.size)
          | (at_builtin; refine wpList_append_own _ rfl (.tmp 41) (.tmp 47) 82 rfl (w.heap.size + 1) 93 it _ 11 88 Tryz.underlying82 hit hz0 hz1 hz2 rfl (by decide) (.slice (some ⟨g2, 0, none⟩) (m + 1) cap2) (m + 1) (recs 11 (k.tubes.take m) ++ recCells 11 t) rfl hown2 _ (k.tubes.length - m) _ (recs 11 (k.tubes.drop m)) rfl hl2 (HN2.out w5 _) recs_oneCell (by unfold maxLen; omega) (by omega) (by omega) ?_; intro v3 w6 hown3 hgrow3 _; have hone : m + 1 + (k.tubes.length - m) = k.tubes.length + 1 := (by omega); rw [hone] at hown3; obtain ⟨g3, cap3, rfl⟩ := own_form hown3; have hk3 : Below (w.heap.size + 1) wq w6 := hk2.grown hgrow3 (by omega) (fun k hk => (hown2.lt k hk).1); have hc6 := (hk3.cell (p := ⟨b, 10, none⟩) (by show b < _; omega)).trans hcq; have hf6 := (hk3.frozen (p := ⟨b, 10, none⟩) (by show b < _; omega)).trans hfq))
        go_end0
        have hR : Recs w6 93 11 (.slice (some ⟨g3, 0, none⟩) (k.tubes.length + 1) cap3) (addT k.tubes t) := by
          have el : (addT k.tubes t).length = k.tubes.length + 1 := by unfold addT; rw [HIm.out]; simp; omega
          have er : recs 11 (addT k.tubes t) = recs 11 (k.tubes.take m) ++ recCells 11 t ++ recs 11 (k.tubes.drop m) := by
            unfold addT; rw [HIm.out, recs_append, recs_append, recs_one]
          unfold Recs
          rw [el, er]
          exact own_lower hown3
        have hg3 := (hown3.lt g3 rfl).1
        have hkw : Keeps (fun _ => False) wq w6 := (Keeps.refl _ wq).below hk3 (by omega)
        refine ⟨rfl, _, hKq.newTubes hkw (fun e => e) (fun _ _ e => e) hR ?_ ?_, ?_, ?_⟩
        · intro g' hg'
          have e3 : g3 = g' := by simpa [Value.ownBlock] using hg'
          refine ⟨by omega, fun e => ?_⟩
          have := h.own_lt (.inr (.inr e))
          omega
        · show (addT k.tubes t).length < _
          unfold addT; rw [HIm.out]; simp; omega
        · intro g' hg'
          have e3 : g3 = g' := by simpa [Value.ownBlock] using hg'
          omega
        · exact (((Keeps.refl (fun g => g = b) w).below hbq (Nat.le_refl _)).below (hk3.mono (Nat.le_succ _)) (Nat.le_refl _)).set1 rfl _ _

end Go.Proofs.YtbpnllhhmookcaaGreatDoor

/- What add of the books of package firnref does where there is no tube yet. -/
namespace Go.Proofs.YtbpnllhhmookcaaGreatDoor
open Go.RowKit

theorem own_cap {w : World} {base : Nat} {e : TypeId} {size : Nat} {a : Option Addr} {n cap : Nat} {xs : List Value} (h : w.ownsRow base e size (.slice a n cap) n xs) : n ≤ cap := by
  rcases h.2 with ⟨hv, hn⟩ | ⟨g, cap', cur, hv, _, _, hle, _⟩
  · omega
  · injection hv with _ _ h3; omega

set_option maxRecDepth 100000 in
set_option maxHeartbeats 1000000 in
theorem add_nil (b : Nat) (vp : Value) (k : Bk) (t : Nat → Int) (w : World) (h : BkAt w b (.slice none 0 0) vp k) (hnil : k.tubes = []) :
    Calls Tryz.prog 73 #[.pointer (some ⟨b, 0, none⟩), .agg #[.int .i64 (t 0), .int .i64 (t 1), .int .i64 (t 2), .int .i64 (t 3), .int .i64 (t 4), .int .i64 (t 5), .int .i64 (t 6), .int .i64 (t 7), .int .i64 (t 8), .int .i64 (t 9), .int .i64 (t 10)]] w fun e w' => e = .returned (.tuple #[]) ∧ ∃ vt', BkAt w' b vt' vp (k.withTubes (addT k.tubes t)) ∧ (∀ g, vt'.ownBlock = some g → w.heap.size ≤ g) ∧ Keeps (fun g => g = b) w w' := by
  have hT0 := HasR.new11 w 93 t
  have hb0 := (Below.refl w.heap.size w).alloc (Nat.le_refl _) (.cells #[.int .i64 (t 0), .int .i64 (t 1), .int .i64 (t 2), .int .i64 (t 3), .int .i64 (t 4), .int .i64 (t 5), .int .i64 (t 6), .int .i64 (t 7), .int .i64 (t 8), .int .i64 (t 9), .int .i64 (t 10)] 93)
  have hK0 := h.below hb0
  have hz0 : (w.alloc (.cells #[.int .i64 (t 0), .int .i64 (t 1), .int .i64 (t 2), .int .i64 (t 3), .int .i64 (t 4), .int .i64 (t 5), .int .i64 (t 6), .int .i64 (t 7), .int .i64 (t 8), .int .i64 (t 9), .int .i64 (t 10)] 93)).heap.size = w.heap.size + 1 := by simp
  have HNil := hid hnil
  clear hnil
  obtain ⟨it, hit, hzt0, hzt1, hzt2⟩ := info_parts Tryz.infoTube
  go_enter Tryz.func73, Tryz.ntmps73
  go_wp2_with fail
  generalize w.alloc (.cells #[.int .i64 (t 0), .int .i64 (t 1), .int .i64 (t 2), .int .i64 (t 3), .int .i64 (t 4), .int .i64 (t 5), .int .i64 (t 6), .int .i64 (t 7), .int .i64 (t 8), .int .i64 (t 9), .int .i64 (t 10)] 93) = w1 at *
  have hc10 := hK0.ct
  go_loopw [4] (fun i wr => i = .int .i64 0 ∧ wr = w1) (fun _ _ => 0)
  case atStart => exact ⟨rfl, rfl⟩
  case round =>
    obtain ⟨rfl, rfl⟩ := hrel
    have x0 := hT0.1 0 (by omega)
    go_wp2_with fail
    go_quiet (fail)
    have hKq : BkAt (wr.drewN nq) b (.slice none 0 0) vp k := hK0.below (below_drewN (Below.refl _ _) nq)
    have hTq : HasR 11 (wr.drewN nq) w.heap.size t := hT0.below (B := wr.heap.size) (below_drewN (Below.refl _ _) nq) (by omega)
    have hbq : Below w.heap.size w (wr.drewN nq) := below_drewN hb0 nq
    have hzq : (wr.drewN nq).heap.size = w.heap.size + 1 := hz0
    generalize wr.drewN nq = wq at *
    clear hK0 hT0 hb0 hz0 hc10 x0
    have hcq := hKq.ct
    have hfq := hKq.fz 10
    have hbq2 := hKq.lt
    have x0 := hTq.1 0 (by omega)
    have x1 := hTq.1 1 (by omega)
    have x2 := hTq.1 2 (by omega)
    have x3 := hTq.1 3 (by omega)
    have x4 := hTq.1 4 (by omega)
    have x5 := hTq.1 5 (by omega)
    have x6 := hTq.1 6 (by omega)
    have x7 := hTq.1 7 (by omega)
    have x8 := hTq.1 8 (by omega)
    have x9 := hTq.1 9 (by omega)
    have x10 := hTq.1 10 (by omega)
    have hbw := h.lt
    have hzq1 : w.heap.size + 1 ≤ wq.heap.size := by omega
    have HZQ := hid hzq
    clear hzq
    go_wp2_with (at_builtin; refine wpList_append_own _ rfl (.tmp 36) (.tmp 38) 82 rfl (w.heap.size + 1) 93 it _ 11 88 Tryz.underlying82 hit hzt0 hzt1 hzt2 rfl (by decide) (.slice none 0 0) 0 [] rfl (World.ownsRow_nil _ _ _ _) ⟨wq.heap.size, 0, none⟩ 1 1 (recCells 11 t) rfl rfl (t_cells wq t) rec_one (by decide) (by decide) (by simp; omega) ?_; intro v2 w5 hown2 hgrow2 _; obtain ⟨g2, cap2, rfl⟩ := own_form hown2; simp only [Nat.zero_add, List.nil_append] at hown2; have hcap2 := own_cap hown2; have hk2 : Below (w.heap.size + 1) wq w5 := ((Below.refl _ wq).alloc (by omega) _).grown hgrow2 (by simp; omega) (fun k hk => by cases hk); have hc5 := (hk2.cell (p := ⟨b, 10, none⟩) (by show b < _; omega)).trans hcq; have hf5 := (hk2.frozen (p := ⟨b, 10, none⟩) (by show b < _; omega)).trans hfq)
    go_end0
    have hR : Recs w5 93 11 (.slice (some ⟨g2, 0, none⟩) 1 cap2) (addT k.tubes t) := by
      have e : addT k.tubes t = [t] := by rw [HNil.out]; rfl
      rw [e]
      unfold Recs
      rw [recs_one]
      exact own_lower hown2
    have hg2 := (hown2.lt g2 rfl).1
    have hkw : Keeps (fun _ => False) wq w5 := (Keeps.refl _ wq).below hk2 (by have := HZQ.out; omega)
    refine ⟨rfl, _, hKq.newTubes hkw (fun e => e) (fun _ _ e => e) hR ?_ ?_, ?_, ?_⟩
    · intro g' hg'
      have e3 : g2 = g' := by simpa [Value.ownBlock] using hg'
      refine ⟨by omega, fun e => ?_⟩
      have := h.own_lt (.inr (.inr e))
      omega
    · rw [HNil.out]; show (1 : Nat) < _; omega
    · intro g' hg'
      have e3 : g2 = g' := by simpa [Value.ownBlock] using hg'
      omega
    · exact (((Keeps.refl (fun g => g = b) w).below hbq (Nat.le_refl _)).below (hk2.mono (Nat.le_succ _)) (Nat.le_refl _)).set1 rfl _ _

end Go.Proofs.YtbpnllhhmookcaaGreatDoor

/- What Copy of the books of package firnref does: the same books once more, in memory of their own. -/
namespace Go.Proofs.YtbpnllhhmookcaaGreatDoor
open Go.RowKit

theorem own_form2 {w : World} {base : Nat} {e : TypeId} {size : Nat} {v : Value} {n : Nat} {xs : List Value} (hn : 0 < n) (h : w.ownsRow base e size v n xs) : ∃ g cap, v = .slice (some ⟨g, 0, none⟩) n cap := by
  rcases h.2 with ⟨_, hn'⟩ | ⟨g, cap, cur, rfl, _⟩
  · omega
  · exact ⟨g, cap, rfl⟩

theorem BkAt.box (w : World) (k : Bk) : BkAt (w.alloc (.cells #[.int .i64 (k.sides 0), .int .i64 (k.sides 1), .int .i64 (k.sides 2), .int .i64 (k.sides 3), .int .i64 (k.sides 4), .int .i64 (k.sides 5), .int .i64 (k.sides 6), .int .i64 (k.sides 7), .int .i64 (k.sides 8), .int .i64 (k.sides 9), .slice none 0 0, .slice none 0 0] 85)) w.heap.size (.slice none 0 0) (.slice none 0 0) ⟨k.sides, [], []⟩ := by
  refine ⟨by simp, fun i hi => ?_, ?_, ?_, fun i => by simp, World.ownsRow_nil _ _ _ _, World.ownsRow_nil _ _ _ _, by simp [Value.ownBlock], by simp [Value.ownBlock], fun g hg => by simp [Value.ownBlock] at hg, by simp⟩
  · rw [World.cell?_alloc_new]
    match i, hi with
    | 0, _ => rfl
    | 1, _ => rfl
    | 2, _ => rfl
    | 3, _ => rfl
    | 4, _ => rfl
    | 5, _ => rfl
    | 6, _ => rfl
    | 7, _ => rfl
    | 8, _ => rfl
    | 9, _ => rfl
    | n + 10, h => omega
  · rw [World.cell?_alloc_new]; rfl
  · rw [World.cell?_alloc_new]; rfl

set_option maxRecDepth 100000 in
set_option maxHeartbeats 1000000 in
theorem copy_any (b : Nat) (vt vp : Value) (k : Bk) (w : World) (h : BkAt w b vt vp k) (ht : k.tubes = [] → vt = .slice none 0 0) (hp : k.poured = [] → vp = .slice none 0 0) :
    Calls Tryz.prog 48 #[.pointer (some ⟨b, 0, none⟩)] w fun e w' => ∃ n vt' vp', e = .returned (.pointer (some ⟨n, 0, none⟩)) ∧ BkAt w' n vt' vp' k ∧ w.heap.size ≤ n ∧ (∀ g, vt'.ownBlock = some g → w.heap.size ≤ g) ∧ (∀ g, vp'.ownBlock = some g → w.heap.size ≤ g) ∧ Below w.heap.size w w' ∧ (k.tubes = [] → vt' = .slice none 0 0) ∧ (k.poured = [] → vp' = .slice none 0 0) := by
  have s0 := h.side 0 (by omega)
  have s1 := h.side 1 (by omega)
  have s2 := h.side 2 (by omega)
  have s3 := h.side 3 (by omega)
  have s4 := h.side 4 (by omega)
  have s5 := h.side 5 (by omega)
  have s6 := h.side 6 (by omega)
  have s7 := h.side 7 (by omega)
  have s8 := h.side 8 (by omega)
  have s9 := h.side 9 (by omega)
  obtain ⟨it, hit, hzt0, hzt1, hzt2⟩ := info_parts Tryz.infoTube
  obtain ⟨ip, hip, hzp0, hzp1, hzp2⟩ := info_parts Tryz.infoPoured
  have hN := BkAt.box w k
  have hb0 := (Below.refl w.heap.size w).alloc (Nat.le_refl _) (.cells #[.int .i64 (k.sides 0), .int .i64 (k.sides 1), .int .i64 (k.sides 2), .int .i64 (k.sides 3), .int .i64 (k.sides 4), .int .i64 (k.sides 5), .int .i64 (k.sides 6), .int .i64 (k.sides 7), .int .i64 (k.sides 8), .int .i64 (k.sides 9), .slice none 0 0, .slice none 0 0] 85)
  have hO := h.below hb0
  have hz0 : w.heap.size + 1 ≤ (w.alloc (.cells #[.int .i64 (k.sides 0), .int .i64 (k.sides 1), .int .i64 (k.sides 2), .int .i64 (k.sides 3), .int .i64 (k.sides 4), .int .i64 (k.sides 5), .int .i64 (k.sides 6), .int .i64 (k.sides 7), .int .i64 (k.sides 8), .int .i64 (k.sides 9), .slice none 0 0, .slice none 0 0] 85)).heap.size := by simp
  have hbl := h.lt
  have hbn : ¬ b = w.heap.size := by omega
  have hnb : ¬ w.heap.size = b := by omega
  go_enter Tryz.func48, Tryz.ntmps48
  go_wp2_with fail
  generalize w.alloc (.cells #[.int .i64 (k.sides 0), .int .i64 (k.sides 1), .int .i64 (k.sides 2), .int .i64 (k.sides 3), .int .i64 (k.sides 4), .int .i64 (k.sides 5), .int .i64 (k.sides 6), .int .i64 (k.sides 7), .int .i64 (k.sides 8), .int .i64 (k.sides 9), .slice none 0 0, .slice none 0 0] 85) = w1 at *
  clear s0 s1 s2 s3 s4 s5 s6 s7 s8 s9
  go_cut [] from 10 to 21 (fun wc => ∃ vt', BkAt wc w.heap.size vt' (.slice none 0 0) ⟨k.sides, k.tubes, []⟩ ∧ (∀ g, vt'.ownBlock = some g → w.heap.size < g) ∧ BkAt wc b vt vp k ∧ Below w.heap.size w wc ∧ (k.tubes = [] → vt' = .slice none 0 0))
  case first =>
    have hc1 := hO.ct
    have hc2 := hN.ct
    have hf2 := hN.fz 10
    by_cases htn : k.tubes = []
    · have hv := ht htn
      subst hv
      have HT := hid htn
      clear htn
      go_region
      go_wp2_with fail
      go_meet
      have r1 := hN.newTubes (vt' := .slice none 0 0) (Keeps.refl (fun _ => False) w1) (fun e => e) (fun _ _ e => e) (ts := []) (World.ownsRow_nil _ _ _ _) (fun g hg => by simp [Value.ownBlock] at hg) (by simp)
      have hkO := hO.keeps (S := fun g => g = w.heap.size) ((Keeps.refl (fun g => g = w.heap.size) w1).set1 (g := w.heap.size) rfl 10 (.slice none 0 0)) (fun g hg e => by have := h.own_lt hg; omega)
      rw [HT.out]
      exact ⟨_, r1.drew, fun g hg => by simp [Value.ownBlock] at hg, hkO.drew, (hb0.setCell (by exact Nat.le_refl _) _).drew, fun _ => rfl⟩
    · obtain ⟨oa, cap, rfl, hform⟩ := h.tubes.form
      have hpos : 0 < k.tubes.length := List.length_pos_iff.2 htn
      obtain ⟨g, rfl, hcap, _, hgl, _, _⟩ := hform 0 hpos
      have hown0 : w1.ownsRow 0 93 11 (.slice (some ⟨g, 0, none⟩) k.tubes.length cap) k.tubes.length (recs 11 k.tubes) := hO.tubes
      have HC : Hid (∀ j u, (recs 11 k.tubes)[j]? = some u → w1.drew.cell? ((⟨g, 0, none⟩ : Addr).add j) = some u) := fun j u hj => hown0.cells (g := g) rfl j u hj
      have hlen := recs_len 11 k.tubes
      have hfew := h.few.1
      go_region_law (refine step_append_grows rfl (.tmp 14) (.tmp 18) 82 rfl 93 it _ 11 88 Tryz.underlying82 hit hzt0 hzt1 hzt2 rfl (by decide) none 0 0 [] (by simp [Act.eval]) (fun _ => ⟨rfl, rfl⟩) rfl (fun b h => by cases h) ⟨g, 0, none⟩ k.tubes.length cap (recs 11 k.tubes) (by simp [Act.eval]) hlen HC.out recs_oneCell (by omega) (by unfold maxLen; omega) (by omega) ?_; intro v' w' hown hgrow; rw [Nat.zero_add] at hown; obtain ⟨gv, cv, rfl⟩ := own_form2 hpos hown; have hk1 : Keeps (fun _ => False) w1 w' := ((Keeps.refl _ w1).drew).grown hgrow (fun k hk => by cases hk); have hc3 := (hk1.cell (p := ⟨w.heap.size, 10, none⟩) hN.lt (fun e => e)).trans hN.ct; have hf3 := (hk1.frozen (p := ⟨w.heap.size, 10, none⟩) hN.lt (fun e => e)).trans hf2)
      all_goals
        go_wp2_with fail
        go_meet
        have hgv : w.heap.size + 1 ≤ gv := by have := (hown.lt gv rfl).1; have h2 : w1.drew.heap.size = w1.heap.size := rfl; omega
        have hR : Recs w' 93 11 (.slice (some ⟨gv, 0, none⟩) k.tubes.length cv) k.tubes := own_lower hown
        have r1 := hN.newTubes hk1 (fun e => e) (fun _ _ e => e) hR (fun g' hg' => by have e3 : gv = g' := (by simpa [Value.ownBlock] using hg'); exact ⟨by omega, by simp [Value.ownBlock]⟩) hfew
        have hkO := hO.keeps (S := fun g => g = w.heap.size) ((Keeps.mono (T := fun g => g = w.heap.size) hk1 (fun _ _ e => e.elim)).set1 (g := w.heap.size) rfl 10 (.slice (some ⟨gv, 0, none⟩) k.tubes.length cv)) (fun g hg e => by have := h.own_lt hg; omega)
        have hbw : Below w.heap.size w w' := hb0.trans (hk1.toBelow (B := w.heap.size) (fun _ e => e.elim) (by omega))
        exact ⟨_, r1, fun g' hg' => by have e3 : gv = g' := (by simpa [Value.ownBlock] using hg'); omega, hkO, hbw.setCell (by exact Nat.le_refl _) _, fun e => absurd e htn⟩
  case rest =>
    clear hN hb0 hO hz0
    obtain ⟨vt', hN, hfr, hO, hb0, hvn⟩ := hcut
    have HVn := hid hvn
    clear hvn
    clear w1
    generalize wc = w1 at *
    have hz0 : w.heap.size + 1 ≤ w1.heap.size := hN.lt
    go_wp2_with fail
    go_cut [] from 10 to 33 (fun wc => ∃ vp', BkAt wc w.heap.size vt' vp' k ∧ (∀ g, vp'.ownBlock = some g → w.heap.size ≤ g) ∧ Below w.heap.size w wc ∧ (k.poured = [] → vp' = .slice none 0 0))
    case first =>
      have hc1 := hO.cp
      have hc2 := hN.cp
      have hf2 := hN.fz 11
      by_cases htn : k.poured = []
      · have hv := hp htn
        subst hv
        have HT := hid htn
        clear htn
        go_region
        go_wp2_with fail
        go_meet
        have r1 := hN.newPoured (vp' := .slice none 0 0) (Keeps.refl (fun _ => False) w1) (fun e => e) (fun _ _ e => e) (ps := []) (World.ownsRow_nil _ _ _ _) (fun g hg => by simp [Value.ownBlock] at hg) (by simp)
        have e : k = (⟨k.sides, k.tubes, []⟩ : Bk).withPoured [] := by
          have := HT.out
          cases k
          simp only at this
          subst this
          rfl
        rw [← e] at r1
        exact ⟨_, r1.drew, fun g hg => by simp [Value.ownBlock] at hg, (hb0.setCell (by exact Nat.le_refl _) _).drew, fun _ => rfl⟩
      · obtain ⟨oa, cap, rfl, hform⟩ := h.poured.form
        have hpos : 0 < k.poured.length := List.length_pos_iff.2 htn
        obtain ⟨g, rfl, hcap, _, hgl, _, _⟩ := hform 0 hpos
        have hown0 : w1.ownsRow 0 138 3 (.slice (some ⟨g, 0, none⟩) k.poured.length cap) k.poured.length (recs 3 k.poured) := hO.poured
        have HC : Hid (∀ j u, (recs 3 k.poured)[j]? = some u → w1.drew.cell? ((⟨g, 0, none⟩ : Addr).add j) = some u) := fun j u hj => hown0.cells (g := g) rfl j u hj
        have hlen := recs_len 3 k.poured
        have hfew := h.few.2
        go_region_law (refine step_append_grows rfl (.tmp 26) (.tmp 30) 83 rfl 138 ip _ 3 24 Tryz.underlying83 hip hzp0 hzp1 hzp2 rfl (by decide) none 0 0 [] (by simp [Act.eval]) (fun _ => ⟨rfl, rfl⟩) rfl (fun b h => by cases h) ⟨g, 0, none⟩ k.poured.length cap (recs 3 k.poured) (by simp [Act.eval]) hlen HC.out recs_oneCell (by omega) (by unfold maxLen; omega) (by omega) ?_; intro v' w' hown hgrow; rw [Nat.zero_add] at hown; obtain ⟨gv, cv, rfl⟩ := own_form2 hpos hown; have hk1 : Keeps (fun _ => False) w1 w' := ((Keeps.refl _ w1).drew).grown hgrow (fun k hk => by cases hk); have hc3 := (hk1.cell (p := ⟨w.heap.size, 11, none⟩) hN.lt (fun e => e)).trans hN.cp; have hf3 := (hk1.frozen (p := ⟨w.heap.size, 11, none⟩) hN.lt (fun e => e)).trans hf2)
        all_goals
          go_wp2_with fail
          go_meet
          have hgv : w1.heap.size ≤ gv := (hown.lt gv rfl).1
          have hR : Recs w' 138 3 (.slice (some ⟨gv, 0, none⟩) k.poured.length cv) k.poured := own_lower hown
          have r1 := hN.newPoured hk1 (fun e => e) (fun _ _ e => e) hR (fun g' hg' => by
            have e3 : gv = g' := (by simpa [Value.ownBlock] using hg')
            refine ⟨by omega, fun e => ?_⟩
            have := hN.own_lt (.inr (.inl e))
            omega) hfew
          have hbw : Below w.heap.size w w' := hb0.trans (hk1.toBelow (B := w.heap.size) (fun _ e => e.elim) (by omega))
          exact ⟨_, r1, fun g' hg' => by have e3 : gv = g' := (by simpa [Value.ownBlock] using hg'); omega, hbw.setCell (by exact Nat.le_refl _) _, fun e => absurd e htn⟩
    case rest =>
      obtain ⟨vp', hN2, hfr2, hb2, hvp⟩ := hcut
      have HVp := hid hvp
      clear hvp
      go_wp2
      go_ret
      exact ⟨w.heap.size, vt', vp', rfl, hN2, Nat.le_refl _, fun g hg => Nat.le_of_lt (hfr g hg), hfr2, hb2, HVn.out, HVp.out⟩

end Go.Proofs.YtbpnllhhmookcaaGreatDoor
