/- firnkeep: a store; do, done. -/
import Derived.Test.YtbpnllhhmookcaaGreatDoorKk32
import Derived.Test.YtbpnllhhmookcaaGreatDoorKk36
import Derived.OwnWalk
namespace Go.Proofs.YtbpnllhhmookcaaGreatDoor
open Go.RowKit Go.Shelf

theorem nums_reply (e : Int) (zs : List Int) (he : 0 ≤ e ∧ e ≤ 10) (hn : zs.length < 65536) (hz : ∀ z ∈ zs, 0 ≤ z ∧ z ≤ 1000000) : numsL (replyL e zs) = zs ∧ numsT (replyL e zs) = e ∧ numsE (replyL e zs) = 0 := by
  have hfl : ∀ l : List Int, l.flatMap (fun z => be4 z.toNat) = (l.map Int.toNat).flatMap fun f => be4 f := fun l => by rw [List.flatMap_map]
  have hd : (replyL e zs).drop 3 = (zs.map Int.toNat).flatMap fun f => be4 (id f) := by
    show zs.flatMap (fun z => be4 z.toNat) = _
    exact hfl zs
  have hc : cnt (replyL e zs) = zs.length := by
    show (UInt8.ofNat (zs.length / 256)).toNat * 256 + (UInt8.ofNat zs.length).toNat = zs.length
    rw [UInt8.toNat_ofNat', UInt8.toNat_ofNat']; omega
  have hlen : (replyL e zs).length = 3 + 4 * zs.length := by
    have : (replyL e zs).length = 3 + ((zs.map Int.toNat).flatMap fun f => be4 (id f)).length := by
      rw [← hd, List.length_drop]
      have : 3 ≤ (replyL e zs).length := by simp [replyL]
      omega
    rw [this, flat_len id, List.length_map]
  have hnum : ∀ j (hj : j < zs.length), numB ((replyL e zs).drop 3) (4 * j) = zs[j].toNat := fun j hj => by
    have := hz zs[j] (List.getElem_mem hj)
    rw [hd, flat_numB id (zs.map Int.toNat) j (by simpa using hj) (by simp only [List.getElem_map, id]; omega)]
    simp
  have hB : numsB (replyL e zs) = true := by
    unfold numsB
    rw [hc, hlen]
    have h0 : ((replyL e zs).getD 0 0).toNat = e.toNat := by
      show (UInt8.ofNat e.toNat).toNat = e.toNat
      rw [UInt8.toNat_ofNat']; omega
    rw [h0]
    have hk : okN ((replyL e zs).drop 3) zs.length = true := by
      unfold okN
      rw [List.all_eq_true]
      intro j hj
      have hj' := List.mem_range.1 hj
      have := hz zs[j] (List.getElem_mem hj')
      rw [hnum j hj']
      exact decide_eq_true (by omega)
    rw [hk, decide_eq_true (show 3 ≤ 3 + 4 * zs.length by omega), decide_eq_true (show e.toNat ≤ 10 by omega), decide_eq_true (rfl : 3 + 4 * zs.length = 3 + 4 * zs.length)]
    rfl
  obtain ⟨h1, h2, h3⟩ := nums_good _ hB
  refine ⟨?_, ?_, h3⟩
  · rw [h1, hc]
    apply List.ext_getElem (by simp)
    intro i h1 h2
    simp only [List.getElem_map, List.getElem_range]
    rw [hnum i h2]
    have := hz zs[i] (List.getElem_mem h2)
    omega
  · rw [h2]
    show ((UInt8.ofNat e.toNat).toNat : Int) = e
    rw [UInt8.toNat_ofNat']; omega

theorem reply_size (e : Int) (zs : List Int) (hn : zs.length < 65536) : (⟨(replyL e zs).toArray⟩ : ByteArray).size ≤ maxLen := by
  show (replyL e zs).toArray.size ≤ maxLen
  have hfl : ∀ l : List Int, (l.flatMap fun z => be4 z.toNat).length = 4 * l.length := fun l => by
    induction l with
    | nil => rfl
    | cons a l ih => rw [List.flatMap_cons, List.length_append, ih, be4_len, List.length_cons]; omega
  have : (replyL e zs).length = 3 + 4 * zs.length := by
    unfold replyL; rw [List.length_append, hfl]; rfl
  simp only [List.size_toArray, this]
  unfold maxLen; omega

/-- A command that is encoded and read again is itself. -/
theorem Cm.back {m : Cm} (h : encB m.ints = true) : decB (encS m.ints) = true ∧ Cm.of (decC (encS m.ints)) = m := by
  obtain ⟨h1, h2⟩ := enc_dec m.ints h
  refine ⟨?_, ?_⟩
  · unfold decE at h1
    split at h1
    · assumption
    · cases h1
  · unfold Cm.of
    rw [h2 0 (by omega), h2 1 (by omega), h2 2 (by omega), h2 3 (by omega), h2 4 (by omega), h2 5 (by omega), h2 6 (by omega), h2 7 (by omega), h2 8 (by omega)]
    rfl

def StoreBox (w : World) (sb l : Nat) (v : Value) (p : Int) : Prop := w.heap[sb]? = some (.cells #[.pointer (some ⟨l, 0, none⟩), v, .int .i64 p] 70 (0, 0))
theorem StoreBox.c0 {w : World} {sb l : Nat} {v : Value} {p : Int} (h : StoreBox w sb l v p) : w.cell? ⟨sb, 0, none⟩ = some (.pointer (some ⟨l, 0, none⟩)) := by simp only [World.cell?, show w.heap[sb]? = _ from h]; rfl
theorem StoreBox.c2 {w : World} {sb l : Nat} {v : Value} {p : Int} (h : StoreBox w sb l v p) : w.cell? ⟨sb, 2, none⟩ = some (.int .i64 p) := by simp only [World.cell?, show w.heap[sb]? = _ from h]; rfl
theorem StoreBox.fz {w : World} {sb l : Nat} {v : Value} {p : Int} (h : StoreBox w sb l v p) (i : Nat) : w.frozen? ⟨sb, i, none⟩ = false := by simp [World.frozen?, show w.heap[sb]? = _ from h]
theorem StoreBox.lt {w : World} {sb l : Nat} {v : Value} {p : Int} (h : StoreBox w sb l v p) : sb < w.heap.size := (Array.getElem?_eq_some_iff.1 h).1

/-- A store lies in memory. -/
structure StoreAt (w : World) (sb l : Nat) (v : Value) (p : Int) (L : Led) : Prop where
  box : StoreBox w sb l v p
  led : LedgerAt w l L 32
  inv : L.Inv
  ne : sb ≠ l

theorem StoreAt.below {w w' : World} {sb l : Nat} {v : Value} {p : Int} {L : Led} (h : StoreAt w sb l v p L) (hb : Below w.heap.size w w') : StoreAt w' sb l v p L :=
  ⟨(hb.block sb h.box.lt).trans h.box, h.led.below hb, h.inv, h.ne⟩

theorem write_nil (sb : Nat) (n : Int) (w : World) :
    Calls Tryz.prog 23 #[.pointer (some ⟨sb, 0, none⟩), .slice none 0 0, .int .i64 n] w fun e w' => e = .returned (.tuple #[]) ∧ w' = w := by
  go_enter Tryz.func23, Tryz.ntmps23
  go_wp2_with fail
  go_loopw [6] (fun i wr => i = .int .i64 0 ∧ wr = w) (fun _ _ => 0)
  case atStart => exact ⟨rfl, rfl⟩
  case round =>
    obtain ⟨rfl, rfl⟩ := hrel
    go_wp2
    go_end0
    exact ⟨rfl, rfl⟩

set_option maxRecDepth 8000 in
set_option maxHeartbeats 4000000 in
theorem sdo_any (sb l : Nat) (v : Value) (p : Int) (L : Led) (m : Cm) (hm : encB m.ints = true) (w : World) (hS : StoreAt w sb l v p L) :
    Calls Tryz.prog 22 #[.pointer (some ⟨sb, 0, none⟩), m.val] w fun e w' => ∃ vv, e = .returned (.tuple #[vv, .int .i64 (L.stepE 32 m), .slice none 0 0]) ∧ IntsIn w' vv (L.stepN 32 m) ∧ StoreAt w' sb l v p (L.stepL 32 m) ∧ Keeps (fun k => k = l) w w' := by
  obtain ⟨hb1, hb2⟩ := Cm.back hm
  have hmo : m.Ok := by have := Cm.of_ok hm; have e : Cm.of m.ints = m := rfl; rwa [e] at this
  have hfew : L.kvs.length < 7000 := by have := hS.led.few; omega
  have hE : encE m.ints = 0 := by simp [encE, hm]
  have hEs : (⟨(encS m.ints).toArray⟩ : ByteArray).size ≤ maxLen := by
    show (encS m.ints).toArray.size ≤ maxLen
    have := (enc_len m.ints hm).2
    simp only [List.size_toArray]; unfold maxLen; omega
  have HEn := hid (encodeF_any m.ints)
  rw [hE] at HEn
  simp only [Cm.ints] at HEn
  have HDo := hid (fun u (hu : StoreAt u sb l v p L) => do_any l L 32 ⟨(encS m.ints).toArray⟩ hEs u hu.led hu.inv)
  have e1 : L.fErr 32 (encS m.ints) = L.stepE 32 m ∧ L.fNum 32 (encS m.ints) = L.stepN 32 m ∧ L.fLed 32 (encS m.ints) = L.stepL 32 m := by simp [Led.fErr, Led.fNum, Led.fLed, hb1, hb2]
  rw [show (⟨(encS m.ints).toArray⟩ : ByteArray).data.toList = encS m.ints from rfl, e1.1, e1.2.1, e1.2.2] at HDo
  have hlen := Led.stepN_len (m := m) hfew 32
  have HNu := hid (fun u => numbersF_any ⟨(replyL (L.stepE 32 m) (L.stepN 32 m)).toArray⟩ u (reply_size _ _ hlen))
  obtain ⟨n1, n2, n3⟩ := nums_reply (L.stepE 32 m) (L.stepN 32 m) (Led.stepE_range L 32 m) hlen (Led.stepN_range hS.inv hfew 32)
  rw [show (⟨(replyL (L.stepE 32 m) (L.stepN 32 m)).toArray⟩ : ByteArray).data.toList = replyL (L.stepE 32 m) (L.stepN 32 m) from rfl, n1, n2, n3] at HNu
  have HI := hid (Led.inv_step hS.inv hmo 32)
  have hb0 : Below w.heap.size w (w.alloc (.cells #[.int .i64 m.k, .int .i64 m.t, .int .i64 m.o, .int .i64 m.d, .int .i64 m.v, .int .i64 m.b, .int .i64 m.x, .int .i64 m.y, .int .i64 m.n] 31)) := (Below.refl _ w).alloc (Nat.le_refl _) _
  have HS := hid hS
  have HB := hid hb0
  clear hb1 hb2 hE hEs e1 hlen n1 n2 n3 hS hb0 hmo hm
  generalize (⟨(encS m.ints).toArray⟩ : ByteArray) = fr at *
  generalize (⟨(replyL (L.stepE 32 m) (L.stepN 32 m)).toArray⟩ : ByteArray) = rp at *
  generalize L.stepE 32 m = se at *
  generalize L.stepN 32 m = sn at *
  generalize L.stepL 32 m = L2 at *
  unfold Cm.val
  go_enter Tryz.func22, Tryz.ntmps22
  go_wp2_with fail
  refine (HEn.out _).mono ?_
  clear HEn
  rintro e w1 ⟨rfl, hb1⟩
  have hB1 : Below w.heap.size w w1 := HB.out.trans (hb1.mono HB.out.size)
  have hS1 := HS.out.below hB1
  have c0 := hS1.box.c0
  have HS1 := hid hS1
  clear hS1 HB hb1
  go_wp2_with fail
  refine (HDo.out _ HS1.out).mono ?_
  clear HDo
  rintro e w2 ⟨rfl, hA2, hk2⟩
  go_wp2_with fail
  refine (HNu.out _).mono ?_
  clear HNu
  rintro e w3 ⟨vv, rfl, hi3, hb3⟩
  go_wp2
  go_ret3
  have hbx2 : StoreBox w2 sb l v p := keeps_same hk2 HS1.out.ne HS1.out.box
  exact ⟨vv, rfl, hi3, StoreAt.below ⟨hbx2, hA2, HI.out, HS1.out.ne⟩ hb3, ((below_toKeeps hB1 (fun k => k = l)).trans hk2).trans (below_toKeeps hb3 _)⟩

set_option maxRecDepth 8000 in
set_option maxHeartbeats 4000000 in
theorem done_any (sb l : Nat) (v : Value) (p : Int) (L : Led) (m : Cm) (hm : encB m.ints = true) (w : World) (hS : StoreAt w sb l v p L) :
    Calls Tryz.prog 12 #[.pointer (some ⟨sb, 0, none⟩), m.val] w fun e w' => ∃ vv, e = .returned (.tuple #[vv, .int .i64 (L.stepE 32 m)]) ∧ IntsIn w' vv (L.stepN 32 m) ∧ StoreAt w' sb l v p (L.stepL 32 m) ∧ Keeps (fun k => k = l) w w' := by
  have hb0 : Below w.heap.size w (w.alloc (.cells #[.int .i64 m.k, .int .i64 m.t, .int .i64 m.o, .int .i64 m.d, .int .i64 m.v, .int .i64 m.b, .int .i64 m.x, .int .i64 m.y, .int .i64 m.n] 31)) := (Below.refl _ w).alloc (Nat.le_refl _) _
  have HDo := hid (sdo_any sb l v p L m hm _ (hS.below hb0))
  have HB := hid hb0
  clear hb0 hS hm
  generalize L.stepE 32 m = se at *
  generalize L.stepN 32 m = sn at *
  generalize L.stepL 32 m = L2 at *
  unfold Cm.val at *
  go_enter Tryz.func12, Tryz.ntmps12
  go_wp2_with fail
  refine HDo.out.mono ?_
  clear HDo
  rintro e w1 ⟨vv, rfl, hi1, hS1, hk1⟩
  go_wp2_with (go_at_call 23; refine (write_nil sb _ _).mono ?_; rintro e w' ⟨rfl, rfl⟩)
  go_ret2
  exact ⟨vv, rfl, hi1, hS1, (below_toKeeps HB.out _).trans hk1⟩

end Go.Proofs.YtbpnllhhmookcaaGreatDoor

/- firnkeep: pick, command, may. -/
namespace Go.Proofs.YtbpnllhhmookcaaGreatDoor
open Go.RowKit Go.Shelf

/-- An int of Go. -/
def I64 (c : Int) : Prop := -9223372036854775808 ≤ c ∧ c ≤ 9223372036854775807

theorem pick_any (c : Int) (h : I64 c) (n : Nat) (hn : 0 < n) (hn2 : n ≤ 1000) (w : World) :
    Calls Tryz.prog 15 #[.int .i64 c, .int .i64 n] w fun e w' => ∃ z : Nat, e = .returned (.int .i64 z) ∧ z < n ∧ w' = w := by
  obtain ⟨h1, h2⟩ := h
  have hz : ((n : Int) == 0) = false := beq_eq_false_iff_ne.2 (by omega)
  have hr : ∀ a : Int, 0 ≤ a → ∃ z : Nat, a % (n : Int) = z ∧ z < n := fun a ha => by
    have g1 := Int.emod_nonneg a (b := (n : Int)) (by omega)
    have g2 := Int.emod_lt_of_pos a (b := (n : Int)) (by omega)
    exact ⟨(a % (n : Int)).toNat, by omega, by omega⟩
  have HR := hid hr
  clear hr
  by_cases h : c < 0
  · have e : -(c + 1).tmod (n : Int) = (-(c + 1)) % (n : Int) := by
      rw [← Int.neg_tmod, Int.tmod_eq_emod_of_nonneg (by omega)]
    have HE := hid e
    clear e
    go_enter Tryz.func15, Tryz.ntmps15
    go_wp2
    go_ret
    obtain ⟨z, hz1, hz2⟩ := HR.out (-(c + 1)) (by omega)
    exact ⟨z, ret_int (by rw [HE.out, hz1]), hz2, rfl⟩
  · go_enter Tryz.func15, Tryz.ntmps15
    go_wp2
    go_ret
    obtain ⟨z, hz1, hz2⟩ := HR.out c (by omega)
    exact ⟨z, ret_int hz1, hz2, rfl⟩

/-- The commands that are made of raw numbers. -/
structure CmR (m : Cm) : Prop where
  enc : encB m.ints = true
  k : m.k ≤ 11
  t : m.t ≤ 12
  o : m.o ≤ 12
  b : m.b ≤ 2

theorem cm_val (m : Cm) {a0 a1 a2 a3 a4 a5 a6 a7 a8 : Int} (h0 : a0 = m.k) (h1 : a1 = m.t) (h2 : a2 = m.o) (h3 : a3 = m.d) (h4 : a4 = m.v) (h5 : a5 = m.b) (h6 : a6 = m.x) (h7 : a7 = m.y) (h8 : a8 = m.n) :
    Value.agg #[.int .i64 a0, .int .i64 a1, .int .i64 a2, .int .i64 a3, .int .i64 a4, .int .i64 a5, .int .i64 a6, .int .i64 a7, .int .i64 a8] = m.val := by subst h0 h1 h2 h3 h4 h5 h6 h7 h8; rfl

theorem enc_of {m : Cm} {fs : List Nat} (hk : flds (m.k : Int) = fs) (h1 : 1 ≤ m.k ∧ m.k ≤ 16) (ho : okAll m.ints fs = true) (hm : ∀ i, i < 9 → clr m.ints fs i = 0) : encB m.ints = true := by
  have e0 : m.ints 0 = m.k := rfl
  unfold encB
  rw [e0, hk, ho, more_f hm, decide_eq_true (show 1 ≤ (m.k : Int) by omega), decide_eq_true (show (m.k : Int) ≤ 16 by omega)]
  rfl

/-- How command ends. -/
def CmdEnds (w : World) (e : Ending) (w' : World) : Prop := ∃ m : Cm, e = .returned m.val ∧ CmR m ∧ Below w.heap.size w w'

theorem r_newbox {b n : Nat} (hb : 1 ≤ b ∧ b ≤ 2) (hn : 1 ≤ n ∧ n ≤ 5) : CmR ⟨1, 0, 0, 0, 0, b, 0, 0, n⟩ := by
  refine ⟨enc_of (fs := [4, 7]) rfl (by simp only; omega) ?_ (all9.2 ⟨rfl, rfl, rfl, rfl, rfl, rfl, rfl, rfl, rfl⟩), by simp only; omega, by simp only; omega, by simp only; omega, by simp only; omega⟩
  simp [okAll, okB, lo, hi, off, Cm.ints]; omega
theorem r_register {t d v b x y : Nat} (ht : 1 ≤ t ∧ t ≤ 12) (hd : 1 ≤ d ∧ d ≤ 3) (hv : 1 ≤ v ∧ v ≤ 60) (hb : 1 ≤ b ∧ b ≤ 2) (hx : x ≤ 4) (hy : y ≤ 4) : CmR ⟨2, t, 0, d, v, b, x, y, 0⟩ := by
  refine ⟨enc_of (fs := [0, 2, 3, 4, 5, 6]) rfl (by simp only; omega) ?_ (all9.2 ⟨rfl, rfl, rfl, rfl, rfl, rfl, rfl, rfl, rfl⟩), by simp only; omega, by simp only; omega, by simp only; omega, by simp only; omega⟩
  simp [okAll, okB, lo, hi, off, Cm.ints]; omega
theorem r_place {k t b x y : Nat} (hk : k = 3 ∨ k = 8) (ht : 1 ≤ t ∧ t ≤ 12) (hb : 1 ≤ b ∧ b ≤ 2) (hx : x ≤ 4) (hy : y ≤ 4) : CmR ⟨k, t, 0, 0, 0, b, x, y, 0⟩ := by
  refine ⟨enc_of (fs := [0, 4, 5, 6]) (by rcases hk with rfl | rfl <;> rfl) (by simp only; omega) ?_ (all9.2 ⟨rfl, rfl, rfl, rfl, rfl, rfl, rfl, rfl, rfl⟩), by simp only; omega, by simp only; omega, by simp only; omega, by simp only; omega⟩
  simp [okAll, okB, lo, hi, off, Cm.ints]; omega
theorem r_aliquot {t o v b x y : Nat} (ht : 1 ≤ t ∧ t ≤ 12) (ho : 1 ≤ o ∧ o ≤ 12) (hv : 1 ≤ v ∧ v ≤ 60) (hb : 1 ≤ b ∧ b ≤ 2) (hx : x ≤ 4) (hy : y ≤ 4) : CmR ⟨4, t, o, 0, v, b, x, y, 0⟩ := by
  refine ⟨enc_of (fs := [0, 1, 3, 4, 5, 6]) rfl (by simp only; omega) ?_ (all9.2 ⟨rfl, rfl, rfl, rfl, rfl, rfl, rfl, rfl, rfl⟩), by simp only; omega, by simp only; omega, by simp only; omega, by simp only; omega⟩
  simp [okAll, okB, lo, hi, off, Cm.ints]; omega
theorem r_pour {t o v : Nat} (ht : 1 ≤ t ∧ t ≤ 12) (ho : 1 ≤ o ∧ o ≤ 12) (hv : 1 ≤ v ∧ v ≤ 60) : CmR ⟨5, t, o, 0, v, 0, 0, 0, 0⟩ := by
  refine ⟨enc_of (fs := [0, 1, 3]) rfl (by simp only; omega) ?_ (all9.2 ⟨rfl, rfl, rfl, rfl, rfl, rfl, rfl, rfl, rfl⟩), by simp only; omega, by simp only; omega, by simp only; omega, by simp only; omega⟩
  simp [okAll, okB, lo, hi, off, Cm.ints]; omega
theorem r_use {t v : Nat} (ht : 1 ≤ t ∧ t ≤ 12) (hv : 1 ≤ v ∧ v ≤ 60) : CmR ⟨6, t, 0, 0, v, 0, 0, 0, 0⟩ := by
  refine ⟨enc_of (fs := [0, 3]) rfl (by simp only; omega) ?_ (all9.2 ⟨rfl, rfl, rfl, rfl, rfl, rfl, rfl, rfl, rfl⟩), by simp only; omega, by simp only; omega, by simp only; omega, by simp only; omega⟩
  simp [okAll, okB, lo, hi, off, Cm.ints]; omega
theorem r_take {t : Nat} (ht : 1 ≤ t ∧ t ≤ 12) : CmR ⟨7, t, 0, 0, 0, 0, 0, 0, 0⟩ := by
  refine ⟨enc_of (fs := [0]) rfl (by simp only; omega) ?_ (all9.2 ⟨rfl, rfl, rfl, rfl, rfl, rfl, rfl, rfl, rfl⟩), by simp only; omega, by simp only; omega, by simp only; omega, by simp only; omega⟩
  simp [okAll, okB, lo, hi, off, Cm.ints]; omega
theorem r_withdraw {d : Nat} (hd : 1 ≤ d ∧ d ≤ 3) : CmR ⟨9, 0, 0, d, 0, 0, 0, 0, 0⟩ := by
  refine ⟨enc_of (fs := [2]) rfl (by simp only; omega) ?_ (all9.2 ⟨rfl, rfl, rfl, rfl, rfl, rfl, rfl, rfl, rfl⟩), by simp only; omega, by simp only; omega, by simp only; omega, by simp only; omega⟩
  simp [okAll, okB, lo, hi, off, Cm.ints]; omega
theorem r_turn {b n : Nat} (hb : 1 ≤ b ∧ b ≤ 2) (hn : 1 ≤ n ∧ n ≤ 3) : CmR ⟨10, 0, 0, 0, 0, b, 0, 0, n⟩ := by
  refine ⟨enc_of (fs := [4, 8]) rfl (by simp only; omega) ?_ (all9.2 ⟨rfl, rfl, rfl, rfl, rfl, rfl, rfl, rfl, rfl⟩), by simp only; omega, by simp only; omega, by simp only; omega, by simp only; omega⟩
  simp [okAll, okB, lo, hi, off, Cm.ints]; omega
theorem r_flip {b : Nat} (hb : 1 ≤ b ∧ b ≤ 2) : CmR ⟨11, 0, 0, 0, 0, b, 0, 0, 0⟩ := by
  refine ⟨enc_of (fs := [4]) rfl (by simp only; omega) ?_ (all9.2 ⟨rfl, rfl, rfl, rfl, rfl, rfl, rfl, rfl, rfl⟩), by simp only; omega, by simp only; omega, by simp only; omega, by simp only; omega⟩
  simp [okAll, okB, lo, hi, off, Cm.ints]; omega

end Go.Proofs.YtbpnllhhmookcaaGreatDoor

/- firnkeep: open, store. -/
namespace Go.Proofs.YtbpnllhhmookcaaGreatDoor
open Go.RowKit Go.Shelf

theorem conv_zero (w : World) (g n : Nat) (hc : ∀ j, j < n → w.cell? ⟨g, j, none⟩ = some (.int .u8 0)) : ∃ s : ByteArray, s.size = n ∧ allZ s ∧ (convert 68 9 (.slice (some ⟨g, 0, none⟩) n n)).run Tryz.prog w = .ok (.string s) w := by
  refine ⟨⟨(List.replicate n (0 : UInt8)).toArray⟩, ?_, ?_, ?_⟩
  · show (List.replicate n (0 : UInt8)).toArray.size = n
    simp
  · intro i hi
    show (List.replicate n (0 : UInt8)).toArray[i]'_ = 0
    simp
  · have := own_conv (w := w) (g := g) (cap := n) (l := List.replicate n (0 : UInt8)) (fun j hj => by
      rw [addr_add, hc j (by simpa using hj)]; simp)
    rw [List.length_replicate] at this
    exact this

theorem made_zero {w : World} {base g n : Nat} (h : w.ownsRow base 5 1 (.slice (some ⟨g, 0, none⟩) n n) n (madeCells (Value.cells (.int .u8 0)) (n * 1)).toList) : g < w.heap.size ∧ ∀ j, j < n → w.cell? ⟨g, j, none⟩ = some (.int .u8 0) := by
  have hc : (Value.int .u8 0).cells = #[.int .u8 0] := rfl
  rw [hc, toList_madeCells_one] at h
  refine ⟨(h.lt g rfl).2, fun j hj => ?_⟩
  have := h.cells (g := g) rfl j (.int .u8 0) (by simp [hj])
  rw [addr_add] at this; exact this

def NewBox (w : World) (sb g : Nat) : Prop := w.heap[sb]? = some (.cells #[.pointer none, .slice (some ⟨g, 0, none⟩) 32768 32768, .int .i64 0] 70 (0, 0))

set_option maxRecDepth 8000 in
set_option maxHeartbeats 4000000 in
theorem sopen_any (sb g : Nat) (w : World) (hN : NewBox w sb g) (_hg : g < w.heap.size) (hc : ∀ j, j < 32768 → w.cell? ⟨g, j, none⟩ = some (.int .u8 0)) :
    Calls Tryz.prog 21 #[.pointer (some ⟨sb, 0, none⟩)] w fun e w' => ∃ l, e = .returned (.bool true) ∧ StoreAt w' sb l (.slice (some ⟨g, 0, none⟩) 32768 32768) 0 Led.none ∧ w.heap.size ≤ l ∧ Keeps (fun k => k = sb) w w' := by
  obtain ⟨s, hs, hz, hconv⟩ := conv_zero w g 32768 hc
  have hsl : sb < w.heap.size := (Array.getElem?_eq_some_iff.1 hN).1
  have c1 : w.cell? ⟨sb, 1, none⟩ = some (.slice (some ⟨g, 0, none⟩) 32768 32768) := by simp only [World.cell?, show w.heap[sb]? = _ from hN]; rfl
  have HO := hid (open_zero 256 (by omega) (by omega) s (by rw [hs]) hz w)
  have HN := hid hN
  have HW := hid (write_nil sb 128)
  clear hc hz hN hs
  go_enter Tryz.func21, Tryz.ntmps21
  go_wp2_with fail
  refine HO.out.mono ?_
  clear HO hconv
  rintro e w1 ⟨l, rfl, hA1, hl, hb1⟩
  have hN1 : NewBox w1 sb g := (hb1.block sb hsl).trans HN.out
  have d0 : w1.cell? ⟨sb, 0, none⟩ = some (.pointer none) := by simp only [World.cell?, show w1.heap[sb]? = _ from hN1]; rfl
  have f0 : w1.frozen? ⟨sb, 0, none⟩ = false := by simp [World.frozen?, show w1.heap[sb]? = _ from hN1]
  have HN1 := hid hN1
  have HA1 := hid hA1
  clear hN1 hA1 c1
  go_wp2_with fail
  refine (HW.out _).mono ?_
  rintro e w2 ⟨rfl, rfl⟩
  go_wp2
  go_ret
  have hk : Keeps (fun k => k = sb) w (w1.setCell ⟨sb, 0, none⟩ (.pointer (some ⟨l, 0, none⟩))) := (below_toKeeps hb1 (fun k => k = sb)).setCell (p := ⟨sb, 0, none⟩) (.inl rfl) _
  have hbx : StoreBox (w1.setCell ⟨sb, 0, none⟩ (.pointer (some ⟨l, 0, none⟩))) sb l (.slice (some ⟨g, 0, none⟩) 32768 32768) 0 := heap_setCell_same w1 sb 0 _ _ _ HN1.out
  refine ⟨l, rfl, ⟨hbx, ?_, ⟨Led.none_ok, (fun _ h => by cases h), (fun _ h => by cases h), (fun _ h => by cases h), (fun _ h => by cases h), (fun _ h => by cases h), (fun _ h => by cases h)⟩, by omega⟩, hl, hk⟩
  obtain ⟨⟨r, n₀, h1, h2⟩, h3, h4, h5⟩ := HA1.out
  have hks : Keeps (fun k => k = sb) w1 (w1.setCell ⟨sb, 0, none⟩ (.pointer (some ⟨l, 0, none⟩))) := (Keeps.refl (fun k => k = sb) w1).setCell (p := ⟨sb, 0, none⟩) (.inl rfl) _
  refine ⟨⟨r, n₀, keeps_same hks (by omega) h1, h2.keptX (X := fun k => k = sb) (by simp) (fun k o u hk hc => ?_) (fun k hk => ?_)⟩, h3, h4, h5⟩
  · rw [World.cell?_of_block (w := w1) (Below.heap_setCell w1 ⟨sb, 0, none⟩ _ k hk)]; exact hc
  · obtain rfl : k = sb := hk
    have hq := HN1.out
    unfold NewBox at hq
    refine ⟨fun s l c e => ?_, fun o kk e => ?_⟩
    · rw [d0] at e; cases e
    · simp only [World.cell?, hq] at e
      match o, e with
      | 0, e => simp at e
      | 1, e => simp at e
      | 2, e => simp at e
      | o + 3, e => simp at e

end Go.Proofs.YtbpnllhhmookcaaGreatDoor
