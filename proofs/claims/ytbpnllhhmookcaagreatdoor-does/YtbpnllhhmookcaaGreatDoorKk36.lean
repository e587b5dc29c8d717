/- Ledger: Do. -/
import Derived.Test.YtbpnllhhmookcaaGreatDoorKk34
import Derived.Test.YtbpnllhhmookcaaGreatDoorKk35
import Derived.Test.YtbpnllhhmookcaaGreatDoorKk02
namespace Go.Proofs.YtbpnllhhmookcaaGreatDoor
open Go.RowKit Go.Shelf

namespace Led
variable {L : Led} {m : Cm}

theorem memG_len (S : Nat → Bool) : (memG S).length ≤ 1000 := memTo_len S 1000
theorem memG_lt {S : Nat → Bool} {n : Nat} (h : n ∈ memG S) : n < 1000 := List.mem_range.1 (List.mem_filter.1 h).1

theorem tell_range (hI : L.Inv) (hf : L.kvs.length < 7000) : ∀ z ∈ L.tell m, 0 ≤ z ∧ z ≤ 1000000 := by
  have hl : L.ts.length < 7000 := by rw [Led.len] at hf; omega
  intro z hz
  unfold tell at hz
  split at hz
  · simp only [List.mem_singleton] at hz; subst hz
    have : (L.hits m.d).length ≤ L.ts.length := List.length_filter_le _ _
    omega
  split at hz
  · have hg := tubeD_ok hI.ok m.t
    have h2 : (L.tubeD m.t).began ≤ 1000000 ∧ (L.tubeD m.t).left ≤ 1000000 ∧ (L.tubeD m.t).used ≤ 1000000 ∧ (L.tubeD m.t).lost ≤ 1000000 := by
      unfold tubeD
      cases e : L.tube m.t with
      | none => exact ⟨by decide, by decide, by decide, by decide⟩
      | some q =>
        have g := (hI.ok.t1 _ ((tube_mem hI.ok).1 e)).2.2
        exact ⟨g.began, g.left, g.used, g.lost⟩
    have a1 := hg.donor; have a2 := hg.status; have a3 := hg.thaws; have a4 := hg.box; have a5 := hg.x; have a6 := hg.y
    simp only [showQ, List.mem_cons, List.not_mem_nil, or_false] at hz
    rcases hz with rfl | rfl | rfl | rfl | rfl | rfl | rfl | rfl | rfl | rfl <;> omega
  split at hz
  · obtain ⟨t, ht, hz⟩ := List.mem_flatMap.1 hz
    have h1 := hI.ok.t1 t (List.mem_filter.1 ht).1
    have a5 := h1.2.2.x; have a6 := h1.2.2.y
    simp only [List.mem_cons, List.not_mem_nil, or_false] at hz
    rcases hz with rfl | rfl | rfl <;> omega
  split at hz
  · obtain ⟨t, ht, rfl⟩ := List.mem_map.1 hz
    have h1 := hI.ok.t1 t (List.mem_filter.1 ht).1
    omega
  split at hz
  · obtain ⟨n, hn, rfl⟩ := List.mem_map.1 hz
    have := memG_lt hn; omega
  split at hz
  · obtain ⟨n, hn, rfl⟩ := List.mem_map.1 hz
    have := memG_lt hn; omega
  · cases hz

theorem tell_len (hf : L.kvs.length < 7000) : (L.tell m).length < 65536 := by
  have hl : L.ts.length < 7000 := by rw [Led.len] at hf; omega
  unfold tell
  split
  · simp
  split
  · simp [showQ]
  split
  · rw [contQ_len]; have := List.length_filter_le (inBox m.b) L.ts; omega
  split
  · have := ofN_len m.d L.ts; omega
  split
  · have := memG_len (kinS (upS (single m.t) L.ps) m.t); simp only [natsI, List.length_map]; omega
  split
  · have := memG_len (kinS (downS (single m.t) L.ps) m.t); simp only [natsI, List.length_map]; omega
  · simp

/-- What a frame comes to. -/
def fLed (L : Led) (lim : Nat) (s : List UInt8) : Led := if decB s then L.stepL lim (Cm.of (decC s)) else L
def fErr (L : Led) (lim : Nat) (s : List UInt8) : Int := if decB s then L.stepE lim (Cm.of (decC s)) else 1
def fNum (L : Led) (lim : Nat) (s : List UInt8) : List Int := if decB s then L.stepN lim (Cm.of (decC s)) else []

theorem stepE_range (L : Led) (lim : Nat) (m : Cm) : 0 ≤ L.stepE lim m ∧ L.stepE lim m ≤ 10 := by
  unfold stepE
  have := err_range L m
  split
  · split <;> omega
  · exact this
theorem stepN_range (hI : L.Inv) (hf : L.kvs.length < 7000) (lim : Nat) : ∀ z ∈ L.stepN lim m, 0 ≤ z ∧ z ≤ 1000000 := by
  unfold stepN
  split
  · exact tell_range hI hf
  · intro z hz; cases hz
theorem stepN_len (hf : L.kvs.length < 7000) (lim : Nat) : (L.stepN lim m).length < 65536 := by
  unfold stepN
  split
  · exact tell_len hf
  · simp
end Led

set_option maxRecDepth 8000 in
set_option maxHeartbeats 4000000 in
theorem do_any (l : Nat) (L : Led) (lim : Nat) (s : ByteArray) (hs : s.size ≤ maxLen) (w : World) (hA : LedgerAt w l L lim) (hI : L.Inv) :
    Calls Tryz.prog 35 #[.pointer (some ⟨l, 0, none⟩), .string s] w fun e w' => e = .returned (.tuple #[.string ⟨(replyL (L.fErr lim s.data.toList) (L.fNum lim s.data.toList)).toArray⟩, .slice none 0 0]) ∧ LedgerAt w' l (L.fLed lim s.data.toList) lim ∧ Keeps (fun k => k = l) w w' := by
  have HDe := hid (decode_any s w hs)
  have hfew : L.kvs.length < 7000 := by have := hA.few; have := hA.lim; omega
  have hll := hA.lt
  cases hb : decB s.data.toList with
  | false =>
    have hd : decC s.data.toList = zero9 ∧ decE s.data.toList = 1 := by simp [decC, decE, hb]
    rw [hd.1, hd.2] at HDe
    simp only [zero9] at HDe
    have HE := hid (show L.fErr lim s.data.toList = 1 ∧ L.fNum lim s.data.toList = [] ∧ L.fLed lim s.data.toList = L by simp [Led.fErr, Led.fNum, Led.fLed, hb])
    have HR := hid (fun u => wreply_any 1 (.slice none 0 0) [] u (by omega) (.inr ⟨rfl, rfl⟩) (by simp) (fun z hz => by cases hz))
    clear hd hb
    go_enter Tryz.func35, Tryz.ntmps35
    go_wp2_with (first
      | (go_at_call 55; refine HDe.out.mono ?_; clear HDe; rintro e w1 ⟨rfl, hb1⟩)
      | (go_at_call 56; refine (HR.out _).mono ?_; clear HR; rintro e w2 ⟨rfl, hb2⟩))
    go_ret2
    have hba : Below w1.heap.size w1 (w1.alloc (.cells #[.int .i64 0, .int .i64 0, .int .i64 0, .int .i64 0, .int .i64 0, .int .i64 0, .int .i64 0, .int .i64 0, .int .i64 0] 31)) := (Below.refl _ _).alloc (Nat.le_refl _) _
    have hB1 := hb1.trans (hba.mono hb1.size)
    have hB2 := hB1.trans (hb2.mono hB1.size)
    rw [HE.out.1, HE.out.2.1, HE.out.2.2]
    exact ⟨rfl, hA.below hB2, below_toKeeps hB2 _⟩
  | true =>
    have hen := (dec_enc _ hb).1
    have hde : decE s.data.toList = 0 := by simp [decE, hb]
    have hmo := Cm.of_ok hen
    rw [hde, Cm.of_val hen] at HDe
    have HE := hid (show L.fErr lim s.data.toList = L.stepE lim (Cm.of (decC s.data.toList)) ∧ L.fNum lim s.data.toList = L.stepN lim (Cm.of (decC s.data.toList)) ∧ L.fLed lim s.data.toList = L.stepL lim (Cm.of (decC s.data.toList)) by simp [Led.fErr, Led.fNum, Led.fLed, hb])
    generalize Cm.of (decC s.data.toList) = m at *
    have HDo := hid (fun u (hu : LedgerAt u l L lim) => booksDo_any l L lim m hmo u hu (fun he => Led.can_of hI hmo he))
    have hr1 := Led.stepE_range L lim m
    have HR := hid (fun u v (hu : IntsIn u v (L.stepN lim m)) => wreply_any (L.stepE lim m).toNat v (L.stepN lim m) u (by omega) hu (Led.stepN_len hfew lim) (fun z hz => by have := Led.stepN_range hI hfew lim z hz; omega))
    have hee : ((L.stepE lim m).toNat : Int) = L.stepE lim m := by omega
    rw [hee] at HR
    have HA := hid hA
    clear hA hen hb hde
    unfold Cm.val at *
    go_enter Tryz.func35, Tryz.ntmps35
    go_wp2_with (go_at_call 55; refine HDe.out.mono ?_; clear HDe; rintro e w1 ⟨rfl, hb1⟩)
    have hba : Below w1.heap.size w1 (w1.alloc (.cells #[.int .i64 m.k, .int .i64 m.t, .int .i64 m.o, .int .i64 m.d, .int .i64 m.v, .int .i64 m.b, .int .i64 m.x, .int .i64 m.y, .int .i64 m.n] 31)) := (Below.refl _ _).alloc (Nat.le_refl _) _
    have hC := Cm.has_new w1 31 m
    have hsC : (w1.alloc (.cells #[.int .i64 m.k, .int .i64 m.t, .int .i64 m.o, .int .i64 m.d, .int .i64 m.v, .int .i64 m.b, .int .i64 m.x, .int .i64 m.y, .int .i64 m.n] 31)).heap.size = w1.heap.size + 1 := by simp
    have hB1 := hb1.trans (hba.mono hb1.size)
    have hA1 := HA.out.below hB1
    have hs1 := hb1.size
    generalize w1.alloc (.cells #[.int .i64 m.k, .int .i64 m.t, .int .i64 m.o, .int .i64 m.d, .int .i64 m.v, .int .i64 m.b, .int .i64 m.x, .int .i64 m.y, .int .i64 m.n] 31) = w2 at *
    obtain ⟨c0, c1, c2, c3, c4, c5, c6, c7, c8⟩ := all9.1 hC.1
    simp only [Cm.ints] at c0 c1 c2 c3 c4 c5 c6 c7 c8
    have hA1' := hA1.below ((Below.refl _ _).drew)
    have hne : w1.heap.size ≠ l := by omega
    have hlt : w1.heap.size < w2.heap.size := by omega
    clear hba hC hb1 HA hA1
    go_region_held3 (fun u => u.cell? ⟨w1.heap.size, 0, none⟩ = some (.int .i64 m.k) ∧ u.cell? ⟨w1.heap.size, 1, none⟩ = some (.int .i64 m.t) ∧ u.cell? ⟨w1.heap.size, 2, none⟩ = some (.int .i64 m.o) ∧ u.cell? ⟨w1.heap.size, 3, none⟩ = some (.int .i64 m.d) ∧ u.cell? ⟨w1.heap.size, 4, none⟩ = some (.int .i64 m.v) ∧ u.cell? ⟨w1.heap.size, 5, none⟩ = some (.int .i64 m.b) ∧ u.cell? ⟨w1.heap.size, 6, none⟩ = some (.int .i64 m.x) ∧ u.cell? ⟨w1.heap.size, 7, none⟩ = some (.int .i64 m.y) ∧ u.cell? ⟨w1.heap.size, 8, none⟩ = some (.int .i64 m.n)) (go_keep) (first
      | (go_at_call 57; refine (HDo.out _ hA1').mono ?_; rintro e w3 ⟨v, rfl, hi3, hA3, hk3⟩; have c0 := (hk3.cell (p := ⟨w1.heap.size, 0, none⟩) hlt hne).trans c0; have c1 := (hk3.cell (p := ⟨w1.heap.size, 1, none⟩) hlt hne).trans c1; have c2 := (hk3.cell (p := ⟨w1.heap.size, 2, none⟩) hlt hne).trans c2; have c3 := (hk3.cell (p := ⟨w1.heap.size, 3, none⟩) hlt hne).trans c3; have c4 := (hk3.cell (p := ⟨w1.heap.size, 4, none⟩) hlt hne).trans c4; have c5 := (hk3.cell (p := ⟨w1.heap.size, 5, none⟩) hlt hne).trans c5; have c6 := (hk3.cell (p := ⟨w1.heap.size, 6, none⟩) hlt hne).trans c6; have c7 := (hk3.cell (p := ⟨w1.heap.size, 7, none⟩) hlt hne).trans c7; have c8 := (hk3.cell (p := ⟨w1.heap.size, 8, none⟩) hlt hne).trans c8; have HI3 := hid hi3; have HA3 := hid hA3; have HK3 := hid hk3; clear hi3 hA3 hk3))
    all_goals
      have HR3 := hid (HR.out w3 _ HI3.out)
      go_wp2_with (go_at_call 56; refine HR3.out.mono ?_; clear HR3; rintro e w4 ⟨rfl, hb4⟩)
      go_ret2
      rw [HE.out.1, HE.out.2.1, HE.out.2.2]
      exact ⟨rfl, HA3.out.below hb4, ((below_toKeeps hB1 (fun k => k = l)).drew.trans HK3.out).trans (below_toKeeps hb4 _)⟩

end Go.Proofs.YtbpnllhhmookcaaGreatDoor

/- What Numbers of package wire returns. -/
namespace Go.Proofs.YtbpnllhhmookcaaGreatDoor
open Go.RowKit

set_option maxHeartbeats 400000 in
theorem numbers_short (s : ByteArray) (w : World) (h3 : s.size < 3) :
    Calls Tryz.prog 58 #[.string s] w fun e w' => ∃ v, e = .returned (.tuple #[v, .int .i64 (numsT s.data.toList), .int .i64 (numsE s.data.toList)]) ∧ IntsIn w' v (numsL s.data.toList) ∧ Below w.heap.size w w' := by
  have hE := hid (nums_bad s.data.toList (by unfold numsB; simp [show ¬ 3 ≤ s.size by omega]))
  go_enter Tryz.func58, Tryz.ntmps58
  go_wp2
  go_ret3
  exact ⟨_, ret_nums hE.out.2, .inr ⟨rfl, hE.out.1⟩, Below.refl _ _⟩

set_option maxRecDepth 8000 in
set_option maxHeartbeats 1000000 in
theorem numbers_long (s : ByteArray) (w : World) (hs : s.size ≤ maxLen) (h3 : 3 ≤ s.size) (n0 n1 n2 c : Nat) (e0 : s[0].toNat = n0) (e1 : s[1].toNat = n1) (e2 : s[2].toNat = n2)
    (b0 : n0 < 256) (b1 : n1 < 256) (b2 : n2 < 256) (hc : bits BinOp.or IntKind.i64 ((n1 : Int) * 256) (n2 : Int) = (c : Int)) (hcb : c < 65536)
    (hbad : (¬ n0 ≤ 10 ∨ ¬ s.size = 3 + 4 * c ∨ okN (s.extract 3 s.size).data.toList c = false) → numsL s.data.toList = [] ∧ numsT s.data.toList = 0 ∧ numsE s.data.toList = 1)
    (hgood : n0 ≤ 10 → s.size = 3 + 4 * c → okN (s.extract 3 s.size).data.toList c = true → numsL s.data.toList = (List.range c).map (fun i => ((numB (s.extract 3 s.size).data.toList (4 * i) : Nat) : Int)) ∧ numsT s.data.toList = n0 ∧ numsE s.data.toList = 0) :
    Calls Tryz.prog 58 #[.string s] w fun e w' => ∃ v, e = .returned (.tuple #[v, .int .i64 (numsT s.data.toList), .int .i64 (numsE s.data.toList)]) ∧ IntsIn w' v (numsL s.data.toList) ∧ Below w.heap.size w w' := by
  unfold maxLen at hs
  obtain ⟨i0, hi, hz0, hz1, hz2⟩ := info_parts Tryz.infoInt
  have HBad := hid hbad
  have HGood := hid hgood
  clear hbad hgood
  have g0 : 0 < s.size := by omega
  have g1 : (1 : Int) < (s.size : Int) := by omega
  have g2 : (2 : Int) < (s.size : Int) := by omega
  have g3 : (3 : Int) ≤ (s.size : Int) := by omega
  have g13 : decide ((s.size : Int) < 3) = false := by simp; omega
  by_cases h10 : n0 ≤ 10
  · have h10' : (n0 : Int) ≤ 10 := by omega
    have g10 : decide ((10 : Int) < (n0 : Int)) = false := by simp; omega
    by_cases hlen : s.size = 3 + 4 * c
    · have hlt : (((s.size - 3 : Nat) : Int) != (c : Int) * 4) = false := by rw [bne_eq_false_iff_eq]; omega
      have HBad2 := hid (fun h => HBad.out (.inr (.inr h)))
      have HGood2 := hid (HGood.out h10 hlen)
      have hsz : (s.extract 3 s.size).size + 3 = s.size := by simp; omega
      have hsz4 : 4 * c ≤ (s.extract 3 s.size).size := by omega
      have hsz5 : (s.extract 3 s.size).size < 300000 := by omega
      clear HBad HGood hlen hsz
      go_enter Tryz.func58, Tryz.ntmps58
      go_wp2_with fail
      go_quiet (fail)
      go_wp2_with fail
      go_quiet (fail)
      go_wp2_with (at_make; refine wpList_make_full _ rfl _ _ 36 rfl w.heap.size 3 i0 (.int .i64 0) 1 Tryz.underlying36 hi hz0 hz1 .i64 .i64 _ _ c rfl rfl rfl rfl (by rw [hz2]; omega) (by unfold maxLen; omega) (by simp) ?_; intro w0 hown0 hgrow0)
      generalize s.extract 3 s.size = t at *
      have hN := (own_hasN hown0).congr (fun j => numsG_zero t.data.toList j)
      have hsz0 : w.heap.size < w0.heap.size := by have := hown0.lt w.heap.size rfl; omega
      have hB0 : Below w.heap.size w w0 := Below.grown (below_drewN (Below.refl _ _) _) hgrow0 (by simp) (fun k hk => by cases hk)
      clear hown0 hgrow0
      go_wp2_with fail
      go_loopw [40] (fun i wr => ∃ m : Nat, m ≤ c ∧ i = .int .i64 m ∧ HasN wr w.heap.size c (numsG t.data.toList m) ∧ Below w.heap.size w wr ∧ okN t.data.toList m = true ∧ w.heap.size < wr.heap.size)
        (fun i _ => c - (intOf i).toNat)
      case atStart => exact ⟨0, Nat.zero_le _, rfl, hN, hB0, rfl, hsz0⟩
      case round =>
        clear hN hB0 hsz0
        obtain ⟨m, hm, rfl, hN, hbel, hok, hsz⟩ := hrel
        have HOK := hid hok
        clear hok
        by_cases hlt : m < c
        · have hnl := numB_lt t.data.toList (4 * m)
          have hco := hN.1 m hlt
          have hfz := hN.2 m
          by_cases hb : numB t.data.toList (4 * m) ≤ 1000000
          · have hst := hid (okN_step t.data.toList m HOK.out hb)
            have HS := hid (fun j => numsG_step t.data.toList m j)
            have hb' : ((numB t.data.toList (4 * m) : Nat) : Int) ≤ 1000000 := by omega
            go_wp2_with (go_at_call 84; refine (numberAt_any t m _ (by unfold maxLen; omega) (by omega)).mono ?_; rintro e w' ⟨rfl, nd, rfl⟩)
            go_roundw
            case rel => exact ⟨m + 1, by omega, by go_num, ((hN.drewN nd).set hlt _).congr HS.out, (below_drewN hbel nd).setCell (by simp) _, hst.out, by simpa using hsz⟩
            case measure => simp [intOf]; omega
          · have hE := hid (HBad2.out (okN_bad t.data.toList m c hlt hb))
            have hb' : (1000000 : Int) < ((numB t.data.toList (4 * m) : Nat) : Int) := by omega
            go_wp2_with (go_at_call 84; refine (numberAt_any t m _ (by unfold maxLen; omega) (by omega)).mono ?_; rintro e w' ⟨rfl, nd, rfl⟩)
            go_ret3
            exact ⟨_, ret_nums hE.out.2, .inr ⟨rfl, hE.out.1⟩, below_drewN hbel nd⟩
        · have hme : m = c := by omega
          subst hme
          have hE := hid (HGood2.out HOK.out)
          go_wp2
          go_ret3
          exact ⟨_, ret_nums hE.out.2, ints_of_hasN hN hsz hE.out.1, hbel⟩
    · have hlt : (((s.size - 3 : Nat) : Int) != (c : Int) * 4) = true := by rw [bne_iff_ne]; omega
      have hE := hid (HBad.out (.inr (.inl hlen)))
      clear hlen
      go_enter Tryz.func58, Tryz.ntmps58
      go_wp2_with fail
      go_quiet (fail)
      go_wp2_with fail
      go_quiet (fail)
      go_wp2
      go_ret3
      exact ⟨_, ret_nums hE.out.2, .inr ⟨rfl, hE.out.1⟩, below_drewN (Below.refl _ _) _⟩
  · have h10' : (10 : Int) < (n0 : Int) := by omega
    have hE := hid (HBad.out (.inl h10))
    clear h10
    go_enter Tryz.func58, Tryz.ntmps58
    go_wp2_with fail
    go_quiet (fail)
    go_wp2_with fail
    go_quiet (fail)
    go_wp2
    go_ret3
    exact ⟨_, ret_nums hE.out.2, .inr ⟨rfl, hE.out.1⟩, below_drewN (Below.refl _ _) _⟩

theorem drop3 (s : ByteArray) : (s.extract 3 s.size).data.toList = s.data.toList.drop 3 := by
  simp [ByteArray.data_extract, List.take_of_length_le]

theorem wnums_any (s : ByteArray) (w : World) (hs : s.size ≤ maxLen) :
    Calls Tryz.prog 58 #[.string s] w fun e w' => ∃ v, e = .returned (.tuple #[v, .int .i64 (numsT s.data.toList), .int .i64 (numsE s.data.toList)]) ∧ IntsIn w' v (numsL s.data.toList) ∧ Below w.heap.size w w' := by
  by_cases h3 : 3 ≤ s.size
  · have e1 := getD_bytes s 1 (by omega)
    have e2 := getD_bytes s 2 (by omega)
    have e0 := getD_bytes s 0 (by omega)
    have hl : s.data.toList.length = s.size := by simp
    have hcn : cnt s.data.toList = s[1].toNat * 256 + s[2].toNat := by unfold cnt; rw [e1, e2]
    have q1 := byte_lt s[1]
    have q2 := byte_lt s[2]
    refine numbers_long s w hs h3 s[0].toNat s[1].toNat s[2].toNat (s[1].toNat * 256 + s[2].toNat) rfl rfl rfl (byte_lt _) q1 q2 (or2 _ _ q1 q2) (by omega) ?_ ?_
    · intro h
      refine nums_bad _ ?_
      unfold numsB
      rw [hcn, hl, e0, ← drop3 s]
      rcases h with h | h | h
      · simp [h]
      · simp [h]
      · rw [h]; simp
    · intro h1 h2 h4
      have := nums_good s.data.toList (by
        unfold numsB
        rw [hcn, hl, e0, ← drop3 s, h4, ← h2]; simp [h1, h3])
      rw [hcn, e0, ← drop3 s] at this
      exact this
  · exact numbers_short s w (by omega)

end Go.Proofs.YtbpnllhhmookcaaGreatDoor

/- The program's own calls Encode and Numbers, out of package wire's; and firnkeep's comparison of two lists. -/
namespace Go.Proofs.YtbpnllhhmookcaaGreatDoor
open Go.RowKit

set_option maxHeartbeats 400000 in
theorem encodeF_any (c : Nat → Int) (w : World) :
    Calls Tryz.prog 34 #[.agg #[.int .i64 (c 0), .int .i64 (c 1), .int .i64 (c 2), .int .i64 (c 3), .int .i64 (c 4), .int .i64 (c 5), .int .i64 (c 6), .int .i64 (c 7), .int .i64 (c 8)]] w fun e w' => e = .returned (.tuple #[.string ⟨(encS c).toArray⟩, .int .i64 (encE c)]) ∧ Below w.heap.size w w' := by
  go_enter Tryz.func34, Tryz.ntmps34
  go_wp2_with (go_at_call 54; refine (encode_any c _).mono ?_; rintro e w' ⟨rfl, hb⟩)
  go_ret2
  exact ⟨rfl, ((Below.refl _ _).alloc (Nat.le_refl _) _).trans (hb.mono (by simp))⟩

set_option maxHeartbeats 400000 in
theorem numbersF_any (s : ByteArray) (w : World) (hs : s.size ≤ maxLen) :
    Calls Tryz.prog 36 #[.string s] w fun e w' => ∃ v, e = .returned (.tuple #[v, .int .i64 (numsT s.data.toList), .int .i64 (numsE s.data.toList)]) ∧ IntsIn w' v (numsL s.data.toList) ∧ Below w.heap.size w w' := by
  go_enter Tryz.func36, Tryz.ntmps36
  go_wp2_with (go_at_call 58; refine (wnums_any s _ hs).mono ?_; rintro e w' ⟨v, rfl, hi, hb⟩)
  go_ret3
  exact ⟨_, rfl, hi, hb⟩

set_option maxHeartbeats 1000000 in
theorem same_any (a b : Value) (zs : List Int) (w : World) (ha : IntsIn w a zs) (hb : IntsIn w b zs) (hn : zs.length < 1000000) :
    Calls Tryz.prog 16 #[a, b] w fun e w' => e = .returned (.bool true) ∧ ∃ n, w' = w.drewN n := by
  obtain ⟨oa, ca, rfl, hca⟩ := ha.parts
  obtain ⟨ob, cb, rfl, hcb⟩ := hb.parts
  have HA := hid hca
  have HB := hid hcb
  clear hca hcb ha hb
  go_enter Tryz.func16, Tryz.ntmps16
  go_wp2_with fail
  go_loopw [5] (fun i wr => ∃ k nd : Nat, k ≤ zs.length ∧ i = .int .i64 k ∧ wr = w.drewN nd) (fun i _ => zs.length - (intOf i).toNat)
  case atStart => exact ⟨0, 0, Nat.zero_le _, rfl, rfl⟩
  case round =>
    obtain ⟨k, nd, hk, rfl, rfl⟩ := hrel
    by_cases hlt : k < zs.length
    · obtain ⟨pa, rfl, _, hpa⟩ := HA.out k hlt
      obtain ⟨pb, rfl, _, hpb⟩ := HB.out k hlt
      generalize zs[k] = z at *
      have hlt' : (k : Int) < (zs.length : Int) := by omega
      go_wp2_with fail
      go_quiet (fail)
      go_wp2
      go_roundw
      case rel => exact ⟨k + 1, _, by omega, by go_num, rfl⟩
      case measure => simp [intOf]; omega
    · go_wp2
      go_ret
      exact ⟨rfl, _, rfl⟩

end Go.Proofs.YtbpnllhhmookcaaGreatDoor
