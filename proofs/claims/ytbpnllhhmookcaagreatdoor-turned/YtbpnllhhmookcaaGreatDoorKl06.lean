/- firnkeep: shown: the walk. -/
import Derived.Test.YtbpnllhhmookcaaGreatDoorKl05
import Derived.BigQuiet
import Derived.Test.YtbpnllhhmookcaaGreatDoorKl03
import Derived.Test.YtbpnllhhmookcaaGreatDoorKk36
namespace Go.Proofs.YtbpnllhhmookcaaGreatDoor
open Go.RowKit Go.Shelf

set_option maxRecDepth 8000 in
set_option maxHeartbeats 4000000 in
theorem shown_any (sb l : Nat) (p : Int) (L : Led) (w : World) (hS : KAt w sb l p L) :
    Calls Tryz.prog 17 #[.pointer (some ⟨sb, 0, none⟩)] w fun e w' => ∃ vv, e = .returned vv ∧ IntsIn w' vv L.shownL ∧ KAt w' sb l p L ∧ Keeps (fun k => k = l) w w' ∧ L.shownL.length < 1000000 := by
  have HF := hid hS.led.few
  have HS := hid (show SH w sb l p L (.slice none 0 0) [] w from ⟨hS, OutAt.nil _ _, Keeps.refl _ _, hS.lt⟩)
  clear hS
  go_enter Tryz.func17, Tryz.ntmps17
  go_wp2_with fail
  go_loopg [3, 4] 12 (fun gk ov iv wr => ∃ c : Nat, c + gk = 13 ∧ 1 ≤ c ∧ iv = .int .i64 c ∧ SH w sb l p L ov (L.tubesL c) wr ∧ (L.tubesL c).length ≤ 6000 * c)
  case atStart => exact ⟨1, by omega, by omega, rfl, HS.out, by simp [Led.tubesL]⟩
  case round =>
    clear HS
    obtain ⟨c, hc13, hc1, rfl, hSH, hlen⟩ := hrel
    have HC := hid hc13
    by_cases hc : c ≤ 12
    · have hci : (c : Int) ≤ 12 := by omega
      have HX := hid (And.intro hSH hlen)
      clear hSH hlen hc13
      go_wp2_with fail
      go_loopg [3, 5] 5 (fun gk ov iv wr => ∃ k : Nat, k + gk = 17 ∧ 12 ≤ k ∧ iv = .int .i64 k ∧ SH w sb l p L ov (L.tubesL c ++ L.partL c k) wr ∧ (L.tubesL c ++ L.partL c k).length ≤ 6000 * c + 1002 * (k - 12))
      case atStart => exact ⟨12, by omega, by omega, rfl, by rw [Led.part_start, List.append_nil]; exact HX.out.1, by rw [Led.part_start, List.append_nil]; have := HX.out.2; omega⟩
      case round =>
        clear HX
        obtain ⟨k, hk17, hk12, rfl, hSH, hlen⟩ := hrel
        have HK := hid hk17
        clear hk17
        by_cases hk : k ≤ 16
        · have hki : (k : Int) ≤ 16 := by have := hk; omega
          by_cases hs : k = 13 ∨ k = 14
          · have HE := hid (And.intro hSH hlen)
            rw [← Led.part_same L c hs] at HE
            clear hSH hlen
            by_cases h13 : k = 13
            · have k13 : ((k : Int) == 13) = true := beq_iff_eq.2 (by omega)
              clear hs h13
              go_wp2_with fail
              go_roundg (16 - k)
              case measure => have := HK.out; omega
              case rel => exact ⟨k + 1, by have := HK.out; omega, by omega, by go_num, HE.out.1, by have := HE.out.2; omega⟩
            · have k13 : ((k : Int) == 13) = false := beq_eq_false_iff_ne.2 (by omega)
              have k14 : ((k : Int) == 14) = true := beq_iff_eq.2 (by omega)
              clear hs h13
              go_wp2_with fail
              go_roundg (16 - k)
              case measure => have := HK.out; omega
              case rel => exact ⟨k + 1, by have := HK.out; omega, by omega, by go_num, HE.out.1, by have := HE.out.2; omega⟩
          · have hk3 : k = 12 ∨ k = 15 ∨ k = 16 := by omega
            have k13 : ((k : Int) == 13) = false := beq_eq_false_iff_ne.2 (by omega)
            have k14 : ((k : Int) == 14) = false := beq_eq_false_iff_ne.2 (by omega)
            have HD := hid (kdoneN_any sb l p L (Led.cmQ k c) (Led.cmQ_enc hk3 ⟨hc1, hc⟩) _ hSH.st)
            rw [L.ask_step (Led.cmQ k c) (by simp only [Led.cmQ]; omega)] at HD
            have HN := hid (And.intro (L.part_next c hk3) (L.ask_len (n := c) HF.out hk3))
            have hle : (L.stepN 32 (Led.cmQ k c)).length ≤ 1000 := HN.out.2
            have HX := hid (And.intro hSH hlen)
            unfold Cm.val Led.cmQ at HD
            clear hSH hlen hs hk3
            go_wp2_with fail
            refine HD.out.mono ?_
            clear HD
            rintro e w5 ⟨vv, rfl, hI5, hS5, hk5, hn5⟩
            obtain ⟨oa, ca, rfl, _⟩ := hI5.parts
            have HS5 := hid (HX.out.1.done hS5 hk5)
            have HI5 := hid (fun (o : Obj) (w6 : World) hg => HX.out.1.list (w6 := w6) hI5 hn5 o hg)
            have HLn := hid HX.out.2
            have hbz := HS5.out.kp.size
            clear HX hI5 hS5 hk5 hn5
            have HO5 := fun o => (HS5.out.below ((Below.refl _ w5).alloc (Nat.le_refl _) o))
            have hl5 : (L.tubesL c ++ L.partL c k).length + 2 ≤ 1000000 := by have := HLn.out; omega
            have HE := hid (And.intro HN.out.1 (And.intro hle HLn.out))
            clear HN HLn
            change (L.stepN 32 ⟨k, c, 0, 0, 0, 0, 0, 0, 0⟩).length ≤ 1000 at hle
            generalize hse : L.stepE 32 ⟨k, c, 0, 0, 0, 0, 0, 0, 0⟩ = se at *
            generalize hsn : L.stepN 32 ⟨k, c, 0, 0, 0, 0, 0, 0, 0⟩ = sn at *
            have HEQ := hid (And.intro hse hsn)
            clear hse hsn
            generalize hzs : L.tubesL c ++ L.partL c k = zs at *
            have HZ := hid hzs
            clear hzs
            have hl6 : (zs ++ [se, (sn.length : Int)]).length + sn.length ≤ 1000000 := by have := HE.out.2.2; simp; omega
            go_wp2_with (first
              | (at_builtin; refine wpList_out rfl (.tmp 33) (.tmp 37) rfl rfl (HO5 _).out rfl (two_ints w5 _ _ _) hl5 (by simp; omega) ?_; intro v6 w6 ho6 hg6)
              | (at_builtin; refine wpList_out rfl (.tmp 39) (.tmp 40) rfl rfl ho6 rfl (HI5.out _ _ hg6) hl6 (by have := hg6.size; simp at this; omega) ?_; intro v7 w7 ho7 hg7))
            go_roundg (16 - k)
            case measure => have := HK.out; omega
            case rel =>
              have hS7 := ((HO5 _).grown ho6 hg6).grown ho7 hg7
              have eq : zs ++ [se, (sn.length : Int)] ++ sn = L.tubesL c ++ L.partL c (k + 1) := by
                rw [HE.out.1, ← HZ.out]
                unfold Led.ansL Led.cmQ
                rw [HEQ.out.1, HEQ.out.2]
                simp
              rw [eq] at hS7
              refine ⟨k + 1, by have := HK.out; omega, by omega, by go_num, hS7, ?_⟩
              rw [← eq]
              have h1 := HE.out.2.2
              simp
              omega
        · have hki : ¬ (k : Int) ≤ 16 := by have := hk; omega
          have e17 : k = 17 := by have := HK.out; omega
          subst e17
          rw [← Led.tubes_next L hc1] at hSH hlen
          have HE := hid (And.intro hSH hlen)
          clear hSH hlen
          go_wp2_with fail
          go_roundg (12 - c)
          case measure => have := HC.out; omega
          case rel => exact ⟨c + 1, by have := HC.out; omega, by omega, by go_num, HE.out.1, by have h1 := HE.out.2; clear HK; omega⟩
    · have hci : ¬ (c : Int) ≤ 12 := by omega
      have e13 : c = 13 := by omega
      subst e13
      have HX := hid (And.intro hSH hlen)
      clear hSH hlen hc13 HC
      go_wp2_with fail
      go_loopg [3, 8] 2 (fun gk ov iv wr => ∃ k : Nat, k + gk = 3 ∧ 1 ≤ k ∧ iv = .int .i64 k ∧ SH w sb l p L ov (L.tubesL 13 ++ L.boxesL k) wr ∧ (L.tubesL 13 ++ L.boxesL k).length ≤ 80000 + 1000 * k)
      case atStart => exact ⟨1, by omega, by omega, rfl, by rw [show L.boxesL 1 = [] from rfl, List.append_nil]; exact HX.out.1, by rw [show L.boxesL 1 = [] from rfl, List.append_nil]; have := HX.out.2; omega⟩
      case round =>
        clear HX
        obtain ⟨k, hk3, hk1, rfl, hSH, hlen⟩ := hrel
        have HK := hid hk3
        clear hk3
        by_cases hk : k ≤ 2
        · have hki : (k : Int) ≤ 2 := by omega
          have HD := hid (kdoneN_any sb l p L (Led.cmCont k) (Led.cmCont_enc ⟨hk1, hk⟩) _ hSH.st)
          rw [L.ask_step (Led.cmCont k) (.inr (.inl rfl))] at HD
          have HN := hid (And.intro (L.boxes_next hk1) (L.cont_len (b := k) hSH.st.inv hk1 HF.out))
          have hle : (L.stepN 32 (Led.cmCont k)).length ≤ 96 := HN.out.2
          have HX := hid (And.intro hSH hlen)
          unfold Cm.val Led.cmCont at HD
          clear hSH hlen
          go_wp2_with fail
          refine HD.out.mono ?_
          clear HD
          rintro e w5 ⟨vv, rfl, hI5, hS5, hk5, hn5⟩
          obtain ⟨oa, ca, rfl, _⟩ := hI5.parts
          have HS5 := hid (HX.out.1.done hS5 hk5)
          have HI5 := hid (fun (o : Obj) (w6 : World) hg => HX.out.1.list (w6 := w6) hI5 hn5 o hg)
          have HLn := hid HX.out.2
          have hbz := HS5.out.kp.size
          clear HX hI5 hS5 hk5 hn5
          have HO5 := fun o => (HS5.out.below ((Below.refl _ w5).alloc (Nat.le_refl _) o))
          have hl5 : (L.tubesL 13 ++ L.boxesL k).length + 2 ≤ 1000000 := by have := HLn.out; omega
          have HE := hid (And.intro HN.out.1 (And.intro hle HLn.out))
          clear HN HLn
          change (L.stepN 32 ⟨13, 0, 0, 0, 0, k, 0, 0, 0⟩).length ≤ 96 at hle
          generalize hse : L.stepE 32 ⟨13, 0, 0, 0, 0, k, 0, 0, 0⟩ = se at *
          generalize hsn : L.stepN 32 ⟨13, 0, 0, 0, 0, k, 0, 0, 0⟩ = sn at *
          have HEQ := hid (And.intro hse hsn)
          clear hse hsn
          generalize hzs : L.tubesL 13 ++ L.boxesL k = zs at *
          have HZ := hid hzs
          clear hzs
          have hl6 : (zs ++ [se, (sn.length : Int)]).length + sn.length ≤ 1000000 := by have := HE.out.2.2; simp; omega
          go_wp2_with (first
            | (at_builtin; refine wpList_out rfl (.tmp 53) (.tmp 57) rfl rfl (HO5 _).out rfl (two_ints w5 _ _ _) hl5 (by simp; omega) ?_; intro v6 w6 ho6 hg6)
            | (at_builtin; refine wpList_out rfl (.tmp 59) (.tmp 60) rfl rfl ho6 rfl (HI5.out _ _ hg6) hl6 (by have := hg6.size; simp at this; omega) ?_; intro v7 w7 ho7 hg7))
          go_roundg (2 - k)
          case measure => have := HK.out; omega
          case rel =>
            have hS7 := ((HO5 _).grown ho6 hg6).grown ho7 hg7
            have eq : zs ++ [se, (sn.length : Int)] ++ sn = L.tubesL 13 ++ L.boxesL (k + 1) := by
              rw [HE.out.1, ← HZ.out]
              unfold Led.ansL Led.cmCont
              rw [HEQ.out.1, HEQ.out.2]
              simp
            rw [eq] at hS7
            refine ⟨k + 1, by have := HK.out; omega, by omega, by go_num, hS7, ?_⟩
            rw [← eq]
            have h1 := HE.out.2.2
            simp
            omega
        · have hki : ¬ (k : Int) ≤ 2 := by omega
          have e3 : k = 3 := by have := HK.out; omega
          subst e3
          have HE := hid (And.intro hSH hlen)
          clear hSH hlen
          go_wp2_with fail
          go_ret
          exact ⟨_, rfl, HE.out.1.out.ints, HE.out.1.st, HE.out.1.kp, by have := HE.out.2; unfold Led.shownL; omega⟩

end Go.Proofs.YtbpnllhhmookcaaGreatDoor

/- firnkeep.Turned: a turn and a flip as questions of a store; same of any two lists. -/
namespace Go.Proofs.YtbpnllhhmookcaaGreatDoor
open Go.RowKit Go.Shelf

theorem kturn_any {sb l : Nat} {p : Int} {L : Led} {b n : Nat} (hb : 1 ≤ b ∧ b ≤ 2) (hn : 1 ≤ n ∧ n ≤ 3) (w : World) (hS : KAt w sb l p L) :
    Calls Tryz.prog 12 #[.pointer (some ⟨sb, 0, none⟩), .agg #[.int .i64 10, .int .i64 0, .int .i64 0, .int .i64 0, .int .i64 0, .int .i64 b, .int .i64 0, .int .i64 0, .int .i64 n]] w fun e w' => ∃ vv, e = .returned (.tuple #[vv, .int .i64 (if L.sideN b = 0 then 9 else 0)]) ∧ KAt w' sb l p (L.stepL 32 (Led.cmTurn b n)) ∧ Keeps (fun k => k = l) w w' := by
  have := kdone_any sb l p L (Led.cmTurn b n) (Led.cmTurn_r hb hn).enc w hS
  rw [(Led.turn_step hS.inv hb.1 hS.led.few).1] at this
  refine this.mono ?_
  rintro e w' ⟨vv, rfl, _, h⟩
  exact ⟨vv, rfl, h⟩
theorem kflip_any {sb l : Nat} {p : Int} {L : Led} {b : Nat} (hb : 1 ≤ b ∧ b ≤ 2) (w : World) (hS : KAt w sb l p L) :
    Calls Tryz.prog 12 #[.pointer (some ⟨sb, 0, none⟩), .agg #[.int .i64 11, .int .i64 0, .int .i64 0, .int .i64 0, .int .i64 0, .int .i64 b, .int .i64 0, .int .i64 0, .int .i64 0]] w fun e w' => ∃ vv x, e = .returned (.tuple #[vv, .int .i64 x]) ∧ KAt w' sb l p (L.stepL 32 (Led.cmFlip b)) ∧ Keeps (fun k => k = l) w w' := by
  refine (kdone_any sb l p L (Led.cmFlip b) (Led.cmFlip_r hb).enc w hS).mono ?_
  rintro e w' ⟨vv, rfl, _, h⟩
  exact ⟨vv, _, rfl, h⟩
theorem turn_side {L : Led} (hI : L.Inv) (hf : L.kvs.length ≤ 32) {b n : Nat} (hb : 1 ≤ b) : (L.stepL 32 (Led.cmTurn b n)).sideN b = L.sideN b := by
  rw [(Led.turn_step hI hb hf).2]
  split
  · rfl
  · exact Led.mvB_side _ _ _ _

def IsBool (e : Ending) : Prop := ∃ t : Bool, e = .returned (.bool t)

set_option maxHeartbeats 1000000 in
theorem same_bool (a b : Value) (xs ys : List Int) (w : World) (ha : IntsIn w a xs) (hb : IntsIn w b ys) (hn : xs.length < 1000000) (_hm : ys.length < 1000000) :
    Calls Tryz.prog 16 #[a, b] w fun e w' => IsBool e ∧ ∃ n, w' = w.drewN n := by
  obtain ⟨oa, ca, rfl, hca⟩ := ha.parts
  obtain ⟨ob, cb, rfl, hcb⟩ := hb.parts
  have HA := hid hca
  have HB := hid hcb
  clear hca hcb ha hb
  go_enter Tryz.func16, Tryz.ntmps16
  by_cases hne : xs.length = ys.length
  · have hne' : ((xs.length : Int) == (ys.length : Int)) = true := beq_iff_eq.2 (by omega)
    go_wp2_with fail
    go_loopw [5] (fun i wr => ∃ k nd : Nat, k ≤ xs.length ∧ i = .int .i64 k ∧ wr = w.drewN nd) (fun i _ => xs.length - (intOf i).toNat)
    case atStart => exact ⟨0, 0, Nat.zero_le _, rfl, rfl⟩
    case round =>
      obtain ⟨k, nd, hk, rfl, rfl⟩ := hrel
      by_cases hlt : k < xs.length
      · obtain ⟨pa, rfl, _, hpa⟩ := HA.out k hlt
        obtain ⟨pb, rfl, _, hpb⟩ := HB.out k (by omega)
        generalize xs[k] = z at *
        have hk2 : k < ys.length := by omega
        generalize ys[k] = z' at *
        have hlt' : (k : Int) < (xs.length : Int) := by omega
        have hlt2 : (k : Int) < (ys.length : Int) := by omega
        cases hz : (z == z') with
        | true =>
          go_wp2_with fail
          go_quiet (fail)
          go_wp2
          go_roundw
          case rel => exact ⟨k + 1, _, by omega, by go_num, rfl⟩
          case measure => simp [intOf]; omega
        | false =>
          go_wp2_with fail
          go_quiet (fail)
          go_wp2
          go_ret
          exact ⟨⟨false, rfl⟩, _, World.drewN_drewN _ _ _⟩
      · have hlt' : ¬ (k : Int) < (xs.length : Int) := by omega
        go_wp2
        go_ret
        exact ⟨⟨true, rfl⟩, _, rfl⟩
  · have hne' : ((xs.length : Int) == (ys.length : Int)) = false := beq_eq_false_iff_ne.2 (by omega)
    go_wp2
    go_ret
    exact ⟨⟨false, rfl⟩, 0, rfl⟩

end Go.Proofs.YtbpnllhhmookcaaGreatDoor

/- firnkeep.Turned: the walk. -/
namespace Go.Proofs.YtbpnllhhmookcaaGreatDoor
open Go.RowKit Go.Shelf

/-- What lies in memory as Turned goes on: the store; lists. -/
structure TS (w : World) (sb l : Nat) (p : Int) (L : Led) (vs : List (Value × List Int)) (wr : World) : Prop where
  ap : AP w sb l p L wr
  ints : ∀ x ∈ vs, IntsIn wr x.1 x.2
variable {w wr w' : World} {sb l : Nat} {p : Int} {L L' : Led} {vs : List (Value × List Int)}
theorem TS.done (h : TS w sb l p L vs wr) (hs : KAt w' sb l p L') (hk : Keeps (fun k => k = l) wr w') : TS w sb l p L' vs w' :=
  ⟨h.ap.done hs hk, fun x hx => (h.ints x hx).keepsL h.ap.st.led hk⟩
theorem TS.add (h : TS w sb l p L vs wr) {v : Value} {zs : List Int} (hi : IntsIn wr v zs) : TS w sb l p L ((v, zs) :: vs) wr :=
  ⟨h.ap, fun x hx => by
    rcases List.mem_cons.1 hx with rfl | hx
    · exact hi
    · exact h.ints x hx⟩
theorem TS.drewN (h : TS w sb l p L vs wr) (n : Nat) : TS w sb l p L vs (wr.drewN n) := ⟨h.ap.drewN n, fun x hx => (h.ints x hx).drewN n⟩

/-- The ledger behind k rounds of a flip and a turn. -/
def roundsL (L : Led) (b n : Nat) : Nat → Led
  | 0 => L
  | k + 1 => ((roundsL L b n k).stepL 32 (Led.cmFlip b)).stepL 32 (Led.cmTurn b n)

set_option maxRecDepth 8000 in
set_option maxHeartbeats 4000000 in
theorem turnedK_any (v : Value) (n : Nat) (R : Nat → Nat → Int) (z1 z2 : Int) (h1 : I64 z1) (h2 : I64 z2) (w : World) (hR : RawsIn w v n R) :
    Calls Tryz.prog 7 #[v, .int .i64 z1, .int .i64 z2] w fun e w' => e = .returned (.bool true) ∧ Below w.heap.size w w' := by
  have HSt := hid (kstore_any w)
  have HR := hid hR
  have HPk := hid (pick_any z1 h1 2 (by omega) (by omega))
  have HPk2 := hid (pick_any z2 h2 3 (by omega) (by omega))
  obtain ⟨oa, cap, rfl, hn, hel⟩ := hR
  clear hel
  obtain ⟨h11, h12⟩ := h1
  obtain ⟨h21, h22⟩ := h2
  go_enter Tryz.func7, Tryz.ntmps7
  go_wp2_with fail
  refine HSt.out.mono ?_
  clear HSt
  rintro e w1 ⟨sb, l, rfl, hS1, hsb, hl, hb1⟩
  have HP := hid (plays_any _ n R w HR.out sb l 0 lg3 (by omega) w1 ⟨hS1, hb1, ⟨hsb, hl⟩, Reach.refl _, by omega⟩)
  clear HR hS1 hsb hl hb1
  go_wp2_with fail
  refine HP.out.mono ?_
  clear HP
  rintro e w2 ⟨rfl, p, L, hPS⟩
  have HI := hid (And.intro hPS.st.inv hPS.st.led.few)
  have HT := hid (show TS w sb l p L [] w2 from ⟨hPS.ap, fun x hx => by cases hx⟩)
  clear hPS hn
  go_wp2_with fail
  refine (HPk.out _).mono ?_
  clear HPk
  rintro e w3 ⟨bq, rfl, hbq, rfl⟩
  go_wp2_with fail
  refine (HPk2.out _).mono ?_
  clear HPk2
  rintro e w4 ⟨nq, rfl, hnq, rfl⟩
  have HS1 := hid (shown_any sb l p L _ HT.out.ap.st)
  go_wp2_with fail
  obtain ⟨B, hB, hB1⟩ : ∃ B : Nat, (1 + (bq : Int)) = B ∧ (1 ≤ B ∧ B ≤ 2) := ⟨1 + bq, by omega, by omega⟩
  obtain ⟨N, hN, hN1⟩ : ∃ N : Nat, (1 + (nq : Int)) = N ∧ (1 ≤ N ∧ N ≤ 3) := ⟨1 + nq, by omega, by omega⟩
  rw [hB, hN]
  clear hB hN hbq hnq
  have hB2 : (B : Int) ≤ 2 := by omega
  have hN2 : (N : Int) ≤ 3 := by omega
  have hN3 : 1 ≤ (N : Int) := by omega
  refine HS1.out.mono ?_
  clear HS1
  rintro e w5 ⟨v1, rfl, hi5, hS5, hk5, hl5⟩
  have HL := hid hl5
  have HT5 := hid ((HT.out.done hS5 hk5).add hi5)
  clear HT hi5 hS5 hk5 hl5
  have HTu := hid (kturn_any hB1 hN1 w5 HT5.out.ap.st)
  go_wp2_with fail
  refine HTu.out.mono ?_
  clear HTu
  rintro e w6 ⟨x6, rfl, hS6, hk6⟩
  have HT6 := hid (HT5.out.done hS6 hk6)
  clear HT5 hS6 hk6
  generalize her : (if L.sideN B = 0 then (9 : Int) else 0) = er at *
  have Her := hid her
  clear her
  have HS2 := hid (shown_any sb l p _ w6 HT6.out.ap.st)
  go_wp2_with fail
  refine HS2.out.mono ?_
  clear HS2
  rintro e w7 ⟨v2, rfl, hi7, hS7, hk7, hl7⟩
  have HL2 := hid hl7
  have HT7 := hid ((HT6.out.done hS7 hk7).add hi7)
  clear HT6 hi7 hS7 hk7 hl7
  obtain ⟨N', hN', hN4⟩ : ∃ N' : Nat, N' = 4 - N ∧ (1 ≤ N' ∧ N' ≤ 3) := ⟨4 - N, rfl, by omega⟩
  have HTu := hid (kturn_any hB1 hN4 w7 HT7.out.ap.st)
  have eN' : (N' : Int) = 4 - (N : Int) := by omega
  rw [eN'] at HTu
  rw [turn_side HI.out.1 HI.out.2 hB1.1, hN', Led.same_turn HI.out.1 HI.out.2 hB1 hN1, Her.out] at HTu
  clear eN' hN' hN4 Her
  go_wp2_with fail
  refine HTu.out.mono ?_
  clear HTu
  rintro e w8 ⟨x8, rfl, hS8, hk8⟩
  have HT8 := hid (HT7.out.done hS8 hk8)
  clear HT7 hS8 hk8
  have HS3 := hid (shown_any sb l p _ w8 HT8.out.ap.st)
  go_wp2_with fail
  refine HS3.out.mono ?_
  clear HS3
  rintro e w9 ⟨v3, rfl, hi9, hS9, hk9, hl9⟩
  have HT9 := hid ((HT8.out.done hS9 hk9).add hi9)
  clear HT8 hi9 hS9 hk9 hl9
  go_wp2_with fail
  go_loopw [18] (fun i wr => ∃ k : Nat, k ≤ 2 ∧ i = .int .i64 k ∧ TS w sb l p (roundsL L B N k) [(v3, L.shownL), (v2, (L.stepL 32 (Led.cmTurn B N)).shownL), (v1, L.shownL)] wr) (fun i _ => 2 - (intOf i).toNat)
  case atStart => exact ⟨0, by omega, rfl, HT9.out⟩
  case round =>
    clear HT9
    obtain ⟨k, hk2, rfl, hT⟩ := hrel
    by_cases hk : k < 2
    · have hki : (k : Int) < 2 := by omega
      have HFl := hid (kflip_any hB1 _ hT.ap.st)
      have HX := hid hT
      clear hT
      go_wp2_with fail
      refine HFl.out.mono ?_
      clear HFl
      rintro e wa ⟨xa, ya, rfl, hSa, hka⟩
      have HXa := hid (HX.out.done hSa hka)
      clear HX hSa hka
      have HTa := hid (kturn_any hB1 hN1 wa HXa.out.ap.st)
      generalize (if ((roundsL L B N k).stepL 32 (Led.cmFlip B)).sideN B = 0 then (9 : Int) else 0) = eq at *
      go_wp2_with fail
      refine HTa.out.mono ?_
      clear HTa
      rintro e wb ⟨xb, rfl, hSb, hkb⟩
      have HXb := hid (HXa.out.done hSb hkb)
      clear HXa hSb hkb
      go_wp2_with fail
      exact ⟨⟨k + 1, by omega, by go_num, HXb.out⟩, by simp [intOf]; omega⟩
    · have hki : ¬ (k : Int) < 2 := by omega
      have e2 : k = 2 := by omega
      subst e2
      have eR : roundsL L B N 2 = L := Led.same_twice HI.out.1 HI.out.2 hB1 hN1
      rw [eR] at hT
      have HS4 := hid (shown_any sb l p _ _ hT.ap.st)
      have HX := hid hT
      clear hT eR
      go_wp2_with fail
      refine HS4.out.mono ?_
      clear HS4
      rintro e wa ⟨v4, rfl, hia, hSa, hka, hla⟩
      have HXa := hid ((HX.out.done hSa hka).add hia)
      clear HX hSa hka hia hla
      have HFl := hid (kflip_any hB1 _ HXa.out.ap.st)
      go_wp2_with fail
      refine HFl.out.mono ?_
      clear HFl
      rintro e wb ⟨xb, yb, rfl, hSb, hkb⟩
      have HXb := hid (HXa.out.done hSb hkb)
      clear HXa hSb hkb
      have HTb := hid (kturn_any (n := 1) hB1 (by omega) wb HXb.out.ap.st)
      generalize (if (L.stepL 32 (Led.cmFlip B)).sideN B = 0 then (9 : Int) else 0) = eq1 at *
      go_wp2_with fail
      refine HTb.out.mono ?_
      clear HTb
      rintro e wc ⟨xc, rfl, hSc, hkc⟩
      have HXc := hid (HXb.out.done hSc hkc)
      clear HXb hSc hkc
      have HFl := hid (kflip_any hB1 _ HXc.out.ap.st)
      go_wp2_with fail
      refine HFl.out.mono ?_
      clear HFl
      rintro e wd ⟨xd, yd, rfl, hSd, hkd⟩
      have HXd := hid (HXc.out.done hSd hkd)
      clear HXc hSd hkd
      have HTd := hid (kturn_any (n := 3) hB1 (by omega) wd HXd.out.ap.st)
      rw [Led.same_half HI.out.1 HI.out.2 hB1] at HTd
      generalize (if (((L.stepL 32 (Led.cmFlip B)).stepL 32 (Led.cmTurn B 1)).stepL 32 (Led.cmFlip B)).sideN B = 0 then (9 : Int) else 0) = eq2 at *
      go_wp2_with fail
      refine HTd.out.mono ?_
      clear HTd
      rintro e wf ⟨xf, rfl, hSf, hkf⟩
      have HXf := hid (HXd.out.done hSf hkf)
      clear HXd hSf hkf
      have HS5 := hid (shown_any sb l p _ _ HXf.out.ap.st)
      go_wp2_with fail
      refine HS5.out.mono ?_
      clear HS5
      rintro e wg ⟨v5, rfl, hig, hSg, hkg, hlg⟩
      have HL5 := hid hlg
      have HXg := hid ((HXf.out.done hSg hkg).add hig)
      clear HXf hSg hkg hig hlg
      have Hs1 := hid (same_any v1 v3 L.shownL wg (HXg.out.ints (v1, L.shownL) (by simp)) (HXg.out.ints (v3, L.shownL) (by simp)) HL.out)
      go_wp2_with fail
      refine Hs1.out.mono ?_
      clear Hs1
      rintro e wh ⟨rfl, nh, rfl⟩
      have HXh := hid (HXg.out.drewN nh)
      clear HXg
      generalize wg.drewN nh = wh at *
      have Hs2 := hid (same_any v1 v4 L.shownL wh (HXh.out.ints (v1, L.shownL) (by simp)) (HXh.out.ints (v4, L.shownL) (by simp)) HL.out)
      go_wp2_with fail
      refine Hs2.out.mono ?_
      clear Hs2
      rintro e wi ⟨rfl, ni, rfl⟩
      have HXi := hid (HXh.out.drewN ni)
      clear HXh
      generalize wh.drewN ni = wi at *
      by_cases hN2' : N = 2
      · subst hN2'
        have Hs3 := hid (same_any v5 v2 (L.stepL 32 (Led.cmTurn B 2)).shownL wi (HXi.out.ints (v5, (L.stepL 32 (Led.cmTurn B 2)).shownL) (by simp)) (HXi.out.ints (v2, (L.stepL 32 (Led.cmTurn B 2)).shownL) (by simp)) HL2.out)
        have HBl := hid (fun n => (HXi.out.drewN n).ap.bel)
        go_wp2_with fail
        refine Hs3.out.mono ?_
        clear Hs3
        rintro e wj ⟨rfl, nj, rfl⟩
        go_wp2_with fail
        go_ret
        exact ⟨rfl, HBl.out _⟩
      · have hNn : ((N : Int) != 2) = true := by rw [bne_iff_ne]; omega
        have Hs3 := hid (same_bool v5 v2 (L.stepL 32 (Led.cmTurn B 2)).shownL (L.stepL 32 (Led.cmTurn B N)).shownL wi (HXi.out.ints (v5, (L.stepL 32 (Led.cmTurn B 2)).shownL) (by simp)) (HXi.out.ints (v2, (L.stepL 32 (Led.cmTurn B N)).shownL) (by simp)) HL5.out HL2.out)
        have HBl := hid (fun n => (HXi.out.drewN n).ap.bel)
        go_wp2_with fail
        refine Hs3.out.mono ?_
        clear Hs3
        rintro e wj ⟨⟨t, rfl⟩, nj, rfl⟩
        cases t
        · go_wp2_with fail
          go_ret
          exact ⟨rfl, HBl.out _⟩
        · go_wp2_with fail
          go_ret
          exact ⟨rfl, HBl.out _⟩

end Go.Proofs.YtbpnllhhmookcaaGreatDoor
