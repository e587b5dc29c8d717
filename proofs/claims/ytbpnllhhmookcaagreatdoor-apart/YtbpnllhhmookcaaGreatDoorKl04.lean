/- firnkeep.Apart: the walk. -/
import Derived.Test.YtbpnllhhmookcaaGreatDoorKl03
import Derived.BigQuiet
namespace Go.Proofs.YtbpnllhhmookcaaGreatDoor
open Go.RowKit Go.Shelf

set_option maxRecDepth 8000 in
set_option maxHeartbeats 4000000 in
theorem apart_any (v : Value) (n : Nat) (R : Nat → Nat → Int) (w : World) (hR : RawsIn w v n R) :
    Calls Tryz.prog 5 #[v] w fun e w' => e = .returned (.bool true) ∧ Below w.heap.size w w' := by
  have HSt := hid (kstore_any w)
  have HR := hid hR
  obtain ⟨oa, cap, rfl, hn, hel⟩ := hR
  clear hel
  go_enter Tryz.func5, Tryz.ntmps5
  go_wp2_with fail
  refine HSt.out.mono ?_
  clear HSt
  rintro e w1 ⟨sb, l, rfl, hS1, hsb, hl, hb1⟩
  have HP := hid (plays_any _ n R w HR.out sb l 0 lg3 (by omega) w1 ⟨hS1, hb1, ⟨hsb, hl⟩, Reach.refl _, by omega⟩)
  clear HR hS1 hsb hl hb1
  go_wp2_with fail
  refine HP.out.mono ?_
  clear HP
  rintro e w2 ⟨rfl, p, L, hPS⟩
  have HAP := hid hPS.ap
  have HSm := hid hPS.rch.small
  have HI := hid hPS.st.inv
  have HF := hid hPS.st.led.few
  clear hPS hn
  go_wp2_with fail
  go_loopg [5, 6] 2 (fun gk nv iv wr => ∃ b : Nat, b + gk = 3 ∧ 1 ≤ b ∧ nv = .int .i64 (inC L b : Nat) ∧ iv = .int .i64 b ∧ AP w sb l p L wr)
  case atStart => exact ⟨1, by omega, by omega, by rw [inC_one]; rfl, rfl, HAP.out⟩
  case round =>
    clear HAP
    obtain ⟨b, hb3, hb1, rfl, rfl, hA⟩ := hrel
    have HB3 := hid hb3
    clear hb3
    by_cases hb : b ≤ 2
    · have hbi : (b : Int) ≤ 2 := by omega
      have HC := hid (kcont_any ⟨hb1, hb⟩ _ hA.st)
      have hic := inC_few HF.out b
      have him := inB_few b HF.out
      have HSu := hid (inC_succ L hb1)
      have HX := hid hA
      clear hA
      go_wp2_with fail
      refine HC.out.mono ?_
      clear HC
      rintro e w3 ⟨vv, x, rfl, hI3, hS3, hk3⟩
      have hA3 := HX.out.done hS3 hk3
      clear HX hS3 hk3
      rcases hI3 with ⟨g, cv, rfl, hg, hc⟩ | ⟨rfl, h0⟩
      · have hI3 : IntsIn w3 (.slice (some ⟨g, 0, none⟩) (Led.contQ (L.inB b)).length cv) (Led.contQ (L.inB b)) := .inl ⟨g, cv, rfl, hg, hc⟩
        clear hc hg
        have hlen := Led.contQ_len (L.inB b)
        rw [hlen] at hI3 ⊢
        have HX := hid (And.intro hA3 hI3)
        clear hA3 hI3 hlen
        generalize hm : (L.inB b).length = m at *
        have HM := hid hm
        clear hm
        generalize hm3 : 3 * m = M3 at *
        have HM3 := hid hm3
        have hrem : (M3 : Int).tmod 3 = 0 := by rw [← hm3]; rw [Int.tmod_eq_emod_of_nonneg (by omega)]; omega
        have hm96 : (M3 : Int) ≤ 96 := by omega
        clear hm3
        go_wp2_with fail
        go_loopg [5, 9] m (fun gk nv iv wr => ∃ q : Nat, q + gk = m ∧ nv = .int .i64 (inC L b + q : Nat) ∧ iv = .int .i64 (3 * q : Nat) ∧ AP w sb l p L wr ∧ IntsIn wr (.slice (some ⟨g, 0, none⟩) M3 cv) (Led.contQ (L.inB b)))
        case atStart => exact ⟨0, by omega, rfl, rfl, HX.out.1, HX.out.2⟩
        case round =>
          clear HX
          obtain ⟨q, hqm, rfl, rfl, hA, hI⟩ := hrel
          have HQ := hid hqm
          clear hqm
          by_cases hq : q < m
          · have hq' : q < (L.inB b).length := by rw [HM.out]; exact hq
            obtain ⟨c0, c1, c2⟩ := cont_cells hI hq'
            obtain ⟨ht, hst, hbx⟩ := Led.inB_tube HI.out hb1 (List.getElem_mem hq')
            have htn : 1 ≤ ((L.inB b)[q]).1 ∧ ((L.inB b)[q]).1 ≤ 12 := by
              have a1 := (HI.out.ok.t1 _ ((Led.tube_mem HI.out.ok).1 ht)).1
              have a2 := (HSm.out _ _ ht).1
              omega
            have HTw := hid (fun r (hr : r < q) => Led.inB_two HI.out hb1 hr hq')
            have HSh := hid (kshow_some ht htn _ hA.st)
            have hst' : (((L.inB b)[q]).2.status : Int) = 1 := by omega
            have hbx' : (((L.inB b)[q]).2.box : Int) = b := by omega
            have HX := hid (And.intro hA hI)
            clear hA hI ht htn hst hbx
            generalize hii : 3 * q = ii at *
            have HII := hid hii
            have hi0 : (ii : Int) < (M3 : Int) := by have := HM3.out; omega
            have hi1 : (ii : Int) + 1 < (M3 : Int) := by have := HM3.out; omega
            have hi2 : (ii : Int) + 2 < (M3 : Int) := by have := HM3.out; omega
            have him2 : (ii : Int) ≤ 96 := by omega
            clear hii
            go_wp2_with fail
            refine HSh.out.mono ?_
            clear HSh
            rintro e w5 ⟨mv, rfl, hI5, hS5, hk5⟩
            obtain ⟨hA, hI⟩ := HX.out
            have hA5 := hA.done hS5 hk5
            have hI5' := hI.keepsL hA.st.led hk5
            obtain ⟨gm, cm, rfl, _, _, _, _, _, _, i5, _, i7, i8, i9⟩ := show_cells hI5
            rw [hst'] at i5
            rw [hbx'] at i7
            obtain ⟨d0, d1, d2⟩ := cont_cells hI5' hq'
            rw [HII.out] at d0 d1 d2
            clear c0 c1 c2 HX hA hI hI5 hS5 hk5 hst' hbx'
            have HX := hid (And.intro hA5 hI5')
            clear hA5 hI5'
            go_wp2_with fail
            go_quiet (fail)
            go_wp2_with fail
            go_loopw [12] (fun i wr' => ∃ r nd : Nat, r ≤ q ∧ i = .int .i64 (3 * r : Nat) ∧ wr' = w5.drewN nd) (fun i _ => 3 * q - (intOf i).toNat)
            case atStart => exact ⟨0, _, by omega, rfl, rfl⟩
            case round =>
              clear i5 i7 i8 i9
              obtain ⟨r, nd, hr, rfl, rfl⟩ := hrel
              by_cases hrq : r < q
              · obtain ⟨s1, s2⟩ := HTw.out r hrq
                obtain ⟨e0, e1, e2⟩ := cont_cells (HX.out.2) (show r < (L.inB b).length by omega)
                have hjj : (3 * r : Nat) < ii := by have := HII.out; omega
                have HJ := hid hjj
                generalize hje : 3 * r = jj at *
                have HJE := hid hje
                have hj0 : (jj : Int) < (ii : Int) := by omega
                have hj1 : (jj : Int) < (M3 : Int) := by have := HM3.out; omega
                have hj2 : (jj : Int) + 1 < (M3 : Int) := by have := HM3.out; omega
                have hj3 : (jj : Int) + 2 < (M3 : Int) := by have := HM3.out; omega
                have hj4 : (jj : Int) ≤ 96 := by omega
                clear hje hjj
                generalize ((L.inB b)[r]'(by omega)).1 = rn at *
                generalize ((L.inB b)[r]'(by omega)).2.x = rx at *
                generalize ((L.inB b)[r]'(by omega)).2.y = ry at *
                generalize ((L.inB b)[q]).1 = qn at *
                generalize ((L.inB b)[q]).2.x = qx at *
                generalize ((L.inB b)[q]).2.y = qy at *
                have hge : decide (qn ≤ rn) = false := decide_eq_false (by omega)
                have hw1 : IntKind.i64.wrap ((jj : Int) + 1) = (jj : Int) + 1 := wraps63 _ (by omega) (by omega)
                have hw2 : IntKind.i64.wrap ((jj : Int) + 2) = (jj : Int) + 2 := wraps63 _ (by omega) (by omega)
                have hw3 : IntKind.i64.wrap ((ii : Int) + 1) = (ii : Int) + 1 := wraps63 _ (by omega) (by omega)
                have hw4 : IntKind.i64.wrap ((ii : Int) + 2) = (ii : Int) + 2 := wraps63 _ (by omega) (by omega)
                by_cases hx : rx = qx
                · have hx' : ((rx : Int) == (qx : Int)) = true := beq_iff_eq.2 (by omega)
                  have hy' : ((ry : Int) == (qy : Int)) = false := beq_eq_false_iff_ne.2 (fun e => s2 ⟨hx, by omega⟩)
                  clear s2 hx
                  go_wp2_with fail
                  go_quiet (fail)
                  go_wp2_with fail
                  exact ⟨⟨r + 1, _, by omega, by rw [← HJE.out]; go_num, rfl⟩, by simp [intOf]; have := HJE.out; omega⟩
                · have hx' : ((rx : Int) == (qx : Int)) = false := beq_eq_false_iff_ne.2 (by omega)
                  clear s2 hx
                  go_wp2_with fail
                  go_quiet (fail)
                  go_wp2_with fail
                  exact ⟨⟨r + 1, _, by omega, by rw [← HJE.out]; go_num, rfl⟩, by simp [intOf]; have := HJE.out; omega⟩
              · have hj0 : ¬ ((3 * r : Nat) : Int) < (ii : Int) := by have := HII.out; omega
                go_wp2_with fail
                go_roundg (m - (q + 1))
                case measure => have := HQ.out; omega
                case rel => exact ⟨q + 1, by have := HQ.out; omega, by go_num, by rw [← HII.out]; go_num, HX.out.1.drewN _, HX.out.2.drewN _⟩
          · have hi0 : ¬ ((3 * q : Nat) : Int) < (M3 : Int) := by have := HM3.out; omega
            have HE := hid hA
            clear hA hI
            go_wp2_with fail
            go_roundg (2 - b)
            case measure => have := HB3.out; omega
            case rel =>
              have e : q = m := by have := HQ.out; omega
              exact ⟨b + 1, by have := HB3.out; omega, by omega, by rw [HSu.out, e]; go_num, by go_num, HE.out⟩
      · have hl0 : (L.inB b).length = 0 := by have := Led.contQ_len (L.inB b); rw [h0] at this; simp at this; omega
        have HX := hid hA3
        clear hA3
        go_wp2_with fail
        go_loopg [5, 9] 0 (fun gk nv iv wr => nv = .int .i64 (inC L b : Nat) ∧ iv = .int .i64 0 ∧ wr = w3)
        case atStart => exact ⟨rfl, rfl, rfl⟩
        case round =>
          obtain ⟨rfl, rfl, rfl⟩ := hrel
          go_wp2_with fail
          go_roundg (2 - b)
          case measure => have := HB3.out; omega
          case rel => exact ⟨b + 1, by have := HB3.out; omega, by omega, by rw [HSu.out, hl0]; rfl, by go_num, HX.out⟩
    · have hbi : ¬ (b : Int) ≤ 2 := by omega
      have e3 : b = 3 := by have := HB3.out; omega
      subst e3
      have HE := hid (And.intro hA (And.intro (inC_end L) (stC_one HI.out)))
      clear hA
      have hT := inC_few HF.out 3
      generalize hT0 : inC L 3 = T0 at *
      have HT0 := hid hT0
      clear hT0
      have HAS := hid (as_start HE.out.1)
      go_wp2_with fail
      generalize hbu : wr.heap.size = bu at *
      generalize hbd : bu + 1 = bd at *
      clear hbu hbd
      go_loopg [5, 15] 12 (fun gk nv iv wr' => ∃ (c : Nat) (f g : Nat → Value), c + gk = 13 ∧ 1 ≤ c ∧ nv = .int .i64 ((T0 : Int) - (stC L c : Nat)) ∧ iv = .int .i64 c ∧ AS w sb l bu bd p L f (fun j => if 1 ≤ j ∧ j < c then natsI (L.upN j) else []) g (fun j => if 1 ≤ j ∧ j < c then natsI (L.downN j) else []) wr')
      case atStart =>
        refine ⟨1, fun _ => .slice none 0 0, fun _ => .slice none 0 0, by omega, by omega, by rw [HE.out.2.2]; simp, rfl, ?_⟩
        have e : ∀ F : Nat → List Int, (fun j => if 1 ≤ j ∧ j < 1 then F j else []) = fun _ => ([] : List Int) := fun F => by funext j; rw [if_neg (by omega)]
        rw [e, e]; exact HAS.out
      case round =>
        clear HAS
        obtain ⟨c, f, g, hc13, hc1, rfl, rfl, hA⟩ := hrel
        have HC := hid hc13
        clear hc13
        have hst := stC_le L c
        have HSt := hid (stC_succ L c)
        by_cases hc : c ≤ 12
        · have hci : (c : Int) ≤ 12 := by omega
          have hci13 : (c : Int) < 13 := by omega
          cases hq : L.tube c with
          | some q =>
            have HSh := hid (kshow_some hq ⟨hc1, hc⟩ _ hA.st)
            have HX := hid hA
            clear hA
            go_wp2_with fail
            refine HSh.out.mono ?_
            clear HSh
            rintro e w5 ⟨vv, rfl, hI5, hS5, hk5⟩
            have hA5 := HX.out.done hS5 hk5
            obtain ⟨gm, cm, rfl, _, _, _, _, _, _, i5, _, _, _, _⟩ := show_cells hI5
            clear HX hI5 hS5 hk5
            have HX := hid hA5
            clear hA5
            by_cases hs : q.status = 1
            · have hsn : L.stN c = true := by rw [stN_some hq, decide_eq_true hs]
              rw [hs] at i5
              clear hq hs
              have HU := hid (kup_any ⟨hc1, hc⟩ _ HX.out.st)
              go_wp2_with fail
              refine HU.out.mono ?_
              clear HU
              rintro e w6 ⟨uv, ux, rfl, hI6, hS6, hk6⟩
              obtain ⟨s6, n6, c6, rfl⟩ := ints_form hI6
              have hA6 := HX.out.done hS6 hk6
              have fz6 := hA6.up.fz c
              have cu6 := hA6.up.cell c (by omega)
              have hA7 := hA6.setUp (j := c) ⟨hc1, by omega⟩ hI6
              have HD := hid (kdown_any ⟨hc1, hc⟩ _ hA7.st)
              have HX7 := hid hA7
              clear HX hI6 hS6 hk6 hA6 hA7
              go_wp2_with fail
              refine HD.out.mono ?_
              clear HD
              rintro e w8 ⟨dv, dx, rfl, hI8, hS8, hk8⟩
              obtain ⟨s8, n8, c8, rfl⟩ := ints_form hI8
              have hA8 := HX7.out.done hS8 hk8
              have fz8 := hA8.down.fz c
              have cd8 := hA8.down.cell c (by omega)
              have HX8 := hid (And.intro hA8 hI8)
              clear HX7 hI8 hS8 hk8 hA8
              go_wp2_with fail
              go_roundg (12 - c)
              case measure => have := HC.out; omega
              case rel =>
                obtain ⟨hA8, hI8⟩ := HX8.out
                have hA9 := hA8.setDown (j := c) ⟨hc1, by omega⟩ hI8
                rw [nextF (fun j => natsI (L.upN j)) hc1, nextF (fun j => natsI (L.downN j)) hc1] at hA9
                refine ⟨c + 1, _, _, by have := HC.out; omega, by omega, ?_, by go_num, hA9⟩
                rw [HSt.out, hsn]
                go_num
            · have hsn : L.stN c = false := by rw [stN_some hq, decide_eq_false hs]
              have hs' : ((q.status : Int) == 1) = false := beq_eq_false_iff_ne.2 (by omega)
              clear hq hs
              have HU := hid (kup_any ⟨hc1, hc⟩ _ HX.out.st)
              go_wp2_with fail
              refine HU.out.mono ?_
              clear HU
              rintro e w6 ⟨uv, ux, rfl, hI6, hS6, hk6⟩
              obtain ⟨s6, n6, c6, rfl⟩ := ints_form hI6
              have hA6 := HX.out.done hS6 hk6
              have fz6 := hA6.up.fz c
              have cu6 := hA6.up.cell c (by omega)
              have hA7 := hA6.setUp (j := c) ⟨hc1, by omega⟩ hI6
              have HD := hid (kdown_any ⟨hc1, hc⟩ _ hA7.st)
              have HX7 := hid hA7
              clear HX hI6 hS6 hk6 hA6 hA7
              go_wp2_with fail
              refine HD.out.mono ?_
              clear HD
              rintro e w8 ⟨dv, dx, rfl, hI8, hS8, hk8⟩
              obtain ⟨s8, n8, c8, rfl⟩ := ints_form hI8
              have hA8 := HX7.out.done hS8 hk8
              have fz8 := hA8.down.fz c
              have cd8 := hA8.down.cell c (by omega)
              have HX8 := hid (And.intro hA8 hI8)
              clear HX7 hI8 hS8 hk8 hA8
              go_wp2_with fail
              go_roundg (12 - c)
              case measure => have := HC.out; omega
              case rel =>
                obtain ⟨hA8, hI8⟩ := HX8.out
                have hA9 := hA8.setDown (j := c) ⟨hc1, by omega⟩ hI8
                rw [nextF (fun j => natsI (L.upN j)) hc1, nextF (fun j => natsI (L.downN j)) hc1] at hA9
                refine ⟨c + 1, _, _, by have := HC.out; omega, by omega, ?_, by go_num, hA9⟩
                rw [HSt.out, hsn]
                go_num
          | none =>
            have hsn : L.stN c = false := stN_none hq
            have HSh := hid (kshow_none hq ⟨hc1, hc⟩ _ hA.st)
            have HX := hid hA
            clear hA hq
            go_wp2_with fail
            refine HSh.out.mono ?_
            clear HSh
            rintro e w5 ⟨vv, rfl, hI5, hS5, hk5⟩
            have hA5 := HX.out.done hS5 hk5
            obtain ⟨s5, n5, c5, rfl⟩ := ints_form hI5
            clear HX hI5 hS5 hk5
            have HX := hid hA5
            clear hA5
            have HU := hid (kup_any ⟨hc1, hc⟩ _ HX.out.st)
            go_wp2_with fail
            refine HU.out.mono ?_
            clear HU
            rintro e w6 ⟨uv, ux, rfl, hI6, hS6, hk6⟩
            obtain ⟨s6, n6, c6, rfl⟩ := ints_form hI6
            have hA6 := HX.out.done hS6 hk6
            have fz6 := hA6.up.fz c
            have cu6 := hA6.up.cell c (by omega)
            have hA7 := hA6.setUp (j := c) ⟨hc1, by omega⟩ hI6
            have HD := hid (kdown_any ⟨hc1, hc⟩ _ hA7.st)
            have HX7 := hid hA7
            clear HX hI6 hS6 hk6 hA6 hA7
            go_wp2_with fail
            refine HD.out.mono ?_
            clear HD
            rintro e w8 ⟨dv, dx, rfl, hI8, hS8, hk8⟩
            obtain ⟨s8, n8, c8, rfl⟩ := ints_form hI8
            have hA8 := HX7.out.done hS8 hk8
            have fz8 := hA8.down.fz c
            have cd8 := hA8.down.cell c (by omega)
            have HX8 := hid (And.intro hA8 hI8)
            clear HX7 hI8 hS8 hk8 hA8
            go_wp2_with fail
            go_roundg (12 - c)
            case measure => have := HC.out; omega
            case rel =>
              obtain ⟨hA8, hI8⟩ := HX8.out
              have hA9 := hA8.setDown (j := c) ⟨hc1, by omega⟩ hI8
              rw [nextF (fun j => natsI (L.upN j)) hc1, nextF (fun j => natsI (L.downN j)) hc1] at hA9
              refine ⟨c + 1, _, _, by have := HC.out; omega, by omega, ?_, by go_num, hA9⟩
              rw [HSt.out, hsn]
              go_num
        · have hci : ¬ (c : Int) ≤ 12 := by omega
          have e13 : c = 13 := by have := HC.out; omega
          subst e13
          have e0 : (T0 : Int) - ((stC L 13 : Nat) : Int) = 0 := by
            have h1 := HE.out.2.1
            have h2 : stC L 13 = (L.inB 1).length + (L.inB 2).length := Led.stored_count HI.out HSm.out
            omega
          rw [e0]
          have HX := hid hA
          clear hA HC HSt hst e0 HE HT0 hT
          go_wp2_with fail
          go_loopw [18] (fun i wr' => ∃ c : Nat, 1 ≤ c ∧ c ≤ 13 ∧ i = .int .i64 c ∧ AS w sb l bu bd p L f (fun j => if 1 ≤ j ∧ j < 13 then natsI (L.upN j) else []) g (fun j => if 1 ≤ j ∧ j < 13 then natsI (L.downN j) else []) wr') (fun i _ => 13 - (intOf i).toNat)
          case atStart => exact ⟨1, by omega, by omega, rfl, HX.out⟩
          case round =>
            clear HX
            obtain ⟨c, hc1, hc13, rfl, hA⟩ := hrel
            by_cases hc : c ≤ 12
            · have hci : (c : Int) ≤ 12 := by omega
              have hci13 : (c : Int) < 13 := by omega
              have HX := hid hA
              clear hA
              go_wp2_with fail
              go_loopw [19] (fun i wr' => ∃ k : Nat, 1 ≤ k ∧ k ≤ 13 ∧ i = .int .i64 k ∧ AS w sb l bu bd p L f (fun j => if 1 ≤ j ∧ j < 13 then natsI (L.upN j) else []) g (fun j => if 1 ≤ j ∧ j < 13 then natsI (L.downN j) else []) wr') (fun i _ => 13 - (intOf i).toNat)
              case atStart => exact ⟨1, by omega, by omega, rfl, HX.out⟩
              case round =>
                clear HX
                obtain ⟨k, hk1, hk13, rfl, hA⟩ := hrel
                by_cases hk : k ≤ 12
                · have hki : (k : Int) ≤ 12 := by omega
                  have hki13 : (k : Int) < 13 := by omega
                  have u1 := hA.up.cell c (by omega)
                  have hiu := hA.iu c (by omega)
                  simp only [show (1 ≤ c ∧ c < 13) from ⟨hc1, by omega⟩, and_self, if_true] at hiu
                  have HA1 := hid (among_any k (f c) _ _ hiu (upN_few L c))
                  have HEq := hid (up_down_eq HI.out (k := k) (id := c) (by omega) (by omega))
                  have HLt := hid (fun h => up_less HI.out (k := k) (id := c) h)
                  have HX := hid hA
                  clear hA hiu
                  go_wp2_with fail
                  refine HA1.out.mono ?_
                  clear HA1
                  rintro e wa ⟨rfl, na, rfl⟩
                  rw [among_nats]
                  have hA := HX.out.drewN na
                  have d1 := hA.down.cell k (by omega)
                  have hid1 := hA.idn k (by omega)
                  simp only [show (1 ≤ k ∧ k < 13) from ⟨hk1, by omega⟩, and_self, if_true] at hid1
                  have HA2 := hid (among_any c (g k) _ _ hid1 (downN_few L k))
                  clear HX u1 hid1
                  have HX := hid hA
                  clear hA
                  generalize World.drewN _ na = wa at *
                  generalize hca : (L.upN c).contains k = ca at *
                  go_wp2_with fail
                  refine HA2.out.mono ?_
                  clear HA2
                  rintro e wb ⟨rfl, nb, rfl⟩
                  rw [among_nats, ← HEq.out]
                  have HXb := hid (HX.out.drewN nb)
                  clear HX d1
                  cases ca with
                  | true =>
                    have hlt := HLt.out rfl
                    have hge : ¬ (c : Int) ≤ (k : Int) := by omega
                    go_wp2_with fail
                    exact ⟨⟨k + 1, by omega, by omega, by go_num, HXb.out⟩, by simp [intOf]; omega⟩
                  | false =>
                    go_wp2_with fail
                    exact ⟨⟨k + 1, by omega, by omega, by go_num, HXb.out⟩, by simp [intOf]; omega⟩
                · have hki : ¬ (k : Int) ≤ 12 := by omega
                  have HX := hid hA
                  clear hA
                  go_wp2_with fail
                  exact ⟨⟨c + 1, by omega, by omega, by go_num, HX.out⟩, by simp [intOf]; omega⟩
            · have hci : ¬ (c : Int) ≤ 12 := by omega
              have HX := hid hA.bel
              clear hA
              go_wp2_with fail
              go_ret
              exact ⟨rfl, HX.out⟩

end Go.Proofs.YtbpnllhhmookcaaGreatDoor
