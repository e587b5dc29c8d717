/- withdraw. -/
import Derived.Test.YtbpnllhhmookcaaGreatDoorKk25
import Derived.Test.YtbpnllhhmookcaaGreatDoorKk18
import Derived.Test.YtbpnllhhmookcaaGreatDoorKk15
import Derived.OrdersHeld
import Derived.OwnWalk
namespace Go.Proofs.YtbpnllhhmookcaaGreatDoor
open Go.RowKit Go.Shelf

attribute [local go_sem] Oper.semAt_some run_store_cplx

theorem ofN_nats (d : Int) (l : List TN) : ofN d l = natsI ((l.filter fun t => decide ((t.2.donor : Int) = d)).map Prod.fst) := by simp [ofN, natsI]

/-- Is it one that a withdrawal destroys? -/
def hitB (S : Nat → Bool) (t : TN) : Bool := S t.1 && !decide (t.2.status = 3)

theorem wd_end {V : World} {D : Nat} {c : Int} {R : World → Prop} {tmps : List Value} (hc : tmps[4]? = some (.int .i64 c)) (hD : V.heap[D]? = some (.deferred (some []))) (hR : R (V.putObj D (.deferred none))) :
    bodyPostM Fence.wide 0 Tryz.prog Tryz.f108 (fun e w' => e = .returned (.int .i64 c) ∧ R w') .ret
      { tmps := tmps.toArray, defers := [{ target := .collected D, args := #[] }] } V := by
  refine ⟨by simp, .inl ⟨_, _, rfl, run_takeDeferred hD, ?_⟩⟩
  refine ⟨.int .i64 c, ?_, rfl, hR⟩
  simp [results, Tryz.results108, go_sem, hc]

set_option maxRecDepth 8000 in
set_option maxHeartbeats 16000000 in
theorem withdraw_led (n₀ b : Nat) (m : Cm) (hm : m.Ok) (L : Led) (w : World) (hT : TxL n₀ w b L) (hnb : n₀ ≤ b) (hf : L.kvs.length < 3000) :
    Calls Tryz.prog 108 #[.pointer (some ⟨b, 0, none⟩), m.val] w fun e w' => e = .returned (.int .i64 (L.hits m.d).length) ∧ (∃ n₁, TxL n₁ w' b (L.chg PT.lostAll (L.hits m.d))) ∧ Keeps (fun k => k = b) w w' := by
  have hbl : b < w.heap.size := by obtain ⟨⟨⟨r, hB, hI⟩, hf⟩, _, _⟩ := hT; exact hB.lt
  have hn0 : n₀ ≤ w.heap.size := by obtain ⟨⟨⟨r, hB, hI⟩, hf⟩, _, _⟩ := hT; exact hI.2.1
  have hmd := hm.d
  have hL := hT.ok
  have hlt : L.ts.length < 3000 := by rw [Led.len] at hf; omega
  have hgood : ∀ t ∈ L.ts, (PT.lostAll t.2).Good := fun t ht => by
    have h1 := (hL.t1 t ht).2.2
    exact ⟨by show (0 : Nat) < 5; omega, by show (0 : Nat) < 5; omega, by show (0 : Nat) ≤ 9; omega, h1.donor, by show 1 ≤ 3 ∧ 3 ≤ 3; omega, h1.thaws, h1.began, by show (0 : Nat) ≤ 1000000; omega, h1.used, h1.left⟩
  have hzs : ∀ z ∈ (L.ts.filter fun t => decide ((t.2.donor : Int) = m.d)).map Prod.fst, z < 1000 := fun z hz => by
    obtain ⟨t, ht, rfl⟩ := List.mem_map.1 hz
    have := (hL.t1 t (List.mem_filter.1 ht).1).2.1; omega
  have hzl : ((L.ts.filter fun t => decide ((t.2.donor : Int) = m.d)).map Prod.fst).length < 9000 := by
    rw [List.length_map]; have := List.length_filter_le (fun t : TN => decide ((t.2.donor : Int) = m.d)) L.ts; omega
  have hbA : Below w.heap.size w (w.alloc (.cells #[.pointer (some ⟨b, 0, none⟩)] 167)) := (Below.refl _ w).alloc (Nat.le_refl _) _
  have hsA : (w.alloc (.cells #[.pointer (some ⟨b, 0, none⟩)] 167)).heap.size = w.heap.size + 1 := by simp
  have hC0 := Cm.has_new (w.alloc (.cells #[.pointer (some ⟨b, 0, none⟩)] 167)) 31 m
  have hb0 := hbA.alloc (by omega) (.cells #[.int .i64 m.k, .int .i64 m.t, .int .i64 m.o, .int .i64 m.d, .int .i64 m.v, .int .i64 m.b, .int .i64 m.x, .int .i64 m.y, .int .i64 m.n] 31)
  have hs0 : ((w.alloc (.cells #[.pointer (some ⟨b, 0, none⟩)] 167)).alloc (.cells #[.int .i64 m.k, .int .i64 m.t, .int .i64 m.o, .int .i64 m.d, .int .i64 m.v, .int .i64 m.b, .int .i64 m.x, .int .i64 m.y, .int .i64 m.n] 31)).heap.size = w.heap.size + 1 + 1 := by simp
  have hBx := boxed_below (Boxed.new w 167 (.pointer (some ⟨b, 0, none⟩))) ((Below.refl _ _).alloc (Nat.le_refl _) (.cells #[.int .i64 m.k, .int .i64 m.t, .int .i64 m.o, .int .i64 m.d, .int .i64 m.v, .int .i64 m.b, .int .i64 m.x, .int .i64 m.y, .int .i64 m.n] 31))
  rw [hsA] at hC0
  have hG0 := group_new ((w.alloc (.cells #[.pointer (some ⟨b, 0, none⟩)] 167)).alloc (.cells #[.int .i64 m.k, .int .i64 m.t, .int .i64 m.o, .int .i64 m.d, .int .i64 m.v, .int .i64 m.b, .int .i64 m.x, .int .i64 m.y, .int .i64 m.n] 31))
  rw [hs0] at hG0
  have hbG : Below (w.heap.size + 1 + 1) ((w.alloc (.cells #[.pointer (some ⟨b, 0, none⟩)] 167)).alloc (.cells #[.int .i64 m.k, .int .i64 m.t, .int .i64 m.o, .int .i64 m.d, .int .i64 m.v, .int .i64 m.b, .int .i64 m.x, .int .i64 m.y, .int .i64 m.n] 31)) _ := (Below.refl _ _).alloc (by omega) (.cells Tryz.zeroCells196 196)
  have hBw := hb0.trans (hbG.mono (by omega))
  have hC1 := hC0.below hbG (by omega)
  have hBx1 := boxed_below hBx (hbG.mono (by omega))
  have hsz1 : (((w.alloc (.cells #[.pointer (some ⟨b, 0, none⟩)] 167)).alloc (.cells #[.int .i64 m.k, .int .i64 m.t, .int .i64 m.o, .int .i64 m.d, .int .i64 m.v, .int .i64 m.b, .int .i64 m.x, .int .i64 m.y, .int .i64 m.n] 31)).alloc (.cells Tryz.zeroCells196 196)).heap.size = w.heap.size + 3 := by simp
  have HT := hid hT
  clear hb0 hC0 hBx hbA hsA hT hs0 hbG
  unfold Cm.val
  refine calls_marks Tryz.func108 rfl ?_
  simp only [Tryz.ntmps108, List.size_toArray, List.length_cons, List.length_nil, Nat.reduceAdd, Nat.reduceSub, Array.replicate_succ, Array.replicate_zero, List.push_toArray, List.append_toArray, List.nil_append, List.cons_append]
  go_upto_region 2 with fail
  generalize ((w.alloc (.cells #[.pointer (some ⟨b, 0, none⟩)] 167)).alloc (.cells #[.int .i64 m.k, .int .i64 m.t, .int .i64 m.o, .int .i64 m.d, .int .i64 m.v, .int .i64 m.b, .int .i64 m.x, .int .i64 m.y, .int .i64 m.n] 31)).alloc (.cells Tryz.zeroCells196 196) = w1 at *
  have c3 := hC1.1 3 (by omega)
  have x0 := hBx1.cell
  simp only [Cm.ints] at c3
  have HOf := hid (ofD_any n₀ b m.d L.kvs L.ts HT.out.toks (Led.sel_ts hL) (by omega) w1 (HT.out.below hBw).tx)
  rw [ofN_nats] at HOf
  go_wp2_with fail
  refine HOf.out.mono ?_
  clear HOf c3 x0
  rintro e w2 ⟨v, rfl, hrow, hb2⟩
  obtain ⟨zs, hzz⟩ : ∃ zs, zs = (L.ts.filter fun t => decide ((t.2.donor : Int) = m.d)).map Prod.fst := ⟨_, rfl⟩
  rw [← hzz] at hrow hzs hzl
  have hB2 : Below w.heap.size w w2 := hBw.trans (hb2.mono (by omega))
  have hC2 := hC1.below hb2 (by omega)
  have hBx2 := boxed_below hBx1 hb2
  have hs2 := hb2.size
  have HAd := hid (add_any (w.heap.size + 1 + 1) (fun _ => false) v zs hzs hzl w2 (hG0.below hb2) (own_intsIn hrow rfl) (fun k hk => by have := (hrow.lt k hk).1; omega))
  have HZ := hid hzz
  clear hzz hrow hb2 hBw hC1 hBx1 hzs hzl
  go_wp2_with fail
  refine HAd.out.mono ?_
  clear HAd
  rintro e w3 ⟨rfl, hG3, hk3⟩
  have hB3 : Below w.heap.size w w3 := hB2.trans (hk3.toBelow (fun k h => by omega) hB2.size)
  have hC3 := has_keeps hC2 hk3 (by omega) (by omega)
  have hBx3 := keeps_same hk3 (by omega) hBx2
  have hs3 := hk3.size
  have x0 := (show Boxed w3 w.heap.size 167 (.pointer (some ⟨b, 0, none⟩)) from hBx3).cell
  have HAb := hid (addBelow_any n₀ b (w.heap.size + 1 + 1) (orL (fun _ => false) zs) L.kvs L.ps HT.out.poks (Led.sel_ps hL) w3 (HT.out.below hB3).tx hG3 (by omega))
  clear hk3 hC2 hBx2 hB2 hG3
  go_wp2_with fail
  refine HAb.out.mono ?_
  clear HAb x0
  rintro e w4 ⟨rfl, hG4, hk4⟩
  have hgone : downS (orL (fun _ => false) zs) L.ps = L.goneS m.d := by rw [HZ.out]; rfl
  rw [hgone] at hG4
  have hB4 : Below w.heap.size w w4 := hB3.trans (hk4.toBelow (fun k h => by omega) hB3.size)
  have hC4 := has_keeps hC3 hk4 (by omega) (by omega)
  have hBx4 : Boxed w4 w.heap.size 167 (.pointer (some ⟨b, 0, none⟩)) := keeps_same hk4 (by omega) hBx3
  have hs4 := hk4.size
  have hbC : Below w4.heap.size w4 (w4.alloc (.cells #[.int .i64 0] 3)) := (Below.refl _ _).alloc (Nat.le_refl _) _
  have hsC : (w4.alloc (.cells #[.int .i64 0] 3)).heap.size = w4.heap.size + 1 := by simp
  have hCo := Boxed.new w4 3 (.int .i64 0)
  have hBx5 := boxed_below hBx4 hbC
  have hB5 := hB4.trans (hbC.mono (by omega))
  have x0 := hBx5.cell
  have HTu := hid (tubes_any n₀ b L.kvs L.ts HT.out.toks (Led.sel_ts hL) _ (HT.out.below hB5).tx)
  have HB5 := hid hB5
  have HBx5 := hid hBx5
  have HCo := hid hCo
  have HsC := hid hsC
  have HG5 := hid (hG4.below hbC)
  clear hk4 hB3 hC3 hBx3 hB4 hBx4 hC4 hG4 hbC hsC hCo hBx5 hB5 hgone HZ
  go_wp2_with (go_at_call 141; refine HTu.out.mono ?_; clear HTu; rintro e w6 ⟨bx, rfl, hGv, hb6⟩)
  have hB5 := HB5.out
  have hBx5 := HBx5.out
  have hCo5 := HCo.out
  have hs5 := HsC.out
  have hG5 := HG5.out
  clear x0 HB5 HBx5 HCo HsC HG5
  generalize w4.alloc (.cells #[.int .i64 0] 3) = w5 at *
  have hs6 := hb6.size
  have hB6 : Below w.heap.size w w6 := hB5.trans (hb6.mono (by omega))
  have hBx6 := boxed_below hBx5 hb6
  have hCo6 := boxed_below hCo5 hb6
  have hG6 := hG5.below hb6
  have hT6 := HT.out.below hB6
  have hk6 : Keeps (fun k => k = b) w w6 := below_toKeeps hB6 _
  refine (wpIn_wide (n := 0)).1 ?_
  refine rangeM_law (gf := 167) (lb := #[.pointer (some ⟨bx, 0, none⟩)]) rfl (enters_of Tryz.func167 (by kernel_rfl) rfl) (hGv (fun _ => False) w6 (fun k => k = b ∨ k = w4.heap.size) (Keeps.refl _ _) (fun _ h => h.elim) (fun k h => by omega)) (Below.refl _ _) (fun k h => by omega) (fun _ => rfl)
    (fun M pre V => pre <+: L.ts ∧ Boxed V w.heap.size 167 (.pointer (some ⟨b, 0, none⟩)) ∧ GroupAt V (w.heap.size + 1 + 1) (L.goneS m.d) ∧ Boxed V w4.heap.size 3 (.int .i64 (pre.filter (hitB (L.goneS m.d))).length) ∧ (∃ n₁, TxL n₁ V b (L.chg PT.lostAll (pre.filter (hitB (L.goneS m.d))))) ∧ Keeps (fun k => k = b) w V)
    (fun _ _ _ _ => False)
    (fun _ s A B row hs hg hr => by
      obtain ⟨h0, h1, h2, h3, ⟨n₁, h4⟩, h5⟩ := hs
      exact ⟨h0, own_boxed h1 hg hr, own_blk h2 hg hr, own_boxed h3 hg hr, ⟨n₁, own_txl h4 hg hr⟩, own_keeps h5 hk6.size hg hr⟩)
    (fun _ c s A B row hs hg hr => hs.elim)
    (fun _ _ => ⟨List.nil_prefix, hBx6, hG6, hCo6, ⟨n₀, hT6⟩, hk6⟩)
    (fun x a' V => ∃ r, RecBox V r x.2.cells ∧ a' = { tmps := #[.pointer (some ⟨b, 0, none⟩), .agg #[.int .i64 m.k, .int .i64 m.t, .int .i64 m.o, .int .i64 m.d, .int .i64 m.v, .int .i64 m.b, .int .i64 m.x, .int .i64 m.y, .int .i64 m.n], .pointer (some ⟨w.heap.size, 0, none⟩), .pointer (some ⟨w.heap.size + 1, 0, none⟩), .int .i64 0, .pointer (some ⟨w.heap.size + 1 + 1, 0, none⟩), .pointer (some ⟨w4.heap.size, 0, none⟩), .int .i64 x.1, .pointer (some ⟨r, 0, none⟩), .pointer (some ⟨b, 0, none⟩), .pointer (some ⟨w.heap.size + 1, 3, none⟩), .int .i64 m.d, v, .tuple #[], .pointer (some ⟨b, 0, none⟩), .tuple #[], .pointer (some ⟨b, 0, none⟩), .func (.func 167) #[] #[.pointer (some ⟨bx, 0, none⟩)], .int .i64 x.1, x.2.val, undef, undef, undef, undef, undef, undef, undef, undef, undef, undef, undef, undef, undef, undef], defers := [] })
    (fun x a' _ A B row hs hg hr => by
      obtain ⟨r, h2, h3⟩ := hs
      exact ⟨r, own_recBox h2 hg hr, h3⟩) ?assign ?body ?done ?stop
  case assign =>
    intro y M pre x V K hM1 hM2 _ hi hK
    simp only [encT, PT.val, PT.cells, pl]
    gi_wp2
    have hbV : Below V.heap.size V (V.alloc (.cells #[.complex .f64 (fl x.2.x) (fl x.2.y), .int .i64 x.2.box, .int .i64 x.2.donor, .int .i64 x.2.status, .int .i64 x.2.thaws, .int .i64 x.2.began, .int .i64 x.2.left, .int .i64 x.2.used, .int .i64 x.2.lost] 182)) := (Below.refl _ _).alloc (Nat.le_refl _) _
    obtain ⟨i0, i1, i2, i3, ⟨n₁, i4⟩, i5⟩ := hi
    exact hK _ _ ((Keeps.refl _ V).below hbV (Nat.le_refl _)) ⟨i0, boxed_below i1 hbV, i2.below hbV, boxed_below i3 hbV, ⟨n₁, i4.below hbV⟩, i5.below hbV i5.size⟩ ⟨V.heap.size, World.alloc_heap_new V _, rfl⟩
  case body =>
    rintro y M pre x a' V hy1 hy2 hM1 hM2 hp ⟨hpre, hbox, hgr, hcnt, ⟨n₁, htx⟩, hk⟩ ⟨r, hr, rfl⟩
    have hxm : x ∈ L.ts := hp.subset (by simp)
    have hxt := hL.t1 x hxm
    have hc2 := hbox.cell
    have hc3 := hgr.cell (show x.1 < 1000 by omega)
    have hc4 := hcnt.cell
    have hf4 := hcnt.frozen
    have d3 := hr.cells.c3
    have hx1 : (x.1 : Int) < 1000 := by omega
    have hfl : (pre.filter (hitB (L.goneS m.d))).length ≤ pre.length := List.length_filter_le _ _
    have hplen : pre.length ≤ L.ts.length := hpre.length_le
    have hst3 : (x.2.status : Int) < 4 := by have := hxt.2.2.status; omega
    have HF := hid (show (pre ++ [x]).filter (hitB (L.goneS m.d)) = pre.filter (hitB (L.goneS m.d)) ++ if hitB (L.goneS m.d) x then [x] else [] by
      rw [List.filter_append, List.filter_cons, List.filter_nil])
    have HR := hid hr
    clear hr
    cases hb : L.goneS m.d x.1 with
    | false =>
      have HN := hid (show hitB (L.goneS m.d) x = false by simp [hitB, hb])
      rw [hb] at hc3
      gi_wp2
      repeat (refine And.intro (fun (f : FuncId) (e : none = some f) => nomatch e) ?_; gi_wp2)
      refine ⟨Keeps.refl _ _, hp, hbox, hgr, ?_, ⟨n₁, ?_⟩, hk⟩
      · rw [HF.out, HN.out]; simpa using hcnt
      · rw [HF.out, HN.out]; simpa using htx
    | true =>
      rw [hb] at hc3
      by_cases hs : x.2.status = 3
      · have HN := hid (show hitB (L.goneS m.d) x = false by simp [hitB, hb, hs])
        have hsI : ((x.2.status : Int) != 3) = false := by simp [hs]
        gi_wp2
        refine ⟨Keeps.refl _ _, hp, hbox, hgr, ?_, ⟨n₁, ?_⟩, hk⟩
        · rw [HF.out, HN.out]; simpa using hcnt
        · rw [HF.out, HN.out]; simpa using htx
      · have HN := hid (show hitB (L.goneS m.d) x = true by simp [hitB, hb, hs])
        have hsI : ((x.2.status : Int) != 3) = true := by simp; omega
        have hSel := Sel.filter hL (hitB (L.goneS m.d))
        have hpf : pre.filter (hitB (L.goneS m.d)) ++ [x] <+: L.ts.filter (hitB (L.goneS m.d)) := by
          have := hp.filter (hitB (L.goneS m.d))
          rw [HF.out, HN.out] at this; exact this
        have HCh := hid (change_led n₁ b x.1 142 #[] x.2 (PT.lostAll x.2) (hgood x hxm) _ V htx ⟨hxt.1, hxt.2.1⟩ (by have := Led.chg_len PT.lostAll (pre.filter (hitB (L.goneS m.d))) L; omega) (hSel.next hL hpf _) (enters_of Tryz.func142 (by kernel_rfl) rfl) destroy_turns)
        gi_wp2
        refine ⟨trivial, rfl, (CallsIn.inRound _ (callsIn_wide.2 HCh.out)).mono ?_⟩
        rintro e w7 ⟨rfl, hT7, hk7⟩
        have hcnt7 : Boxed w7 w4.heap.size 3 (.int .i64 (pre.filter (hitB (L.goneS m.d))).length) := keeps_same hk7 (by omega) hcnt
        have hc7 := hcnt7.cell
        have hf7 := hcnt7.frozen
        have hbox7 : Boxed w7 w.heap.size 167 (.pointer (some ⟨b, 0, none⟩)) := keeps_same hk7 (by omega) hbox
        gi_wp2
        have hk8 : Keeps (fun k => k = b ∨ k = w4.heap.size) V (w7.setCell ⟨w4.heap.size, 0, none⟩ (.int .i64 (((pre.filter (hitB (L.goneS m.d))).length : Int) + 1))) := (hk7.mono (fun k _ h => .inl h)).setCell (p := ⟨w4.heap.size, 0, none⟩) (.inl (.inr rfl)) _
        have hcb : Below w7.heap.size w7 w7 := Below.refl _ _
        refine ⟨hk8.mono (fun k _ h => .inl h), hp, keeps_same hk8 (by omega) hbox, keeps_same hk8 (by omega) hgr, ?_, ⟨w7.heap.size, ?_⟩, (hk.trans hk7).setCell (p := ⟨w4.heap.size, 0, none⟩) (.inr (by show w.heap.size ≤ w4.heap.size; omega)) _⟩
        · rw [HF.out, HN.out]
          have := hcnt7.set (.int .i64 (((pre.filter (hitB (L.goneS m.d))).length : Int) + 1))
          simpa using this
        · rw [HF.out, HN.out, if_pos rfl, Led.chg_append]
          obtain ⟨⟨⟨rt, h1, h2⟩, h3⟩, h4, h5⟩ := hT7
          have hkc : Keeps (fun k => k = w4.heap.size) w7 (w7.setCell ⟨w4.heap.size, 0, none⟩ (.int .i64 (((pre.filter (hitB (L.goneS m.d))).length : Int) + 1))) := (Keeps.refl (fun k => k = w4.heap.size) w7).setCell (p := ⟨w4.heap.size, 0, none⟩) (.inl rfl) _
          refine ⟨⟨⟨rt, keeps_same hkc (by omega) h1, h2.keptX (X := fun g => g = w4.heap.size) hkc.size (fun g o u hg hc => ?_) (fun g hg => ?_)⟩, h3⟩, h4, h5⟩
          · rw [World.cell?_of_block (w := w7) (Below.heap_setCell w7 ⟨w4.heap.size, 0, none⟩ _ g hg)]; exact hc
          · subst hg
            refine ⟨fun s l c e => ?_, fun o k e => ?_⟩
            · rw [hc7] at e; cases e
            · simp only [World.cell?, show w7.heap[w4.heap.size]? = _ from hcnt7] at e
              match o, e with
              | 0, e => simp at e
              | o + 1, e => simp at e
  case done =>
    rintro M V hM ⟨hpre, hbox, hgr, hcnt, ⟨n₁, htx⟩, hk⟩ hD
    have hc3 := hcnt.cell
    go_wp2_with fail
    refine wd_end (R := fun w' => (∃ n₁, TxL n₁ w' b (L.chg PT.lostAll (L.hits m.d))) ∧ Keeps (fun k => k = b) w w') rfl hD ⟨⟨n₁, ?_⟩, ?_⟩
    · exact own_txl (B := 0) htx (grownBy_putObj' V _ _) (fun r e => by cases e; exact ⟨Nat.zero_le _, _, hD, rfl⟩)
    · exact own_keeps hk hk6.size (grownBy_putObj' V _ _) (fun r e => by cases e; exact ⟨Nat.le_refl _, _, hD, rfl⟩)
  case stop =>
    rintro M c pre V hM hp h hD
    exact h.elim

end Go.Proofs.YtbpnllhhmookcaaGreatDoor

/- A region within a round: what a condition on the world lets be taken first (the kit's held walk, within a round). -/
namespace Go.Proofs.YtbpnllhhmookcaaGreatDoor
open Go Go.RowKit

section
variable {P : Program} {ops : Array Oper} {md : Region.Mode} {S : World → Prop} {y : Nat} {Q : Exit → Act → World → Prop}

theorem wpIn_of_plain {o : Oper} {a : Act} {w : World} {K : Act → World → Prop} (hd : ∀ c, o.op ≠ .defer c) (h : o.wp P a w K Q) : o.wpIn (Fence.wide.inRound y) 0 P a w K Q := by
  unfold Oper.wp at h
  refine ⟨fun _ _ => trivial, ?_⟩
  rw [show (Fence.wide.inRound y).round = some y from rfl, Oper.semAt_some y a.eval o hd]
  generalize (execOp a.eval o).run P w = r at *
  cases r with
  | ok n w' =>
    cases n <;> simp only [Oper.upon, Oper.uponIn] at h ⊢
    case value => exact h
    case skip => exact h
    case defer => exact h
    case enter f args => exact ⟨fun h => by simp [Fence.wide, Fence.inRound] at h, CallsIn.inRound y (callsIn_wide.2 h)⟩
    case row row args => exact ⟨fun h => by simp [Fence.wide, Fence.inRound] at h, fun c cs _ => let ⟨v, w', r, s⟩ := h c cs; ⟨v, w', r, stepsIn_wide.2 s⟩⟩
  | halt x w' => cases x <;> simp only [Oper.upon, Oper.uponIn] at h ⊢ <;> exact h

theorem wpOpIn_of_plain {i : Nat} {a : Act} {w : World} {K K' : Act → World → Prop} (hd : noDefer ops = true) (hQ : ¬ LetsOut Q) (hK : ∀ a w, K a w → K' a w) (h : wpOp P ops Q i K a w) : wpOpIn (Fence.wide.inRound y) 0 P ops Q i K' a w := by
  unfold wpOp at h
  unfold wpOpIn
  split
  · rename_i ho; simp only [ho] at h; exact hK _ _ h
  · rename_i o ho
    simp only [ho] at h
    split
    · rename_i hw
      simp only [hw, if_true] at h
      rcases h with h | ⟨_, h⟩
      · exact Oper.wpIn_mono hK (wpIn_of_plain (noDefer_spec hd ho) h)
      · exact absurd h hQ
    · rename_i hw; simp only [hw] at h; exact ⟨fun _ _ => trivial, hK _ _ h⟩

theorem wpAnyIn_of_held (hd : noDefer ops = true) (hQ : ¬ LetsOut Q) : ∀ (fuel : Nat) (listed : Array Bool) (a : Act) (w : World), wpAnyH P md ops Q S fuel listed a w → wpAnyIn (Fence.wide.inRound y) 0 P md ops Q fuel listed a w
  | 0, _, _, _, h => h
  | fuel + 1, _, _, _, h => ⟨h.1, fun i hi => wpOpIn_of_plain hd hQ (fun a' w' h' => wpAnyIn_of_held hd hQ fuel _ a' w' h'.2) (h.2 i hi)⟩

/-- The region, by what may be taken first. -/
theorem wpIn_region_held {id : Nat} {a : Act} {w : World} (n : Nat) (hn : ops.size = n) (hm : P.follows .mixedOrders = true) (hd : noDefer ops = true) (hQ : ¬ LetsOut Q)
    (h : wpAnyH P .any ops Q S n (Array.replicate n false) a { w with drawn := w.drawn + 1 }) : (Code.region id ops true).wpIn (Fence.wide.inRound y) 0 P Q a w :=
  wpIn_region_any hm (by subst hn; exact wpAnyIn_of_held hd hQ _ _ _ _ h)

theorem wpAnyH_tk (i : Nat) (d : Option Tmp) (v : Value) {oi : Oper} {fuel : Nat} {listed : Array Bool} {a : Act} {w : World} (hi : ops[i]? = some oi) (hd : oi.dst = d)
    (hs : Region.noSelect ops = true) (hf : Region.free md ops listed i = true) (hr : (Region.ready md ops listed).contains i = true)
    (hQ : ∀ c a w, Q (.panic c) (a.put d v) w → Q (.panic c) a w) (hy : YieldsIf P ops S oi v a) (hS : S w)
    (h : wpAnyH P md ops Q S fuel (listed.setIfInBounds i true) (a.put d v) w) : wpAnyH P md ops Q S (fuel + 1) listed a w := by
  subst hd; exact wpAnyH_take hi hs hf hr hQ hy hS h

/-- One operation alone may come up. -/
theorem wpAnyH_one (i : Nat) {o : Oper} {fuel : Nat} {listed : Array Bool} {a : Act} {w : World} (hr : Region.ready md ops listed = [i]) (ho : ops[i]? = some o) (hg : o.guard = none)
    (h : ∀ K : Act → World → Prop, (∀ a' w', S w' → wpAnyH P md ops Q S fuel (listed.setIfInBounds i true) a' w' → K a' w') → o.wp P a w K Q) : wpAnyH P md ops Q S (fuel + 1) listed a w := by
  refine wpAnyH_all hr (by simp) fun j hj => ?_
  rw [List.mem_singleton] at hj
  subst hj
  unfold wpOp
  simp only [ho]
  rw [if_pos (by simp [Region.wanted, hg])]
  exact .inl (h _ (fun a' w' h1 h2 => ⟨h1, h2⟩))

/-- One of two operations may come up. -/
theorem wpAnyH_two (i j : Nat) {o o' : Oper} {fuel : Nat} {listed : Array Bool} {a : Act} {w : World} (hr : Region.ready md ops listed = [i, j]) (ho : ops[i]? = some o) (hg : o.guard = none) (ho' : ops[j]? = some o') (hg' : o'.guard = none)
    (h : ∀ K : Act → World → Prop, (∀ a' w', S w' → wpAnyH P md ops Q S fuel (listed.setIfInBounds i true) a' w' → K a' w') → o.wp P a w K Q)
    (h' : ∀ K : Act → World → Prop, (∀ a' w', S w' → wpAnyH P md ops Q S fuel (listed.setIfInBounds j true) a' w' → K a' w') → o'.wp P a w K Q) : wpAnyH P md ops Q S (fuel + 1) listed a w := by
  refine wpAnyH_all hr (by simp) fun k hk => ?_
  rcases List.mem_cons.1 hk with rfl | hk
  · unfold wpOp
    simp only [ho]
    rw [if_pos (by simp [Region.wanted, hg])]
    exact .inl (h _ (fun a' w' h1 h2 => ⟨h1, h2⟩))
  · rw [List.mem_singleton] at hk
    subst hk
    unfold wpOp
    simp only [ho']
    rw [if_pos (by simp [Region.wanted, hg'])]
    exact .inl (h' _ (fun a' w' h1 h2 => ⟨h1, h2⟩))

/-- An append to a row of the call's own, as one operation. -/
theorem wp_append_own (w : World) {o : Oper} {a : Act} {K : Act → World → Prop} (d : Option Tmp) (hd : o.dst = d)
    (s x : Operand) (t : TypeId) (hop : o.op = Op.call { callee := Callee.builtin Builtin.append, args := #[s, x], argTypes := #[t, t] })
    (base : Nat) (e : TypeId) (i : TypeInfo) (z : Value) (size bytes : Nat) (h1 : P.underlying t = some (.slice e)) (h2 : P.info? e = some i) (h3 : i.zero = some z) (h4 : i.size = size) (h5 : i.bytes = bytes) (h6 : z.cells.size = size) (h7 : 0 < size)
    (v : Value) (k : Nat) (xs : List Value) (hs : a.eval s = v) (hown : w.ownsRow base e size v k xs) (ad : Addr) (m c : Nat) (news : List Value) (hx : a.eval x = .slice (some ad) m c) (hn : news.length = m * size)
    (hc : ∀ j u, news[j]? = some u → w.cell? (ad.add j) = some u) (h1c : ∀ u ∈ news, u.oneCell' = true) (b1 : k + m ≤ maxLen) (b2 : (k + m) * bytes ≤ 140737488355328) (b3 : base ≤ w.heap.size)
    (hK : ∀ v' w', w'.ownsRow base e size v' (k + m) (xs ++ news) → w.grownBy w' v.ownBlock → K (a.put d v') w') :
    o.wp P a w K Q := by
  subst hd
  obtain ⟨v', w', hrun, r1, r2, r3⟩ := run_append_own (P := P) w base t o.type e i z size bytes h1 h2 h3 h4 h5 h6 h7 v k xs hown ad m c news hn hc h1c b1 b2 b3
  unfold Oper.wp
  simp [execOp, hop, resolve, invoke, builtin, hs, hx, hrun, Result.andThen]
  exact hK _ _ r1 r2

end
end Go.Proofs.YtbpnllhhmookcaaGreatDoor
