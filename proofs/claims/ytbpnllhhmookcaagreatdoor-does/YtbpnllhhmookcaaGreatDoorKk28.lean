/- content, show. -/
import Derived.Test.YtbpnllhhmookcaaGreatDoorKk25
import Derived.Test.YtbpnllhhmookcaaGreatDoorKk18
import Derived.Test.YtbpnllhhmookcaaGreatDoorKk23
import Derived.Test.YtbpnllhhmookcaaGreatDoorKk27
namespace Go.Proofs.YtbpnllhhmookcaaGreatDoor
open Go.RowKit Go.Shelf

attribute [local go_sem] Oper.semAt_some run_store_cplx

theorem show_any (n₀ b : Nat) (m : Cm) (hm : m.Ok) (L : Led) (w : World) (hT : TxL n₀ w b L) :
    Calls Tryz.prog 111 #[.pointer (some ⟨b, 0, none⟩), m.val] w fun e w' => ∃ v, e = .returned v ∧ IntsIn w' v (showQ (L.tubeD m.t)) ∧ Below w.heap.size w w' := by
  have hb0 : Below w.heap.size w (w.alloc (.cells #[.int .i64 m.k, .int .i64 m.t, .int .i64 m.o, .int .i64 m.d, .int .i64 m.v, .int .i64 m.b, .int .i64 m.x, .int .i64 m.y, .int .i64 m.n] 31)) := (Below.refl _ w).alloc (Nat.le_refl _) _
  have HTu := hid (tube_led n₀ b m.t L _ (hT.below hb0) (by have := hm.t; omega))
  have HN := hid (recNumbers_any (L.tubeD m.t) (Led.tubeD_ok hT.ok m.t))
  have HB := hid hb0
  generalize L.tubeD m.t = q at *
  simp only [PT.val, PT.cells, pl] at HTu HN
  unfold Cm.val
  clear hT hb0
  go_enter Tryz.func111, Tryz.ntmps111
  go_wp2_with (first
    | (go_at_call 120; refine HTu.out.mono ?_; clear HTu; rintro e w1 ⟨rfl, hb1⟩)
    | (go_at_call 148; refine (HN.out _).mono ?_; clear HN; rintro e w2 ⟨v, rfl, hrow, hb2⟩))
  go_ret
  have hB1 : Below w.heap.size w w1 := HB.out.trans (hb1.mono HB.out.size)
  have hbA : Below w1.heap.size w1 (w1.alloc (.cells #[.complex .f64 (fl q.x) (fl q.y), .int .i64 q.box, .int .i64 q.donor, .int .i64 q.status, .int .i64 q.thaws, .int .i64 q.began, .int .i64 q.left, .int .i64 q.used, .int .i64 q.lost] 182)) := (Below.refl _ w1).alloc (Nat.le_refl _) _
  have hB2 := hB1.trans (hbA.mono hB1.size)
  exact ⟨v, rfl, own_intsIn hrow rfl, hB2.trans (hb2.mono hB2.size)⟩

theorem cont_end {V : World} {D : Nat} {v : Value} {R : Value → World → Prop} {tmps : List Value} (hc : tmps[4]? = some v) (hD : V.heap[D]? = some (.deferred (some []))) (hR : R v (V.putObj D (.deferred none))) :
    bodyPostM Fence.wide 0 Tryz.prog Tryz.f112 (fun e w' => ∃ v, e = .returned v ∧ R v w') .ret
      { tmps := tmps.toArray, defers := [{ target := .collected D, args := #[] }] } V := by
  refine ⟨by simp, .inl ⟨_, _, rfl, run_takeDeferred hD, ?_⟩⟩
  refine ⟨v, ?_, v, rfl, hR⟩
  simp [results, Tryz.results112, go_sem, hc]

theorem contQ_append (a b : List TN) : Led.contQ (a ++ b) = Led.contQ a ++ Led.contQ b := by simp [Led.contQ]
theorem contQ_len (l : List TN) : (Led.contQ l).length = 3 * l.length := by
  induction l with
  | nil => rfl
  | cons t l ih => simp only [Led.contQ, List.flatMap_cons, List.length_append, List.length_cons, List.length_nil] at *; omega
theorem app_cell3c (w : World) (x y z : Int) : ∀ j u, [Value.int .i64 x, .int .i64 y, .int .i64 z][j]? = some u → (w.alloc (.cells #[.int .i64 x, .int .i64 y, .int .i64 z] 3)).cell? ((⟨w.heap.size, 0, none⟩ : Addr).add j) = some u := by
  intro j u hj
  match j, hj with
  | 0, hj => simp at hj; subst hj; simp [Addr.add]
  | 1, hj => simp at hj; subst hj; rw [addr_add]; simp
  | 2, hj => simp at hj; subst hj; rw [addr_add]; simp

set_option maxRecDepth 8000 in
set_option maxHeartbeats 16000000 in
theorem content_any (n₀ b : Nat) (m : Cm) (L : Led) (w : World) (hT : TxL n₀ w b L) :
    Calls Tryz.prog 112 #[.pointer (some ⟨b, 0, none⟩), m.val] w fun e w' => ∃ v, e = .returned v ∧ IntsIn w' v (Led.contQ (L.ts.filter (inBox m.b))) ∧ Below w.heap.size w w' := by
  obtain ⟨i0, hi, hz0, hz1, hz2⟩ := info_parts Tryz.infoInt
  have hmx := Tryz.mixed
  have hn0 : n₀ ≤ w.heap.size := by obtain ⟨⟨⟨r, hB, hI⟩, hf⟩, _, _⟩ := hT; exact hI.2.1
  have hfew := hT.fewT
  have hfl := List.length_filter_le (inBox m.b) L.ts
  have hok := hT.toks
  have hC0 := Cm.has_new w 31 m
  have hbA : Below w.heap.size w (w.alloc (.cells #[.int .i64 m.k, .int .i64 m.t, .int .i64 m.o, .int .i64 m.d, .int .i64 m.v, .int .i64 m.b, .int .i64 m.x, .int .i64 m.y, .int .i64 m.n] 31)) := (Below.refl _ w).alloc (Nat.le_refl _) _
  have hsA : (w.alloc (.cells #[.int .i64 m.k, .int .i64 m.t, .int .i64 m.o, .int .i64 m.d, .int .i64 m.v, .int .i64 m.b, .int .i64 m.x, .int .i64 m.y, .int .i64 m.n] 31)).heap.size = w.heap.size + 1 := by simp
  have hb0 := hbA.alloc (by omega) (.cells #[.slice none 0 0] 36)
  have hRs := Boxed.new (w.alloc (.cells #[.int .i64 m.k, .int .i64 m.t, .int .i64 m.o, .int .i64 m.d, .int .i64 m.v, .int .i64 m.b, .int .i64 m.x, .int .i64 m.y, .int .i64 m.n] 31)) 36 (.slice none 0 0)
  rw [hsA] at hRs
  have hs0 : ((w.alloc (.cells #[.int .i64 m.k, .int .i64 m.t, .int .i64 m.o, .int .i64 m.d, .int .i64 m.v, .int .i64 m.b, .int .i64 m.x, .int .i64 m.y, .int .i64 m.n] 31)).alloc (.cells #[.slice none 0 0] 36)).heap.size = w.heap.size + 1 + 1 := by simp
  have HIn := hid (in_any n₀ b m.b L.kvs L.ts hT.toks (Led.sel_ts hT.ok) _ (hT.below hb0).tx)
  have HB := hid hb0
  have HRs := hid hRs
  have Hs := hid hs0
  clear hT hC0 hbA hsA hb0 hRs hs0
  unfold Cm.val
  refine calls_marks Tryz.func112 rfl ?_
  simp only [Tryz.ntmps112, List.size_toArray, List.length_cons, List.length_nil, Nat.reduceAdd, Nat.reduceSub, Array.replicate_succ, Array.replicate_zero, List.push_toArray, List.append_toArray, List.nil_append, List.cons_append]
  go_wp2_with (go_at_call 143; refine HIn.out.mono ?_; clear HIn; rintro e w2 ⟨lb, rfl, hG, hb2⟩)
  have hb1 := HB.out
  have hbr := HRs.out
  have hs := Hs.out
  clear HB HRs Hs
  generalize (w.alloc (.cells #[.int .i64 m.k, .int .i64 m.t, .int .i64 m.o, .int .i64 m.d, .int .i64 m.v, .int .i64 m.b, .int .i64 m.x, .int .i64 m.y, .int .i64 m.n] 31)).alloc (.cells #[.slice none 0 0] 36) = w1 at *
  have hb12 : Below w.heap.size w w2 := hb1.trans (hb2.mono hb1.size)
  have h2 := hb2.size
  have hbr2 := boxed_below hbr hb2
  refine (wpIn_wide (n := 0)).1 ?_
  refine rangeM_law (gf := 168) (lb := lb) rfl (enters_of Tryz.func168 (by kernel_rfl) rfl) (hG (fun _ => False) w2 (fun k => k = w.heap.size + 1) (Keeps.refl _ _) (fun _ h => h.elim) (fun k h => by omega)) (Below.refl _ _) (fun k h => by omega) (fun _ => rfl)
    (fun M pre V => pre <+: L.ts.filter (inBox m.b) ∧ (∃ v, Boxed V (w.heap.size + 1) 36 v ∧ V.ownsRow M 3 1 v (Led.contQ pre).length (intCells (Led.contQ pre))) ∧ Below w.heap.size w V)
    (fun _ _ _ _ => False)
    (fun _ s A B row hs hg hr => by
      obtain ⟨h0, ⟨v, h2, h3⟩, h4⟩ := hs
      exact ⟨h0, ⟨v, own_boxed h2 hg hr, own_row h3 hg hr⟩, own_below h4 (Nat.le_refl _) hb12.size hg hr⟩)
    (fun _ c s A B row hs hg hr => hs.elim)
    (fun _ _ => ⟨List.nil_prefix, ⟨_, hbr2, World.ownsRow_nil _ _ _ _⟩, hb12⟩)
    (fun x a' V => ∃ r, RecBox V r x.2.cells ∧ a' = { tmps := #[.pointer (some ⟨b, 0, none⟩), .agg #[.int .i64 m.k, .int .i64 m.t, .int .i64 m.o, .int .i64 m.d, .int .i64 m.v, .int .i64 m.b, .int .i64 m.x, .int .i64 m.y, .int .i64 m.n], undef, .pointer (some ⟨w.heap.size, 0, none⟩), .slice none 0 0, .pointer (some ⟨w.heap.size + 1, 0, none⟩), .int .i64 x.1, .pointer (some ⟨r, 0, none⟩), .pointer (some ⟨b, 0, none⟩), .pointer (some ⟨w.heap.size, 5, none⟩), .int .i64 m.b, .func (.func 168) #[] lb, .int .i64 x.1, x.2.val, undef, undef, undef, undef, undef, undef, undef, undef, undef, undef, undef], defers := [] })
    (fun x a' _ A B row hs hg hr => by
      obtain ⟨b, h2, h3⟩ := hs
      exact ⟨b, own_recBox h2 hg hr, h3⟩) ?assign ?body ?done ?stop
  case assign =>
    intro y M pre x V K hM1 hM2 _ hi hK
    simp only [encT, PT.val, PT.cells, pl]
    gi_wp2
    have hbV : Below V.heap.size V (V.alloc (.cells #[.complex .f64 (fl x.2.x) (fl x.2.y), .int .i64 x.2.box, .int .i64 x.2.donor, .int .i64 x.2.status, .int .i64 x.2.thaws, .int .i64 x.2.began, .int .i64 x.2.left, .int .i64 x.2.used, .int .i64 x.2.lost] 182)) := (Below.refl _ _).alloc (Nat.le_refl _) _
    obtain ⟨i1, ⟨v, i2, i3⟩, i5⟩ := hi
    exact hK _ _ ((Keeps.refl _ V).below hbV (Nat.le_refl _)) ⟨i1, ⟨v, boxed_below i2 hbV, i3.alloc _⟩, i5.trans (hbV.mono i5.size)⟩ ⟨V.heap.size, World.alloc_heap_new V _, rfl⟩
  case body =>
    rintro y M pre x a' V hy1 hy2 hM1 hM2 hp ⟨hpre, ⟨v, hres, hrow⟩, hbel⟩ ⟨r, hr, rfl⟩
    have hxm : x ∈ L.ts.filter (inBox m.b) := hp.subset (by simp)
    have hxo := (hok x (List.mem_filter.1 hxm).1).1
    have hx := @x_any x.2.x x.2.y hxo.x
    have hyy := @y_any x.2.x x.2.y hxo.y
    have hc3 := hres.cell
    have d0 := hr.cells.c0
    have hplen := hpre.length_le
    have hcl : (Led.contQ pre).length ≤ 3 * pre.length := by rw [contQ_len]; omega
    have HC := hid (contQ_append pre [x])
    simp only [pl] at hx hyy
    generalize hfa : fl x.2.x = fa at hx hyy d0
    generalize hfb : fl x.2.y = fb at hx hyy d0
    gi_wp2
    have hS0 : V.cell? ⟨r, 0, none⟩ = some (.complex .f64 fa fb) := d0
    have hba : Below V.heap.size V (V.alloc (.cells #[.int .i64 x.1, .int .i64 x.2.x, .int .i64 x.2.y] 3)).drew := ((Below.refl _ _).alloc (Nat.le_refl _) _).drew
    have hS1 : (V.alloc (.cells #[.int .i64 x.1, .int .i64 x.2.x, .int .i64 x.2.y] 3)).drew.cell? ⟨r, 0, none⟩ = some (.complex .f64 fa fb) := (hba.cell (p := ⟨r, 0, none⟩) hr.lt).trans d0
    have hc31 : (V.alloc (.cells #[.int .i64 x.1, .int .i64 x.2.x, .int .i64 x.2.y] 3)).cell? ⟨w.heap.size + 1, 0, none⟩ = some v := (hba.cell (p := ⟨w.heap.size + 1, 0, none⟩) hres.lt).trans hc3
    have HB3 := hid (show ∀ w3, (V.alloc (.cells #[.int .i64 x.1, .int .i64 x.2.x, .int .i64 x.2.y] 3)).drew.grownBy w3 v.ownBlock → Boxed w3 (w.heap.size + 1) 36 v ∧ RecBox w3 r x.2.cells from fun w3 hg =>
      ⟨(hg.block _ (by have := hres.lt; have := hba.size; omega) (fun e => by have := (hrow.lt _ e.symm).1; omega)).trans (boxed_below hres hba),
       (hg.block _ (by have := hr.lt; have := hba.size; omega) (fun e => by
        rcases hrow.2 with ⟨hv, h0⟩ | ⟨g', cap', cur', rfl, h1, hg', _⟩
        · rw [hv] at e; cases e
        · injection e with e; subst e
          have : V.heap[r]? = some (.cells x.2.cells 182 (0, 0)) := hr
          rw [hg'] at this; cases this)).trans (hr.below hba)⟩)
    have hne : r ≠ w.heap.size + 1 := by
      rintro rfl
      have h1 : V.heap[w.heap.size + 1]? = some (.cells x.2.cells 182 (0, 0)) := hr
      have h2 : V.heap[w.heap.size + 1]? = some (.cells #[v] 36 (0, 0)) := hres
      rw [h1] at h2; cases h2
    have HEnd := hid (show ∀ w3 g3 cap3 (n : Nat), w3.ownsRow M 3 1 (.slice (some ⟨g3, 0, none⟩) n cap3) ((Led.contQ pre).length + 3) (intCells (Led.contQ pre) ++ [.int .i64 x.1, .int .i64 x.2.x, .int .i64 x.2.y]) → (V.alloc (.cells #[.int .i64 x.1, .int .i64 x.2.x, .int .i64 x.2.y] 3)).drew.grownBy w3 v.ownBlock → Boxed w3 (w.heap.size + 1) 36 v → RecBox w3 r x.2.cells →
        (w3.setCell ⟨w.heap.size + 1, 0, none⟩ (.slice (some ⟨g3, 0, none⟩) n cap3)).cell? ⟨r, 0, none⟩ = some (.complex .f64 fa fb) ∧ (Keeps (fun k => k = w.heap.size + 1 ∨ M ≤ k) V (w3.setCell ⟨w.heap.size + 1, 0, none⟩ (.slice (some ⟨g3, 0, none⟩) n cap3)) ∧
          (pre ++ [x] <+: L.ts.filter (inBox m.b) ∧ (∃ v, Boxed (w3.setCell ⟨w.heap.size + 1, 0, none⟩ (.slice (some ⟨g3, 0, none⟩) n cap3)) (w.heap.size + 1) 36 v ∧ (w3.setCell ⟨w.heap.size + 1, 0, none⟩ (.slice (some ⟨g3, 0, none⟩) n cap3)).ownsRow M 3 1 v (Led.contQ (pre ++ [x])).length (intCells (Led.contQ (pre ++ [x])))) ∧ Below w.heap.size w (w3.setCell ⟨w.heap.size + 1, 0, none⟩ (.slice (some ⟨g3, 0, none⟩) n cap3)))) from fun w3 g3 cap3 n hown' hgrow' hb3 hr3 => by
      have hk3 : Keeps (fun k => k = w.heap.size + 1 ∨ M ≤ k) V (w3.setCell ⟨w.heap.size + 1, 0, none⟩ (.slice (some ⟨g3, 0, none⟩) n cap3)) := ((below_toKeeps hba _).grown hgrow' (fun k e => .inl (.inr (hrow.lt k e).1))).setCell (p := ⟨w.heap.size + 1, 0, none⟩) (.inl (.inl rfl)) _
      have hc0 := hr3.cells.c0
      rw [hfa, hfb] at hc0
      refine ⟨?_, hk3, hp, ⟨_, hb3.set _, ?_⟩, hbel.trans (hk3.toBelow (fun k h => by omega) hbel.size)⟩
      · rw [World.cell?_setCell_other (w := w3) (h := by intro h; injection h with h1 _ _; exact hne h1.symm)]; exact hc0
      · rw [HC.out]
        refine ownsRow_block (w := w3) ?_ (fun g hg => Below.heap_setCell w3 _ _ g (by have := (hown'.lt g hg).1; show g ≠ w.heap.size + 1; omega))
        rw [List.length_append]
        simpa [intCells, Led.contQ] using hown')
    have Hfa := hid hfa
    have Hfb := hid hfb
    clear hr hfa hfb
    refine wpIn_region_held (S := fun u => u.cell? ⟨r, 0, none⟩ = some (.complex .f64 fa fb)) 11 rfl hmx (by kernel_rfl) ?_ ?_
    · rintro ⟨a, w, h⟩; exact h
    refine wpAnyH_tk 1 (some 15) (.int .i64 x.1) rfl rfl (by kernel_rfl) (by kernel_rfl) (by kernel_rfl) (fun _ _ _ h => h) (.inl ⟨rfl, fun u hu => ?_⟩) hS0 ?_
    · simp [go_sem]
    simp only [Act.put, List.setIfInBounds_toArray, List.set_cons_succ, List.set_cons_zero]
    refine wpAnyH_tk 2 (some 16) (.pointer (some ⟨r, 0, none⟩)) rfl rfl (by kernel_rfl) (by kernel_rfl) (by kernel_rfl) (fun _ _ _ h => h) (.inl ⟨rfl, fun u hu => ?_⟩) hS0 ?_
    · simp [go_sem]
    simp only [Act.put, List.setIfInBounds_toArray, List.set_cons_succ, List.set_cons_zero]
    refine wpAnyH_tk 3 (some 17) (.complex .f64 fa fb) rfl rfl (by kernel_rfl) (by kernel_rfl) (by kernel_rfl) (fun _ _ _ h => h) (.inl ⟨rfl, fun u hu => ?_⟩) hS0 ?_
    · simp [go_sem, hu]
    simp only [Act.put, List.setIfInBounds_toArray, List.set_cons_succ, List.set_cons_zero]
    refine wpAnyH_tk 5 (some 19) (.pointer (some ⟨r, 0, none⟩)) rfl rfl (by kernel_rfl) (by kernel_rfl) (by kernel_rfl) (fun _ _ _ h => h) (.inl ⟨rfl, fun u hu => ?_⟩) hS0 ?_
    · simp [go_sem]
    simp only [Act.put, List.setIfInBounds_toArray, List.set_cons_succ, List.set_cons_zero]
    refine wpAnyH_tk 6 (some 20) (.complex .f64 fa fb) rfl rfl (by kernel_rfl) (by kernel_rfl) (by kernel_rfl) (fun _ _ _ h => h) (.inl ⟨rfl, fun u hu => ?_⟩) hS0 ?_
    · simp [go_sem, hu]
    simp only [Act.put, List.setIfInBounds_toArray, List.set_cons_succ, List.set_cons_zero]
    refine wpAnyH_two 0 4 (by kernel_rfl) rfl rfl rfl rfl (fun K hK => ?_) (fun K hK => ?_)
    · go_simp
      refine hK _ _ hS0 ?_
      clear hK
      refine wpAnyH_one 4 (by kernel_rfl) rfl rfl fun K hK => ?_
      go_simp
      refine (hx _).mono ?_
      rintro e w' ⟨rfl, rfl⟩
      refine hK _ _ hS0 ?_
      clear hK
      refine wpAnyH_one 7 (by kernel_rfl) rfl rfl fun K hK => ?_
      go_simp
      refine (hyy _).mono ?_
      rintro e w' ⟨rfl, rfl⟩
      refine hK _ _ hS0 ?_
      clear hK
      refine wpAnyH_one 8 (by kernel_rfl) rfl rfl fun K hK => ?_
      go_simp
      refine hK _ _ hS1 ?_
      clear hK
      refine wpAnyH_one 9 (by kernel_rfl) rfl rfl fun K hK => ?_
      refine wp_append_own _ (some 23) rfl (.tmp 14) (.tmp 22) 36 rfl M 3 i0 (.int .i64 0) 1 8 Tryz.underlying36 hi hz0 hz1 hz2 rfl (by decide) v (Led.contQ pre).length (intCells (Led.contQ pre)) rfl (ownsRow_block hrow (fun g hg => hba.block g (hrow.lt g hg).2)) ⟨V.heap.size, 0, none⟩ 3 3 [.int .i64 x.1, .int .i64 x.2.x, .int .i64 x.2.y] rfl rfl (app_cell3c V _ _ _) (by intro u hu; simp at hu; rcases hu with rfl | rfl | rfl <;> rfl) (by unfold maxLen; omega) (by omega) (by have := hba.size; omega) ?_
      intro v' w3 hown' hgrow'
      obtain ⟨g3, cap3, rfl⟩ := own_form (n := (Led.contQ pre).length + 2) hown'
      obtain ⟨hb3, hr3⟩ := HB3.out w3 hgrow'
      refine hK _ _ (by have := hr3.cells.c0; rw [Hfa.out, Hfb.out] at this; exact this) ?_
      clear hK
      simp only [Act.put, List.setIfInBounds_toArray, List.set_cons_succ, List.set_cons_zero]
      refine wpAnyH_one 10 (by kernel_rfl) rfl rfl fun K hK => ?_
      have hc3' := hb3.cell
      have hf3' := hb3.frozen
      have HE := hid (HEnd.out _ _ _ _ hown' hgrow' hb3 hr3)
      clear hown' hgrow' hb3 hr3
      go_simp
      refine hK _ _ HE.out.1 ?_
      clear hK
      refine wpAnyH_done (by kernel_rfl) ?_ _
      exact HE.out.2
    · go_simp
      refine (hx _).mono ?_
      rintro e w' ⟨rfl, rfl⟩
      refine hK _ _ hS0 ?_
      clear hK
      refine wpAnyH_two 0 7 (by kernel_rfl) rfl rfl rfl rfl (fun K hK => ?_) (fun K hK => ?_)
      · go_simp
        refine hK _ _ hS0 ?_
        clear hK
        refine wpAnyH_one 7 (by kernel_rfl) rfl rfl fun K hK => ?_
        go_simp
        refine (hyy _).mono ?_
        rintro e w' ⟨rfl, rfl⟩
        refine hK _ _ hS0 ?_
        clear hK
        refine wpAnyH_one 8 (by kernel_rfl) rfl rfl fun K hK => ?_
        go_simp
        refine hK _ _ hS1 ?_
        clear hK
        refine wpAnyH_one 9 (by kernel_rfl) rfl rfl fun K hK => ?_
        refine wp_append_own _ (some 23) rfl (.tmp 14) (.tmp 22) 36 rfl M 3 i0 (.int .i64 0) 1 8 Tryz.underlying36 hi hz0 hz1 hz2 rfl (by decide) v (Led.contQ pre).length (intCells (Led.contQ pre)) rfl (ownsRow_block hrow (fun g hg => hba.block g (hrow.lt g hg).2)) ⟨V.heap.size, 0, none⟩ 3 3 [.int .i64 x.1, .int .i64 x.2.x, .int .i64 x.2.y] rfl rfl (app_cell3c V _ _ _) (by intro u hu; simp at hu; rcases hu with rfl | rfl | rfl <;> rfl) (by unfold maxLen; omega) (by omega) (by have := hba.size; omega) ?_
        intro v' w3 hown' hgrow'
        obtain ⟨g3, cap3, rfl⟩ := own_form (n := (Led.contQ pre).length + 2) hown'
        obtain ⟨hb3, hr3⟩ := HB3.out w3 hgrow'
        refine hK _ _ (by have := hr3.cells.c0; rw [Hfa.out, Hfb.out] at this; exact this) ?_
        clear hK
        simp only [Act.put, List.setIfInBounds_toArray, List.set_cons_succ, List.set_cons_zero]
        refine wpAnyH_one 10 (by kernel_rfl) rfl rfl fun K hK => ?_
        have hc3' := hb3.cell
        have hf3' := hb3.frozen
        have HE := hid (HEnd.out _ _ _ _ hown' hgrow' hb3 hr3)
        clear hown' hgrow' hb3 hr3
        go_simp
        refine hK _ _ HE.out.1 ?_
        clear hK
        refine wpAnyH_done (by kernel_rfl) ?_ _
        exact HE.out.2
      · go_simp
        refine (hyy _).mono ?_
        rintro e w' ⟨rfl, rfl⟩
        refine hK _ _ hS0 ?_
        clear hK
        refine wpAnyH_two 0 8 (by kernel_rfl) rfl rfl rfl rfl (fun K hK => ?_) (fun K hK => ?_)
        · go_simp
          refine hK _ _ hS0 ?_
          clear hK
          refine wpAnyH_one 8 (by kernel_rfl) rfl rfl fun K hK => ?_
          go_simp
          refine hK _ _ hS1 ?_
          clear hK
          refine wpAnyH_one 9 (by kernel_rfl) rfl rfl fun K hK => ?_
          refine wp_append_own _ (some 23) rfl (.tmp 14) (.tmp 22) 36 rfl M 3 i0 (.int .i64 0) 1 8 Tryz.underlying36 hi hz0 hz1 hz2 rfl (by decide) v (Led.contQ pre).length (intCells (Led.contQ pre)) rfl (ownsRow_block hrow (fun g hg => hba.block g (hrow.lt g hg).2)) ⟨V.heap.size, 0, none⟩ 3 3 [.int .i64 x.1, .int .i64 x.2.x, .int .i64 x.2.y] rfl rfl (app_cell3c V _ _ _) (by intro u hu; simp at hu; rcases hu with rfl | rfl | rfl <;> rfl) (by unfold maxLen; omega) (by omega) (by have := hba.size; omega) ?_
          intro v' w3 hown' hgrow'
          obtain ⟨g3, cap3, rfl⟩ := own_form (n := (Led.contQ pre).length + 2) hown'
          obtain ⟨hb3, hr3⟩ := HB3.out w3 hgrow'
          refine hK _ _ (by have := hr3.cells.c0; rw [Hfa.out, Hfb.out] at this; exact this) ?_
          clear hK
          simp only [Act.put, List.setIfInBounds_toArray, List.set_cons_succ, List.set_cons_zero]
          refine wpAnyH_one 10 (by kernel_rfl) rfl rfl fun K hK => ?_
          have hc3' := hb3.cell
          have hf3' := hb3.frozen
          have HE := hid (HEnd.out _ _ _ _ hown' hgrow' hb3 hr3)
          clear hown' hgrow' hb3 hr3
          go_simp
          refine hK _ _ HE.out.1 ?_
          clear hK
          refine wpAnyH_done (by kernel_rfl) ?_ _
          exact HE.out.2
        · go_simp
          refine hK _ _ hS1 ?_
          clear hK
          refine wpAnyH_one 0 (by kernel_rfl) rfl rfl fun K hK => ?_
          go_simp
          refine hK _ _ hS1 ?_
          clear hK
          refine wpAnyH_one 9 (by kernel_rfl) rfl rfl fun K hK => ?_
          refine wp_append_own _ (some 23) rfl (.tmp 14) (.tmp 22) 36 rfl M 3 i0 (.int .i64 0) 1 8 Tryz.underlying36 hi hz0 hz1 hz2 rfl (by decide) v (Led.contQ pre).length (intCells (Led.contQ pre)) rfl (ownsRow_block hrow (fun g hg => hba.block g (hrow.lt g hg).2)) ⟨V.heap.size, 0, none⟩ 3 3 [.int .i64 x.1, .int .i64 x.2.x, .int .i64 x.2.y] rfl rfl (app_cell3c V _ _ _) (by intro u hu; simp at hu; rcases hu with rfl | rfl | rfl <;> rfl) (by unfold maxLen; omega) (by omega) (by have := hba.size; omega) ?_
          intro v' w3 hown' hgrow'
          obtain ⟨g3, cap3, rfl⟩ := own_form (n := (Led.contQ pre).length + 2) hown'
          obtain ⟨hb3, hr3⟩ := HB3.out w3 hgrow'
          refine hK _ _ (by have := hr3.cells.c0; rw [Hfa.out, Hfb.out] at this; exact this) ?_
          clear hK
          simp only [Act.put, List.setIfInBounds_toArray, List.set_cons_succ, List.set_cons_zero]
          refine wpAnyH_one 10 (by kernel_rfl) rfl rfl fun K hK => ?_
          have hc3' := hb3.cell
          have hf3' := hb3.frozen
          have HE := hid (HEnd.out _ _ _ _ hown' hgrow' hb3 hr3)
          clear hown' hgrow' hb3 hr3
          go_simp
          refine hK _ _ HE.out.1 ?_
          clear hK
          refine wpAnyH_done (by kernel_rfl) ?_ _
          exact HE.out.2
  case done =>
    rintro M V hM ⟨hpre, ⟨v, hres, hrow⟩, hbel⟩ hD
    have hc3 := hres.cell
    go_wp2_with fail
    refine cont_end (R := fun v w' => IntsIn w' v (Led.contQ (L.ts.filter (inBox m.b))) ∧ Below w.heap.size w w') rfl hD ⟨?_, ?_⟩
    · exact own_intsIn (own_row (B := 0) hrow (grownBy_putObj' V _ _) (fun r e => by cases e; exact ⟨Nat.zero_le _, _, hD, rfl⟩)) rfl
    · exact hbel.trans ((Below.refl _ V).grown (grownBy_putObj' V _ _) (by have := hbel.size; omega) (fun k e => by cases e; omega))
  case stop =>
    rintro M c pre V hM hp h hD
    exact h.elim

end Go.Proofs.YtbpnllhhmookcaaGreatDoor
