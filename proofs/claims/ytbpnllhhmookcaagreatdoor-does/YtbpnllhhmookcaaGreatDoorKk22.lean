/- addAbove: all from which anything was poured into a group. -/
import Derived.Test.YtbpnllhhmookcaaGreatDoorKk21
import Derived.Test.YtbpnllhhmookcaaGreatDoorKk05
import Derived.Test.YtbpnllhhmookcaaGreatDoorKk12
namespace Go.Proofs.YtbpnllhhmookcaaGreatDoor
open Go.RowKit Go.Shelf

attribute [local go_sem] Oper.semAt_some

/-- What is above: one pair more. -/
def upF (S : Nat → Bool) (p : PN) : Nat → Bool := if S p.2.1 then orL S [p.1] else S
def upB (S : Nat → Bool) (l : List (Nat × PN)) : Nat → Bool := (l.map Prod.snd).foldl upF S
def upS (S : Nat → Bool) (ps : List PN) : Nat → Bool := ps.reverse.foldl upF S
theorem upB_step (S : Nat → Bool) (l : List (Nat × PN)) (x : Nat × PN) : upB S (l ++ [x]) = upF (upB S l) x.2 := by simp [upB]
theorem upB_all (S : Nat → Bool) (ps : List PN) : upB S (backs ps) = upS S ps := by simp only [upB, upS, backs_map]

theorem two_end {P : Program} {F : Func} {V : World} {D1 D2 : Nat} {tmps : Array Value} {R : Ending → World → Prop} (hres : F.results = #[]) (hD2 : V.heap[D2]? = some (.deferred (some []))) (hD1 : V.heap[D1]? = some (.deferred (some []))) (hne : D1 ≠ D2) (h : R (.returned (.tuple #[])) ((V.putObj D2 (.deferred none)).putObj D1 (.deferred none))) :
    bodyPostM Fence.wide 0 P F R .normal { tmps := tmps, defers := [{ target := .collected D2, args := #[] }, { target := .collected D1, args := #[] }] } V := by
  refine ⟨by simp, .inl ⟨_, _, rfl, run_takeDeferred hD2, ?_⟩⟩
  refine ⟨by simp, .inl ⟨_, _, rfl, run_takeDeferred ((World.putObj_heap_other hne).trans hD1), ?_⟩⟩
  exact ⟨.tuple #[], by simp [results, hres, go_sem], h⟩

theorem Tryz.infoPair : (Tryz.prog.info? 208).map (fun i => (i.zero, i.size, i.bytes)) = some (some (.agg #[.int .i64 0, .int .i64 0]), 2, 16) := by kernel_rfl
theorem app_pair (w : World) (a b : Int) : ∀ j u, [Value.int .i64 a, Value.int .i64 b][j]? = some u → (w.alloc (.cells #[.int .i64 a, .int .i64 b] 208)).cell? ((⟨w.heap.size, 0, none⟩ : Addr).add j) = some u := by
  intro j u hj
  match j, hj with
  | 0, hj => simp at hj; subst hj; simp [Addr.add]
  | 1, hj => simp at hj; subst hj; rw [addr_add]; simp

set_option maxRecDepth 8000 in
set_option maxHeartbeats 16000000 in
theorem addAbove_any (n₀ b g : Nat) (S : Nat → Bool) (l : List KV) (ps : List PN) (hok : ∀ t ∈ ps, t.1 < 1000 ∧ t.2.1 < 1000) (hl : ps.length < 9000) (hps : sel (pourK 1 1) (pourK 999 999) l = ps.map kvP) (w : World) (hT : TxAt n₀ w b l) (hG : GroupAt w g S) (hg : n₀ ≤ g) :
    Calls Tryz.prog 115 #[.pointer (some ⟨b, 0, none⟩), .pointer (some ⟨g, 0, none⟩)] w fun e w' => e = .returned (.tuple #[]) ∧ GroupAt w' g (upS S ps) ∧ Keeps (fun k => k = g) w w' := by
  obtain ⟨i0, hi, hz0, hz1, hz2⟩ := info_parts Tryz.infoPair
  have hn0 : n₀ ≤ w.heap.size := by obtain ⟨⟨r, hB, hI⟩, hf⟩ := hT; exact hI.2.1
  have hgl := hG.lt
  have hb1 : Below w.heap.size w ((w.alloc (.cells #[.pointer (some ⟨g, 0, none⟩)] 198)).alloc (.cells #[.slice none 0 0] 204)) := ((Below.refl _ w).alloc (Nat.le_refl _) _).alloc (by simp) _
  have HTu := hid (pairs_any n₀ b l ps (fun t ht => by have := hok t ht; omega) hps _ (hT.below hb1))
  have HB := hid ((Boxed.new w 198 (.pointer (some ⟨g, 0, none⟩))).alloc (.cells #[.slice none 0 0] 204))
  have HB2 := hid (Boxed.new (w.alloc (.cells #[.pointer (some ⟨g, 0, none⟩)] 198)) 204 (.slice none 0 0))
  have Hs := hid (show ((w.alloc (.cells #[.pointer (some ⟨g, 0, none⟩)] 198)).alloc (.cells #[.slice none 0 0] 204)).heap.size = w.heap.size + 2 by simp)
  have Hb1 := hid hb1
  have HG := hid hG
  clear hb1 hT hG
  refine calls_marks Tryz.func115 rfl ?_
  simp only [Tryz.ntmps115, List.size_toArray, List.length_cons, List.length_nil, Nat.reduceAdd, Nat.reduceSub, Array.replicate_succ, Array.replicate_zero, List.push_toArray, List.append_toArray, List.nil_append, List.cons_append]
  go_wp2_with (go_at_call 152; refine HTu.out.mono ?_; clear HTu; rintro e w2 ⟨bx, rfl, hGv, hb2⟩)
  have hb1 := Hb1.out
  have hbx := HB.out
  have hbr := HB2.out
  have hs := Hs.out
  have hG := HG.out
  have hsa : (w.alloc (.cells #[.pointer (some ⟨g, 0, none⟩)] 198)).heap.size = w.heap.size + 1 := by simp
  rw [hsa] at hbr
  clear Hb1 HB Hs HG HB2
  generalize (w.alloc (.cells #[.pointer (some ⟨g, 0, none⟩)] 198)).alloc (.cells #[.slice none 0 0] 204) = w1 at *
  have hb12 : Below w.heap.size w w2 := hb1.trans (hb2.mono hb1.size)
  have h2 := hb2.size
  have hbx2 := boxed_below hbx hb2
  have hbr2 := boxed_below hbr hb2
  refine (wpIn_wide (n := 0)).1 ?_
  refine rangeM_law (gf := 170) (lb := #[.pointer (some ⟨bx, 0, none⟩)]) rfl (enters_of Tryz.func170 (by kernel_rfl) rfl) (hGv (fun _ => False) w2 (fun k => k = w.heap.size + 1) (Keeps.refl _ _) (fun _ h => h.elim) (fun k h => by omega)) (Below.refl _ _) (fun k h => by omega) (fun _ => rfl)
    (fun M pre V => Boxed V w.heap.size 198 (.pointer (some ⟨g, 0, none⟩)) ∧ (∃ v, Boxed V (w.heap.size + 1) 204 v ∧ V.ownsRow M 208 2 v pre.length (pairCells pre)) ∧ Below w.heap.size w V)
    (fun _ _ _ _ => False)
    (fun _ s A B row hs hg hr => by
      obtain ⟨h1, ⟨v, h2, h3⟩, h4⟩ := hs
      exact ⟨own_boxed h1 hg hr, ⟨v, own_boxed h2 hg hr, own_row h3 hg hr⟩, own_below h4 (Nat.le_refl _) hb12.size hg hr⟩)
    (fun _ c s A B row hs hg hr => hs.elim)
    (fun _ _ => ⟨hbx2, ⟨_, hbr2, World.ownsRow_nil _ _ _ _⟩, hb12⟩)
    (fun x a' V => a' = { tmps := #[.pointer (some ⟨b, 0, none⟩), .pointer (some ⟨g, 0, none⟩), undef, .pointer (some ⟨w.heap.size, 0, none⟩), .pointer (some ⟨w.heap.size + 1, 0, none⟩), .int .i64 x.1, .int .i64 x.2.1, undef, undef, .pointer (some ⟨b, 0, none⟩), .func (.func 170) #[] #[.pointer (some ⟨bx, 0, none⟩)], .int .i64 x.1, .int .i64 x.2.1, undef, undef, undef, undef, undef, undef, undef, undef, undef, undef, undef, undef, undef, undef, undef, undef, undef, undef, undef, undef, undef], defers := [] })
    (fun x a' _ A B row hs hg hr => hs) ?assign ?body ?done ?stop
  case assign =>
    intro y M pre x V K hM1 hM2 _ hi hK
    simp only [encP]
    gi_wp2
    exact hK _ _ (Keeps.refl _ _) hi rfl
  case body =>
    rintro y M pre x a' V hy1 hy2 hM1 hM2 hp ⟨hdon, ⟨v, hres, hrow⟩, hbel⟩ rfl
    have hc3 := hres.cell
    have hlp : pre.length + 1 ≤ ps.length := by have := hp.length_le; simpa using this
    have hb3 : ∀ w3, (V.alloc (.cells #[.int .i64 x.1, .int .i64 x.2.1] 208)).grownBy w3 v.ownBlock → Boxed w3 (w.heap.size + 1) 204 v := fun w3 hg =>
      (hg.block _ (by have := hres.lt; simp; omega) (fun e => by have := (hrow.lt _ e.symm).1; omega)).trans (boxed_below hres ((Below.refl _ _).alloc (Nat.le_refl _) _))
    have HB3 := hid hb3
    clear hb3
    gi_wp2_with (gi_at_builtin; refine wpListIn_append_own _ rfl _ _ 204 rfl M 208 i0 (.agg #[.int .i64 0, .int .i64 0]) 2 16 Tryz.underlying204 hi hz0 hz1 hz2 rfl (by decide) _ _ _ rfl (hrow.alloc _) ⟨V.heap.size, 0, none⟩ 1 1 [.int .i64 x.1, .int .i64 x.2.1] rfl rfl (app_pair V _ _) (by intro u hu; simp at hu; rcases hu with rfl | rfl <;> rfl) (by unfold maxLen; omega) (by omega) (by simp; omega) ?_; intro v' w3 hown' hgrow' _; obtain ⟨g3, cap3, rfl⟩ := own_form hown'; have hb3 := HB3.out w3 hgrow'; have hc4 := hb3.cell; have hf4 := hb3.frozen)
    have hk3 : Keeps (fun k => k = w.heap.size + 1 ∨ M ≤ k) V (w3.setCell ⟨w.heap.size + 1, 0, none⟩ (.slice (some ⟨g3, 0, none⟩) (pre.length + 1) cap3)) := (((Keeps.refl _ V).alloc _).grown hgrow' (fun k e => .inl (.inr (hrow.lt k e).1))).setCell (p := ⟨w.heap.size + 1, 0, none⟩) (.inl (.inl rfl)) _
    refine ⟨hk3, keeps_same hk3 (by omega) hdon, ⟨_, hb3.set _, ?_⟩, hbel.trans (hk3.toBelow (fun k h => by omega) hbel.size)⟩
    refine ownsRow_block (w := w3) ?_ (fun g hg => Below.heap_setCell w3 _ _ g (by have := (hown'.lt g hg).1; show g ≠ w.heap.size + 1; omega))
    rw [pairCells_append, List.length_append]
    exact hown'
  case done =>
    rintro M V hM ⟨hdon, ⟨v, hres, hrow⟩, hbel⟩ hD
    have hc3 := hres.cell
    have hsV := hbel.size
    have hDl := (Array.getElem?_eq_some_iff.1 hD).1
    obtain ⟨oa, cap, rfl⟩ : ∃ oa cap, v = .slice oa ps.length cap := by
      rcases hrow.2 with ⟨hv, h0⟩ | ⟨g', cap', cur', rfl, _⟩
      · exact ⟨none, 0, by rw [hv, h0]⟩
      · exact ⟨_, _, rfl⟩
    have HBw := hid (backward_any oa ps.length cap V)
    go_wp2_with (go_at_call 153; refine HBw.out.mono ?_; clear HBw; rintro e w4 ⟨rfl, rfl⟩)
    have hb4 : Below V.heap.size V (V.alloc (.cells #[.slice oa ps.length cap] 204)) := (Below.refl _ V).alloc (Nat.le_refl _) _
    have hB4 : Boxed (V.alloc (.cells #[.slice oa ps.length cap] 204)) V.heap.size 204 (.slice oa ps.length cap) := Boxed.new V _ _
    have hs4 : (V.alloc (.cells #[.slice oa ps.length cap] 204)).heap.size = V.heap.size + 1 := by simp
    generalize V.alloc (.cells #[.slice oa ps.length cap] 204) = w4 at *
    have hrow4 : w4.ownsRow M 208 2 (.slice oa ps.length cap) ps.length (pairCells ps) := ownsRow_block hrow (fun g' hg' => hb4.block g' (hrow.lt g' hg').2)
    have hdon4 := boxed_below hdon hb4
    have hD4 := (hb4.block _ hDl).trans hD
    have hBel4 : Below w.heap.size w w4 := hbel.trans (hb4.mono hsV)
    have hG4 := hG.below hBel4
    have hk4 : Keeps (fun k => k = g) w w4 := below_toKeeps hBel4 _
    have hgv := back1_givesM (fun k => k = g) V.heap.size (.slice oa ps.length cap) ps hl w4 (by omega) hB4.cell (row_base hrow4 (Nat.zero_le _)) (by show V.heap.size ≠ g; omega) (fun g' hg' => by have := (hrow4.lt g' hg').1; show g' ≠ g; omega)
    refine (wpIn_wide (n := 0)).1 ?_
    refine rangeM_law (gf := 171) (lb := #[.pointer (some ⟨V.heap.size, 0, none⟩)]) rfl (enters_of Tryz.func171 (by kernel_rfl) rfl) hgv (Below.refl _ _) (fun k h => by omega) (fun _ => rfl)
      (fun M2 pre V2 => Boxed V2 w.heap.size 198 (.pointer (some ⟨g, 0, none⟩)) ∧ GroupAt V2 g (upB S pre) ∧ V2.heap[w2.heap.size]? = some (.deferred (some [])) ∧ Keeps (fun k => k = g) w V2)
      (fun _ _ _ _ => False)
      (fun _ s A B row hs hg hr => by
        obtain ⟨h1, h2, h3, h4⟩ := hs
        exact ⟨own_boxed h1 hg hr, own_blk h2 hg hr, (hg.block _ (Array.getElem?_eq_some_iff.1 h3).1 (fun e => by have := (hr _ e.symm).1; omega)).trans h3, own_keeps h4 hk4.size hg hr⟩)
      (fun _ c s A B row hs hg hr => hs.elim)
      (fun _ _ => ⟨hdon4, hG4, hD4, hk4⟩)
      (fun x a' V2 => ∃ r, V2.heap[r]? = some (.cells #[.int .i64 x.2.1, .int .i64 x.2.2.1] 208 (0, 0)) ∧ a' = { tmps := #[.pointer (some ⟨b, 0, none⟩), .pointer (some ⟨g, 0, none⟩), undef, .pointer (some ⟨w.heap.size, 0, none⟩), .pointer (some ⟨w.heap.size + 1, 0, none⟩), undef, undef, undef, .pointer (some ⟨r, 0, none⟩), .pointer (some ⟨b, 0, none⟩), .func (.func 170) #[] #[.pointer (some ⟨bx, 0, none⟩)], undef, undef, undef, undef, undef, undef, undef, undef, .slice oa ps.length cap, .func (.func 171) #[] #[.pointer (some ⟨V.heap.size, 0, none⟩)], .int .i64 x.1, .agg #[.int .i64 x.2.1, .int .i64 x.2.2.1], undef, undef, undef, undef, undef, undef, undef, undef, undef, undef, undef], defers := [] })
      (fun x a' _ A B row hs hg hr => by
        obtain ⟨r, h2, h3⟩ := hs
        exact ⟨r, own_blk h2 hg hr, h3⟩) ?assign2 ?body2 ?done2 ?stop2
    case assign2 =>
      intro y M pre x V K hM1 hM2 _ hi hK
      simp only [encBk, pairV]
      gi_wp2
      have hbV : Below V.heap.size V (V.alloc (.cells #[.int .i64 x.2.1, .int .i64 x.2.2.1] 208)) := (Below.refl _ _).alloc (Nat.le_refl _) _
      obtain ⟨i1, i2, i3, i4⟩ := hi
      exact hK _ _ ((Keeps.refl _ V).below hbV (Nat.le_refl _)) ⟨boxed_below i1 hbV, i2.below hbV, (hbV.block _ (Array.getElem?_eq_some_iff.1 i3).1).trans i3, i4.below hbV i4.size⟩ ⟨V.heap.size, World.alloc_heap_new V _, rfl⟩
    case body2 =>
      rintro y M pre x a' V hy1 hy2 hM1 hM2 hp ⟨hbox, hgr, hD1, hk⟩ ⟨r, hr, rfl⟩
      have hxm : x.2 ∈ ps := by
        have : x.2 ∈ (backs ps).map Prod.snd := List.mem_map_of_mem (hp.subset (by simp))
        rw [backs_map] at this; simpa using this
      have hx1 := (hok x.2 hxm).1
      have hx2 := (hok x.2 hxm).2
      have hrg : r ≠ g := by
        rintro rfl
        have h1 : V.heap[r]? = some (.cells (boolsN 1000 (upB S pre)) 196 (0, 0)) := hgr
        rw [hr] at h1; cases h1
      have hc2 := hbox.cell
      have hc3 := hgr.cell hx2
      have hr0 : V.cell? ⟨r, 0, none⟩ = some (.int .i64 x.2.1) := by simp only [World.cell?, hr]; rfl
      have hr1 : V.cell? ⟨r, 1, none⟩ = some (.int .i64 x.2.2.1) := by simp only [World.cell?, hr]; rfl
      have hx2' : (x.2.2.1 : Int) < 1000 := by omega
      have HS := hid (upB_step S pre x)
      have HR := hid hr
      clear hr
      cases hb : upB S pre x.2.2.1 with
      | false =>
        rw [hb] at hc3
        gi_wp2
        gi_region
        all_goals gi_wp2
        all_goals exact ⟨(Keeps.refl _ V).drew, hbox, by rw [HS.out, upF, hb]; exact hgr, hD1, hk.drew⟩
      | true =>
        rw [hb] at hc3
        have hba : Below V.heap.size V (V.alloc (.cells #[.int .i64 x.2.1] 3)).drew := ((Below.refl _ _).alloc (Nat.le_refl _) _).drew
        have hgrl := hgr.lt
        have HA := hid (add_any g (upB S pre) (.slice (some ⟨V.heap.size, 0, none⟩) 1 1) [x.2.1] (fun z hz => by simp at hz; omega) (by simp) (V.alloc (.cells #[.int .i64 x.2.1] 3)).drew (hgr.below hba) (one_ints V x.2.1) (fun k hk => by simp [Value.ownBlock] at hk; omega))
        have Hba := hid hba
        clear hba
        gi_wp2
        gi_region
        all_goals gi_wp2
        all_goals
          refine ⟨trivial, rfl, (CallsIn.inRound _ (callsIn_wide.2 HA.out)).mono ?_⟩
          rintro e w3 ⟨rfl, hg3, hk3⟩
          gi_wp2
          have hka : Keeps (fun k => k = g) V w3 := (below_toKeeps Hba.out _).trans hk3
          exact ⟨hka.mono (fun k _ h => .inl h), hka.block _ hbox.lt (by omega) |>.trans hbox, by rw [HS.out, upF, hb]; exact hg3, keeps_same hka (by omega) hD1, hk.trans hka⟩
    case done2 =>
      rintro M2 V2 hM2 ⟨hbox, hgr, hD1, hk⟩ hD2
      go_wp2_with fail
      have hsk := hk.size
      refine two_end (by kernel_rfl) hD2 hD1 (by omega) ⟨rfl, ?_, ?_⟩
      · rw [upB_all] at hgr
        exact own_blk (B := 0) (own_blk (B := 0) hgr (grownBy_putObj' V2 _ _) (fun r e => by cases e; exact ⟨Nat.zero_le _, _, hD2, rfl⟩)) (grownBy_putObj' _ _ _) (fun r e => by cases e; exact ⟨Nat.zero_le _, _, (World.putObj_heap_other (by omega)).trans hD1, rfl⟩)
      · exact own_keeps (own_keeps hk hk4.size (grownBy_putObj' V2 _ _) (fun r e => by cases e; exact ⟨Nat.le_refl _, _, hD2, rfl⟩)) hb12.size (grownBy_putObj' _ _ _) (fun r e => by cases e; exact ⟨Nat.le_refl _, _, (World.putObj_heap_other (by omega)).trans hD1, rfl⟩)
    case stop2 =>
      rintro M c pre V hM hp h hD
      exact h.elim
  case stop =>
    rintro M c pre V hM hp h hD
    exact h.elim

end Go.Proofs.YtbpnllhhmookcaaGreatDoor

/- refusal: ask. -/
namespace Go.Proofs.YtbpnllhhmookcaaGreatDoor
open Go.RowKit Go.Shelf

/-- The least error that holds so far. -/
def askI (r e : Int) (h : Bool) : Int := if h = true ∧ (r = 0 ∨ e < r) then e else r

set_option maxHeartbeats 2000000 in
theorem ask_any (r : Nat) (x e : Int) (h : Bool) (w : World) (hR : Boxed w r 169 (.int .i64 x)) :
    Calls Tryz.prog 121 #[.pointer (some ⟨r, 0, none⟩), .int .i64 e, .bool h] w fun o w' => o = .returned (.tuple #[]) ∧ Boxed w' r 169 (.int .i64 (askI x e h)) ∧ Keeps (fun k => k = r) w w' := by
  have hc := hR.cell
  have hf := hR.frozen
  cases h with
  | false =>
    go_enter Tryz.func121, Tryz.ntmps121
    go_wp2
    go_end0
    exact ⟨rfl, by simpa [askI] using hR, Keeps.refl _ _⟩
  | true =>
    by_cases h0 : x = 0
    · subst h0
      go_enter Tryz.func121, Tryz.ntmps121
      go_wp2
      go_end0
      exact ⟨rfl, by simpa [askI] using hR.set (.int .i64 e), (Keeps.refl (fun k => k = r) w).setCell (p := ⟨r, 0, none⟩) (.inl rfl) _⟩
    · by_cases h1 : e < x
      · go_enter Tryz.func121, Tryz.ntmps121
        go_wp2
        go_end0
        exact ⟨rfl, by simpa [askI, h1] using hR.set (.int .i64 e), (Keeps.refl (fun k => k = r) w).setCell (p := ⟨r, 0, none⟩) (.inl rfl) _⟩
      · have HA := hid (show askI x e true = x by simp [askI, h0, h1])
        go_enter Tryz.func121, Tryz.ntmps121
        go_wp2
        go_end0
        exact ⟨rfl, by rw [HA.out]; exact hR, Keeps.refl _ _⟩

end Go.Proofs.YtbpnllhhmookcaaGreatDoor

/- What is done to a record: store, leave, destroy. -/
namespace Go.Proofs.YtbpnllhhmookcaaGreatDoor
open Go.RowKit Go.Shelf
attribute [local go_sem] run_store_cplx

def PT.stored (q : PT) (box x y : Nat) : PT := { q with status := 1, box := box, x := x, y := y }
def PT.gone (q : PT) (status : Nat) : PT := { q with status := status, box := 0, x := 0, y := 0 }

/-- A record, its place and its numbers laid open. -/
structure RecCells (w : World) (p : Nat) (q : PT) : Prop where
  c0 : w.cell? ⟨p, 0, none⟩ = some (.complex .f64 (fl q.x) (fl q.y))
  c1 : w.cell? ⟨p, 1, none⟩ = some (.int .i64 q.box)
  c2 : w.cell? ⟨p, 2, none⟩ = some (.int .i64 q.donor)
  c3 : w.cell? ⟨p, 3, none⟩ = some (.int .i64 q.status)
  c4 : w.cell? ⟨p, 4, none⟩ = some (.int .i64 q.thaws)
  c5 : w.cell? ⟨p, 5, none⟩ = some (.int .i64 q.began)
  c6 : w.cell? ⟨p, 6, none⟩ = some (.int .i64 q.left)
  c7 : w.cell? ⟨p, 7, none⟩ = some (.int .i64 q.used)
  c8 : w.cell? ⟨p, 8, none⟩ = some (.int .i64 q.lost)
theorem RecBox.cells {w : World} {p : Nat} {q : PT} (h : RecBox w p q.cells) : RecCells w p q :=
  ⟨h.cell 0, h.cell 1, h.cell 2, h.cell 3, h.cell 4, h.cell 5, h.cell 6, h.cell 7, h.cell 8⟩

theorem store_end {w : World} {p : Nat} {q : PT} (box px py : Nat) (hR : RecBox w p q.cells) :
    RecBox (((w.setCell ⟨p, 3, none⟩ (.int .i64 1)).setCell ⟨p, 1, none⟩ (.int .i64 box)).setCell ⟨p, 0, none⟩ (.complex .f64 (fl px) (fl py))) p (q.stored box px py).cells ∧
      Keeps (fun k => k = p) w (((w.setCell ⟨p, 3, none⟩ (.int .i64 1)).setCell ⟨p, 1, none⟩ (.int .i64 box)).setCell ⟨p, 0, none⟩ (.complex .f64 (fl px) (fl py))) := by
  refine ⟨?_, (((Keeps.refl (fun k => k = p) w).setCell (p := ⟨p, 3, none⟩) (.inl rfl) _).setCell (p := ⟨p, 1, none⟩) (.inl rfl) _).setCell (p := ⟨p, 0, none⟩) (.inl rfl) _⟩
  have := ((hR.set 3 (.int .i64 1)).set 1 (.int .i64 box)).set 0 (.complex .f64 (fl px) (fl py))
  simp only [PT.cells, Array.set!_eq_setIfInBounds, List.setIfInBounds_toArray, List.set_cons_zero, List.set_cons_succ] at this
  exact this
theorem gone_end {w : World} {p : Nat} {q : PT} (s : Nat) (hR : RecBox w p q.cells) :
    RecBox (((w.setCell ⟨p, 3, none⟩ (.int .i64 s)).setCell ⟨p, 1, none⟩ (.int .i64 0)).setCell ⟨p, 0, none⟩ (.complex .f64 0 0)) p (q.gone s).cells ∧
      Keeps (fun k => k = p) w (((w.setCell ⟨p, 3, none⟩ (.int .i64 s)).setCell ⟨p, 1, none⟩ (.int .i64 0)).setCell ⟨p, 0, none⟩ (.complex .f64 0 0)) := by
  refine ⟨?_, (((Keeps.refl (fun k => k = p) w).setCell (p := ⟨p, 3, none⟩) (.inl rfl) _).setCell (p := ⟨p, 1, none⟩) (.inl rfl) _).setCell (p := ⟨p, 0, none⟩) (.inl rfl) _⟩
  have := ((hR.set 3 (.int .i64 s)).set 1 (.int .i64 0)).set 0 (.complex .f64 0 0)
  simp only [PT.cells, Array.set!_eq_setIfInBounds, List.setIfInBounds_toArray, List.set_cons_zero, List.set_cons_succ] at this
  exact this

set_option maxHeartbeats 2000000 in
theorem store_any (p : Nat) (q : PT) (box px py : Nat) (w : World) (hR : RecBox w p q.cells) :
    Calls Tryz.prog 129 #[.pointer (some ⟨p, 0, none⟩), .int .i64 box, pl px py] w fun e w' => e = .returned (.tuple #[]) ∧ RecBox w' p (q.stored box px py).cells ∧ Keeps (fun k => k = p) w w' := by
  have hE := hid (store_end box px py hR)
  obtain ⟨c0, c1, c2, c3, c4, c5, c6, c7, c8⟩ := hR.cells
  have f0 := hR.fz 0
  have f1 := hR.fz 1
  have f3 := hR.fz 3
  clear hR
  simp only [pl]
  go_enter Tryz.func129, Tryz.ntmps129
  go_wp2
  go_end0
  exact ⟨rfl, hE.out⟩

set_option maxHeartbeats 2000000 in
theorem leave_any (p : Nat) (q : PT) (s : Nat) (w : World) (hR : RecBox w p q.cells) :
    Calls Tryz.prog 138 #[.pointer (some ⟨p, 0, none⟩), .int .i64 s] w fun e w' => e = .returned (.tuple #[]) ∧ RecBox w' p (q.gone s).cells ∧ Keeps (fun k => k = p) w w' := by
  have hE := hid (gone_end s hR)
  obtain ⟨c0, c1, c2, c3, c4, c5, c6, c7, c8⟩ := hR.cells
  have f0 := hR.fz 0
  have f1 := hR.fz 1
  have f3 := hR.fz 3
  clear hR
  go_enter Tryz.func138, Tryz.ntmps138
  go_wp2
  go_end0
  exact ⟨rfl, hE.out⟩

end Go.Proofs.YtbpnllhhmookcaaGreatDoor
