/- flip. -/
import Derived.Test.YtbpnllhhmookcaaGreatDoorKk25
import Derived.Test.YtbpnllhhmookcaaGreatDoorKk18
namespace Go.Proofs.YtbpnllhhmookcaaGreatDoor
open Go.RowKit Go.Shelf

attribute [local go_sem] Oper.semAt_some

set_option maxRecDepth 8000 in
set_option maxHeartbeats 16000000 in
theorem flip_any (n₀ b : Nat) (m : Cm) (hm : m.Ok) (L : Led) (w : World) (hT : TxL n₀ w b L) (hnb : n₀ ≤ b) (hf : L.kvs.length < 3000) (hin : ∀ t ∈ L.ts.filter (inBox m.b), t.2.x < L.sideN m.b ∧ t.2.y < L.sideN m.b) :
    Calls Tryz.prog 110 #[.pointer (some ⟨b, 0, none⟩), m.val] w fun e w' => e = .returned (.tuple #[]) ∧ (∃ n₁, TxL n₁ w' b (L.chg (fun q : PT => q.flippedIn (L.sideN m.b)) (L.ts.filter (inBox m.b)))) ∧ Keeps (fun k => k = b) w w' := by
  have hmf := Run.makeFunc
  have hbl : b < w.heap.size := by obtain ⟨⟨⟨r, hB, hI⟩, hf⟩, _, _⟩ := hT; exact hB.lt
  have hn0 : n₀ ≤ w.heap.size := by obtain ⟨⟨⟨r, hB, hI⟩, hf⟩, _, _⟩ := hT; exact hI.2.1
  have hmb := hm.b
  have hmn := hm.n
  have hL := hT.ok
  have hs5 := Led.sideN_lt hL m.b
  have hSel := Sel.filter hL (inBox m.b)
  have hgood : ∀ t ∈ L.ts.filter (inBox m.b), ((fun q : PT => q.flippedIn (L.sideN m.b)) t.2).Good := fun t ht => by
    have h1 := (hL.t1 t (List.mem_filter.1 ht).1).2.2
    have h2 := hin t ht
    exact ⟨by show L.sideN m.b - 1 - t.2.x < 5; omega, h1.y, h1.box, h1.donor, h1.status, h1.thaws, h1.began, h1.left, h1.used, h1.lost⟩
  have hbA : Below w.heap.size w (w.alloc (.cells #[.pointer (some ⟨b, 0, none⟩)] 167)) := (Below.refl _ w).alloc (Nat.le_refl _) _
  have hsA : (w.alloc (.cells #[.pointer (some ⟨b, 0, none⟩)] 167)).heap.size = w.heap.size + 1 := by simp
  have hC0 := Cm.has_new (w.alloc (.cells #[.pointer (some ⟨b, 0, none⟩)] 167)) 31 m
  have hb0 := hbA.alloc (by omega) (.cells #[.int .i64 m.k, .int .i64 m.t, .int .i64 m.o, .int .i64 m.d, .int .i64 m.v, .int .i64 m.b, .int .i64 m.x, .int .i64 m.y, .int .i64 m.n] 31)
  have hs0 : ((w.alloc (.cells #[.pointer (some ⟨b, 0, none⟩)] 167)).alloc (.cells #[.int .i64 m.k, .int .i64 m.t, .int .i64 m.o, .int .i64 m.d, .int .i64 m.v, .int .i64 m.b, .int .i64 m.x, .int .i64 m.y, .int .i64 m.n] 31)).heap.size = w.heap.size + 2 := by simp
  have hBx := boxed_below (Boxed.new w 167 (.pointer (some ⟨b, 0, none⟩))) ((Below.refl _ _).alloc (Nat.le_refl _) (.cells #[.int .i64 m.k, .int .i64 m.t, .int .i64 m.o, .int .i64 m.d, .int .i64 m.v, .int .i64 m.b, .int .i64 m.x, .int .i64 m.y, .int .i64 m.n] 31))
  rw [hsA] at hC0
  have HSi := hid (side_led n₀ b m.b L _ (hT.below hb0) (by omega))
  have HB := hid hb0
  have HC := hid hC0
  have HBx := hid hBx
  have HT := hid hT
  clear hb0 hC0 hBx hbA hsA hT
  unfold Cm.val
  refine calls_marks Tryz.func110 rfl ?_
  simp only [Tryz.ntmps110, List.size_toArray, List.length_cons, List.length_nil, Nat.reduceAdd, Nat.reduceSub, Array.replicate_succ, Array.replicate_zero, List.push_toArray, List.append_toArray, List.nil_append, List.cons_append]
  go_wp2_with fail
  refine HSi.out.mono ?_
  clear HSi
  rintro e w1 ⟨rfl, hb1⟩
  have hB1 : Below w.heap.size w w1 := HB.out.trans (hb1.mono (by omega))
  have hs1 : w.heap.size + 2 ≤ w1.heap.size := by have := hb1.size; omega
  have hC1 := HC.out.below hb1 (by omega)
  have hBx1 := boxed_below HBx.out hb1
  have hbS : Below w1.heap.size w1 (w1.alloc (.cells #[.int .i64 (L.sideN m.b)] 3)) := (Below.refl _ _).alloc (Nat.le_refl _) _
  have hSB := Boxed.new w1 3 (.int .i64 (L.sideN m.b))
  have hsS : (w1.alloc (.cells #[.int .i64 (L.sideN m.b)] 3)).heap.size = w1.heap.size + 1 := by simp
  have hC2 := hC1.below hbS (by omega)
  have hBx2 := boxed_below hBx1 hbS
  have hB2 := hB1.trans (hbS.mono (by omega))
  have c5 := hC1.1 5 (by omega)
  have c5' := hC2.1 5 (by omega)
  have x0 := hBx1.cell
  have x0' := hBx2.cell
  simp only [Cm.ints] at c5 c5'
  have HIn := hid (in_any n₀ b m.b L.kvs L.ts HT.out.toks (Led.sel_ts hL) _ (HT.out.below hB2).tx)
  have HB2 := hid hB2
  have HC2 := hid hC2
  have HBx2 := hid hBx2
  have HSB := hid hSB
  have HsS := hid hsS
  clear hB2 hC2 hBx2 hSB hbS hC1 hBx1 hb1 hB1 HB HC HBx hsS hs0
  go_wp2_with (go_at_call 143; refine HIn.out.mono ?_; clear HIn; rintro e w3 ⟨lb, rfl, hG, hb3⟩)
  have hB2 := HB2.out
  have hC2 := HC2.out
  have hBx2 := HBx2.out
  have hSB2 := HSB.out
  have hs2 := HsS.out
  clear c5 c5' x0 x0' HB2 HC2 HBx2 HSB HsS
  generalize w1.alloc (.cells #[.int .i64 (L.sideN m.b)] 3) = w2 at *
  have hs3 := hb3.size
  have hB3 : Below w.heap.size w w3 := hB2.trans (hb3.mono (by omega))
  have hC3 := hC2.below hb3 (by omega)
  have hBx3 := boxed_below hBx2 hb3
  have hSB3 := boxed_below hSB2 hb3
  have hT3 := HT.out.below hB3
  have hk3 : Keeps (fun k => k = b) w w3 := below_toKeeps hB3 _
  refine (wpIn_wide (n := 0)).1 ?_
  refine rangeM_law (gf := 168) (lb := lb) rfl (enters_of Tryz.func168 (by kernel_rfl) rfl) (hG (fun _ => False) w3 (fun k => k = b) (Keeps.refl _ _) (fun _ h => h.elim) (fun k h => by omega)) (Below.refl _ _) (fun k h => by omega) (fun _ => rfl)
    (fun M pre V => pre <+: L.ts.filter (inBox m.b) ∧ Boxed V w.heap.size 167 (.pointer (some ⟨b, 0, none⟩)) ∧ Has V (w.heap.size + 1) m.ints ∧ Boxed V w1.heap.size 3 (.int .i64 (L.sideN m.b)) ∧ (∃ n₁, TxL n₁ V b (L.chg (fun q : PT => q.flippedIn (L.sideN m.b)) pre)) ∧ Keeps (fun k => k = b) w V ∧ w.heap.size + 2 < V.heap.size)
    (fun _ _ _ _ => False)
    (fun _ s A B row hs hg hr => by
      obtain ⟨h0, h1, h2, h3, ⟨n₁, h4⟩, h5, h6⟩ := hs
      refine ⟨h0, own_boxed h1 hg hr, ?_, own_boxed h3 hg hr, ⟨n₁, own_txl h4 hg hr⟩, own_keeps h5 hk3.size hg hr, by have := hg.size; omega⟩
      have hb : B.heap[w.heap.size + 1]? = A.heap[w.heap.size + 1]? := hg.block _ (by omega) (fun e => by have := (hr _ e.symm).1; omega)
      exact ⟨fun i hi => (World.cell?_of_block (w := A) (a := ⟨w.heap.size + 1, i, none⟩) hb).trans (h2.1 i hi), fun i => (World.frozen?_of_block (w := A) (a := ⟨w.heap.size + 1, i, none⟩) hb).trans (h2.2 i)⟩)
    (fun _ c s A B row hs hg hr => hs.elim)
    (fun _ _ => ⟨List.nil_prefix, hBx3, hC3, hSB3, ⟨n₀, hT3⟩, hk3, by omega⟩)
    (fun x a' V => ∃ v15, a' = { tmps := #[.pointer (some ⟨b, 0, none⟩), .agg #[.int .i64 m.k, .int .i64 m.t, .int .i64 m.o, .int .i64 m.d, .int .i64 m.v, .int .i64 m.b, .int .i64 m.x, .int .i64 m.y, .int .i64 m.n], .pointer (some ⟨w.heap.size, 0, none⟩), .pointer (some ⟨w.heap.size + 1, 0, none⟩), .pointer (some ⟨w1.heap.size, 0, none⟩), .int .i64 x.1, .pointer (some ⟨b, 0, none⟩), .pointer (some ⟨w.heap.size + 1, 5, none⟩), .int .i64 m.b, .int .i64 (L.sideN m.b), .pointer (some ⟨b, 0, none⟩), .pointer (some ⟨w.heap.size + 1, 5, none⟩), .int .i64 m.b, .func (.func 168) #[] lb, .int .i64 x.1, v15, undef, undef, undef, undef], defers := [] })
    (fun x a' _ A B row hs hg hr => hs) ?assign ?body ?done ?stop
  case assign =>
    intro y M pre x V K hM1 hM2 _ hi hK
    simp only [encT]
    gi_wp2
    exact hK _ _ (Keeps.refl _ _) hi ⟨_, rfl⟩
  case body =>
    rintro y M pre x a' V hy1 hy2 hM1 hM2 hp ⟨hpre, hbox, hcm, hsd, ⟨n₁, htx⟩, hk, hsz⟩ ⟨v15, rfl⟩
    have hxm : x ∈ L.ts.filter (inBox m.b) := hp.subset (by simp)
    have hxt := hL.t1 x (List.mem_filter.1 hxm).1
    have hc2 := hbox.cell
    have hplen : pre.length ≤ L.kvs.length := by
      have h1 := hpre.length_le
      have h2 := List.length_filter_le (inBox m.b) L.ts
      rw [Led.len]; omega
    have HCh := hid (change_led n₁ b x.1 146 #[.pointer (some ⟨w1.heap.size, 0, none⟩)] x.2 ((fun q : PT => q.flippedIn (L.sideN m.b)) x.2) (hgood x hxm) _ V htx ⟨hxt.1, hxt.2.1⟩ (by have := Led.chg_len (fun q : PT => q.flippedIn (L.sideN m.b)) pre L; omega) (hSel.next hL hp _) (enters_of Tryz.func146 (by kernel_rfl) rfl) (flip_turns hsd.cell hsd.lt (hin x hxm).1 (hin x hxm).2 hs5))
    gi_wp2
    refine ⟨trivial, rfl, (CallsIn.inRound _ (callsIn_wide.2 HCh.out)).mono ?_⟩
    rintro e w5 ⟨rfl, hT5, hk5⟩
    gi_wp2
    refine ⟨hk5.mono (fun k _ h => .inl h), hp, keeps_same hk5 (by omega) hbox, has_keeps hcm hk5 (by omega) (by omega), keeps_same hk5 (by omega) hsd, ⟨w5.heap.size, ?_⟩, hk.trans hk5, by have := hk5.size; omega⟩
    rw [Led.chg_append]; exact hT5
  case done =>
    rintro M V hM ⟨hpre, hbox, hcm, hsd, ⟨n₁, htx⟩, hk, hsz⟩ hD
    go_wp2_with fail
    refine none_end (by kernel_rfl) hD ⟨rfl, ⟨n₁, ?_⟩, ?_⟩
    · exact own_txl (B := 0) htx (grownBy_putObj' V _ _) (fun r e => by cases e; exact ⟨Nat.zero_le _, _, hD, rfl⟩)
    · exact own_keeps hk hk3.size (grownBy_putObj' V _ _) (fun r e => by cases e; exact ⟨Nat.le_refl _, _, hD, rfl⟩)
  case stop =>
    rintro M c pre V hM hp h hD
    exact h.elim

end Go.Proofs.YtbpnllhhmookcaaGreatDoor
