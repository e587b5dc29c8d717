/- put in a leaf: plain mathematics, and the calls at its end. -/
import Derived.Test.YtbpnllhhmookcaaGreatDoorKk06
namespace Go.Proofs.YtbpnllhhmookcaaGreatDoor
open Go.RowKit

theorem leaf_new {es : List Ent} {ls : List (List KV)} {l : List KV} (hP : Parts es ls l) {k : Int} {i : Nat} (hC : Cut es k i) (h0 : ∀ j (hj : j < es.length) (hl : j < ls.length), ls[j] = [es[j].kv]) (hno : ∀ hi : i < es.length, es[i].key ≠ k) (s : ByteArray) :
    (ls.take i).flatten ++ [(k, s)] ++ (ls.drop i).flatten = insK l k s := by
  have hl := hP.len
  rw [hP.flat, flat_split ls i]
  have := insK_mid (A := (ls.take i).flatten) (M := []) (B := (ls.drop i).flatten) s (k := k) ?_ ?_
  · rw [List.append_nil] at this; rw [this, insK_nil]
  · intro x hx
    obtain ⟨j, hj, hij, hm⟩ := mem_take_flat hx
    rw [h0 j (by omega) hj, List.mem_singleton] at hm
    subst hm
    exact hC.2.1 j (by omega) hij
  · intro x hx
    obtain ⟨j, hj, hij, hm⟩ := mem_drop_flat hx
    have hje : j < es.length := by omega
    rw [h0 j hje hj, List.mem_singleton] at hm
    subst hm
    show k < es[j].key
    have h1 := hC.2.2 j hje hij
    have hi : i < es.length := by omega
    have h2 := hC.2.2 i hi (Nat.le_refl _)
    have h3 := hno hi
    have h4 := rise_le hP.riseE hi hje hij
    omega
theorem leaf_old {es : List Ent} {ls : List (List KV)} {l : List KV} (hP : Parts es ls l) {k : Int} {i : Nat} (hC : Cut es k i) (h0 : ∀ j (hj : j < es.length) (hl : j < ls.length), ls[j] = [es[j].kv]) (hi : i < es.length) (hk : es[i].key = k) (s : ByteArray) :
    (ls.take i).flatten ++ [(k, s)] ++ (ls.drop (i + 1)).flatten = insK l k s := by
  have hl := hP.len
  have hil : i < ls.length := by omega
  rw [hP.flat, flat_split ls (i + 1), flat_take ls i hil, h0 i hi hil]
  have := insK_mid (A := (ls.take i).flatten) (M := [es[i].kv]) (B := (ls.drop (i + 1)).flatten) s (k := k) ?_ ?_
  · rw [this]; have e : es[i].kv = (k, es[i].val) := by rw [← hk]; rfl
    rw [e, insK_one]
  · intro x hx
    obtain ⟨j, hj, hij, hm⟩ := mem_take_flat hx
    rw [h0 j (by omega) hj, List.mem_singleton] at hm
    subst hm
    exact hC.2.1 j (by omega) hij
  · intro x hx
    obtain ⟨j, hj, hij, hm⟩ := mem_drop_flat hx
    have hje : j < es.length := by omega
    rw [h0 j hje hj, List.mem_singleton] at hm
    subst hm
    show k < es[j].key
    have := rise_lt hP.riseE hi hje (by omega)
    omega

theorem cut_of_way0 {es : List Ent} {t : Int} {i : Nat} (h : wayI 0 es t i) : Cut es t i := by
  obtain ⟨_, ⟨c, _⟩ | ⟨h0, _⟩⟩ := h
  · exact c
  · exact absurd rfl h0

/-- Concat of three slices that lie in memory. -/
theorem concat3 (u : World) (v0 v1 v2 : Value) (e0 e1 e2 : List Ent) (h0 : EntsAt u.heap.size u v0 e0) (h1 : EntsAt u.heap.size u v1 e1) (h2 : EntsAt u.heap.size u v2 e2) (hl : e0.length + e1.length + e2.length < 100000) (hp : 0 < e1.length) :
    Calls Tryz.prog 176 #[.slice (some ⟨u.heap.size, 0, none⟩) 3 3] (u.alloc (.cells #[v0, v1, v2] 227)) fun e w' => ∃ v, e = .returned v ∧ EntsAt w'.heap.size w' v (e0 ++ e1 ++ e2) ∧ Below u.heap.size u w' := by
  refine (concat_any u.heap.size [(v0, e0), (v1, e1), (v2, e2)] _ (e0 ++ e1 ++ e2) (many_new u _ v0 v1 v2 e0 e1 e2 h0 h1 h2 hl) (by simp) (by simp; omega)).mono ?_
  rintro e w' ⟨v, rfl, hE, hb⟩
  exact ⟨v, rfl, hE, ((Below.refl u.heap.size u).alloc (Nat.le_refl _) (.cells #[v0, v1, v2] 227)).trans (hb.mono (by simp))⟩

/-- Concat and split, one behind the other: twigs of three lists. -/
theorem ends_of {ht n₁ : Nat} {w u w' : World} {e : Ending} {zs : List Twig} {l : List KV} (hz : ∀ z ∈ zs, GoodTwig n₁ u ht z) (hne : zs ≠ []) (hn : n₁ ≤ u.heap.size) (h : SplitEnds n₁ (zs.map Prod.fst) u e w') (hl : (zs.map Prod.snd).flatten = l) (hb : Below w.heap.size w u) : UpEnds ht l w e w' := by
  obtain ⟨v', zs', a, b, c, d, f, g, i⟩ := split_twigs hz hne hn h
  exact ⟨v', zs', a, b, c, d, f, by rw [g]; exact hl, hb.trans (i.mono hb.size)⟩

theorem leaf_end {n₀ i j : Nat} {k : Int} {s : ByteArray} {zs : List Twig} {es : List Ent} {l : List KV} {w w5 w6 : World} {e : Ending} (hz : ∀ z ∈ zs, GoodTwig n₀ w 0 z) (hes : zs.map Prod.fst = es) (hS : SplitEnds w5.heap.size (es.take i ++ [⟨k, s, none⟩] ++ es.drop j) w5 e w6)
    (hl : ((zs.map Prod.snd).take i).flatten ++ [(k, s)] ++ ((zs.map Prod.snd).drop j).flatten = insK l k s) (hn : n₀ ≤ w.heap.size) (hb : Below w.heap.size w w5) : UpEnds 0 (insK l k s) w e w6 := by
  refine ends_of (zs := zs.take i ++ [(⟨k, s, none⟩, [(k, s)])] ++ zs.drop j) (n₁ := w5.heap.size) ?_ (by simp) (Nat.le_refl _) ?_ ?_ hb
  · intro z hzz
    have old : z ∈ zs → GoodTwig w5.heap.size w5 0 z := fun h => ((hz z h).below (hb.mono hn)).mono (by have := hb.size; omega) (Nat.le_refl _)
    simp only [List.mem_append, List.mem_singleton] at hzz
    rcases hzz with (h | h) | h
    · exact old (List.mem_of_mem_take h)
    · subst h; exact .inl ⟨rfl, rfl, rfl⟩
    · exact old (List.mem_of_mem_drop h)
  · rw [← hes] at hS
    simpa [List.map_take, List.map_drop] using hS
  · rw [← hl]; simp [List.map_take, List.map_drop]
theorem leaf_h0 {n₀ : Nat} {zs : List Twig} {es : List Ent} {w : World} (hz : ∀ z ∈ zs, GoodTwig n₀ w 0 z) (hes : zs.map Prod.fst = es) : ∀ j (hj : j < es.length) (hl : j < (zs.map Prod.snd).length), (zs.map Prod.snd)[j] = [es[j].kv] := by
  subst hes
  intro j hj hl
  have hjz : j < zs.length := by simpa using hl
  rcases hz zs[j] (List.getElem_mem hjz) with ⟨_, _, h⟩ | ⟨h', c, h0, _⟩
  · simpa using h
  · omega

/-- No more twigs than keys. -/
theorem twigs_le {n₀ ht : Nat} {w : World} {zs : List Twig} (hz : ∀ z ∈ zs, GoodTwig n₀ w ht z) : zs.length ≤ ((zs.map Prod.snd).flatten).length := by
  induction zs with
  | nil => simp
  | cons z r ih =>
    have h1 := ih fun y hy => hz y (by simp [hy])
    have hk := (hz z (by simp)).key
    have h2 : 0 < z.2.length := by cases hq : z.2 with | nil => rw [hq] at hk; simp at hk | cons => simp
    simp only [List.map_cons, List.flatten_cons, List.length_append, List.length_cons]
    omega

/-- Concat, as put calls it in a leaf. -/
theorem put_concat (w4 : World) (k : Int) (s : ByteArray) (v0 v2 : Value) (e0 e2 : List Ent) (h0 : EntsAt w4.heap.size w4 v0 e0) (h2 : EntsAt w4.heap.size w4 v2 e2) (hl : e0.length + e2.length < 90000) :
    Calls Tryz.prog 176 #[.slice (some ⟨w4.heap.size + 1, 0, none⟩) 3 3] ((w4.alloc (.cells #[.int .u32 k, .string s, .pointer none] 226)).alloc (.cells #[v0, .slice (some ⟨w4.heap.size, 0, none⟩) 1 1, v2] 227)) fun e w' => ∃ v, e = .returned v ∧ EntsAt w'.heap.size w' v (e0 ++ [⟨k, s, none⟩] ++ e2) ∧ Below w4.heap.size w4 w' := by
  have hb : Below w4.heap.size w4 (w4.alloc (.cells #[.int .u32 k, .string s, .pointer none] 226)) := (Below.refl _ _).alloc (Nat.le_refl _) _
  have h := concat3 (w4.alloc (.cells #[.int .u32 k, .string s, .pointer none] 226)) v0 (.slice (some ⟨w4.heap.size, 0, none⟩) 1 1) v2 e0 [⟨k, s, none⟩] e2 ((h0.below hb).mono (by simp) (Nat.le_refl _)) (new_ents w4 _ [⟨k, s, none⟩] _ rfl (by simp)) ((h2.below hb).mono (by simp) (Nat.le_refl _)) (by simp; omega) (by simp)
  rw [World.size_alloc] at h
  refine h.mono ?_
  rintro e w' ⟨v, a, b, c⟩
  exact ⟨v, a, b, hb.trans (c.mono (by simp))⟩

end Go.Proofs.YtbpnllhhmookcaaGreatDoor

/- put in a leaf. -/
namespace Go.Proofs.YtbpnllhhmookcaaGreatDoor
open Go.RowKit Go.Shelf

set_option maxRecDepth 8000 in
set_option maxHeartbeats 4000000 in
theorem put_leaf (n₀ b : Nat) (l : List KV) (k : Int) (s : ByteArray) (w : World) (hN : NodeAt n₀ w 0 b l) (hn : n₀ ≤ w.heap.size) (hR : RiseK l) (hL : l.length < 10000) :
    Calls Tryz.prog 163 #[.pointer (some ⟨b, 0, none⟩), .agg #[.int .u32 k, .string s, .pointer none]] w (UpEnds 0 (insK l k s) w) := by
  obtain ⟨hb, v, zs, hc, hE, hne, hfl, hP, hz⟩ := hN.twigs hR
  generalize hes : zs.map Prod.fst = es at hE hP
  obtain ⟨i0, hi0⟩ := way_exists 0 hP.riseE k
  have hil : i0 ≤ es.length := hi0.1
  -- the entry in a block of its own
  obtain ⟨w1, hw1⟩ : ∃ w1, w.alloc (.cells #[.int .u32 k, .string s, .pointer none] 226) = w1 := ⟨_, rfl⟩
  have hb1 : Below w.heap.size w w1 := by rw [← hw1]; exact (Below.refl _ _).alloc (Nat.le_refl _) _
  have hx1 : w1.heap[w.heap.size]? = some (.cells #[.int .u32 k, .string s, .pointer none] 226) := by rw [← hw1]; exact World.alloc_heap_new w _
  have hxl := (Array.getElem?_eq_some_iff.1 hx1).1
  have hbn1 : Below n₀ w w1 := hb1.mono hn
  have hwy := way_at n₀ 0 b l v _ k w1 (hN.below hbn1) ((hbn1.cell (p := ⟨b, 0, none⟩) hb).trans hc) (hE.below hbn1) hP.riseE i0 hi0
  have HW1 := hid hw1
  have HB1 := hid hb1
  have HX1 := hid hx1
  have HN := hid hN
  have HI := hid hi0
  have HP := hid hP
  have HZ := hid hz
  have HE := hid hE
  have HF := hid hfl
  have HES := hid hes
  have HLE : Hid (es.length < 10000) := hid (by rw [← hes]; have := twigs_le hz; rw [← hfl] at this; simp; omega)
  have HNE := hid hne
  have hE' := hE
  obtain ⟨g, o, cap, rfl, h1, h2, h3, h4, h5⟩ := hE'
  have H5 := hid h5
  clear hw1 hb1 hx1 hN hi0 hP hz hE hfl h5 hes hL hne
  go_enter Tryz.func163, Tryz.ntmps163
  go_wp2_with (go_at_call 173; rw [HW1.out]; refine hwy.mono ?_; clear hwy; rintro e w2 ⟨rfl, hb2⟩)
  have hB2 : Below w.heap.size w w2 := HB1.out.trans (hb2.mono HB1.out.size)
  have hc2 := ((hB2.mono hn).cell (p := ⟨b, 0, none⟩) hb).trans hc
  have hX2 := (hb2.block _ hxl).trans HX1.out
  have hs2 : w.heap.size < w2.heap.size := by have := hb2.size; omega
  clear hb2 hbn1 hxl hc HW1 HB1 HX1
  by_cases hlt : i0 < es.length
  · have hcc : i0 < cap := by omega
    go_quiet (fail)
    have hB3 : Below w.heap.size w (w2.drewN nq) := below_drewN hB2 nq
    have hX3 : (w2.drewN nq).heap[w.heap.size]? = some (.cells #[.int .u32 k, .string s, .pointer none] 226) := hX2
    have hs3 : w.heap.size < (w2.drewN nq).heap.size := hs2
    clear hB2 hX2 hs2 hc2
    generalize w2.drewN nq = w3 at *
    have hx0 : w3.cell? ⟨w.heap.size, 0, none⟩ = some (.int .u32 k) := by simp only [World.cell?, hX3]; rfl
    have hx1 : w3.cell? ⟨w.heap.size, 1, none⟩ = some (.string s) := by simp only [World.cell?, hX3]; rfl
    have hx2 : w3.cell? ⟨w.heap.size, 2, none⟩ = some (.pointer none) := by simp only [World.cell?, hX3]; rfl
    have hgw : g < w.heap.size := by omega
    have ck := (hB3.cell (p := ⟨g, o + i0 * 3, none⟩) hgw).trans (H5.out i0 hlt).1
    have hpos : 0 < es.length - i0 := by omega
    have hdp : decide (0 < es.length - i0) = true := by simpa using hpos
    by_cases hk : es[i0].key = k
    · have HK := hid (leaf_old HP.out (cut_of_way0 HI.out) (leaf_h0 HZ.out HES.out) hlt hk s)
      have HK1 := hid hk
      rw [hk] at ck
      clear hk
      have hp1 : (1 : Int) ≤ ((es.length - i0 : Nat) : Int) := by omega
      rcases Nat.lt_or_eq_of_le (show 1 ≤ cap - i0 by omega) with hc1 | hc1
      · have hlen1 : 1 ≤ es.length - i0 := by omega
        go_wp2_with (go_at_call 174; refine (isLeaf_any n₀ 0 b l _ (HN.out.below (hB3.mono hn))).mono ?_; rintro e w' ⟨rfl, rfl⟩)
        go_quiet (fail)
        have hB4 : Below w.heap.size w (w'.drewN nq) := below_drewN hB3 nq
        have hx0' : (w'.drewN nq).cell? ⟨w.heap.size, 0, none⟩ = some (.int .u32 k) := hx0
        have hx1' : (w'.drewN nq).cell? ⟨w.heap.size, 1, none⟩ = some (.string s) := hx1
        have hx2' : (w'.drewN nq).cell? ⟨w.heap.size, 2, none⟩ = some (.pointer none) := hx2
        clear hB3 hx0 hx1 hx2 hX3 hs3 ck
        generalize w'.drewN nq = w4 at *
        have eB := ((ents_drop HE.out (i0 + 1) (by omega)).below (hB4.mono hn)).mono (n₁ := w4.heap.size) (by have := hB4.size; omega) (Nat.le_refl _)
        rw [show o + (i0 + 1) * 3 = o + i0 * 3 + 3 by omega, show es.length - (i0 + 1) = es.length - i0 - 1 by omega, show cap - (i0 + 1) = cap - i0 - 1 by omega] at eB
        have HC := put_concat w4 k s (.slice (some ⟨g, o, none⟩) i0 cap) (.slice (some ⟨g, o + i0 * 3 + 3, none⟩) (es.length - i0 - 1) (cap - i0 - 1)) (es.take i0) (es.drop (i0 + 1)) (((ents_take HE.out i0 hil).below (hB4.mono hn)).mono (by have := hB4.size; omega) (Nat.le_refl _)) eB (by have := HLE.out; rw [List.length_take, List.length_drop]; omega)
        go_wp2_with (first
          | (go_at_call 176; refine HC.mono ?_; clear HC; rintro e w5 ⟨v5, rfl, hE5, hb5⟩)
          | (go_at_call 175; refine (split_any w5.heap.size v5 _ w5 hE5 (by simp)).mono ?_; intro e w6 hS6; obtain ⟨v6, ps6, rfl, hq6⟩ := hS6))
        go_ret
        exact leaf_end (j := i0 + 1) HZ.out HES.out ⟨v6, ps6, rfl, hq6⟩ HK.out hn (hB4.trans (hb5.mono hB4.size))
      · have hl1 : es.length - i0 = 1 := by omega
        have hl2 : cap - i0 = 1 := by omega
        have HD : Hid (es.drop (i0 + 1) = []) := hid (List.drop_eq_nil_of_le (by omega))
        clear hc1
        have hdp1 : decide (0 < 1) = true := rfl
        clear hdp hp1 hpos
        go_wp2_with (go_at_call 174; refine (isLeaf_any n₀ 0 b l _ (HN.out.below (hB3.mono hn))).mono ?_; rintro e w' ⟨rfl, rfl⟩)
        go_quiet (fail)
        have hB4 : Below w.heap.size w (w'.drewN nq) := below_drewN hB3 nq
        have hx0' : (w'.drewN nq).cell? ⟨w.heap.size, 0, none⟩ = some (.int .u32 k) := hx0
        have hx1' : (w'.drewN nq).cell? ⟨w.heap.size, 1, none⟩ = some (.string s) := hx1
        have hx2' : (w'.drewN nq).cell? ⟨w.heap.size, 2, none⟩ = some (.pointer none) := hx2
        clear hB3 hx0 hx1 hx2 hX3 hs3 ck
        generalize w'.drewN nq = w4 at *
        have eB : EntsAt w4.heap.size w4 (.slice (some ⟨g, o + i0 * 3, none⟩) 0 0) (es.drop (i0 + 1)) := by rw [HD.out]; exact ents_nil g _ 0 (by have := hB4.size; omega) (Nat.le_refl _)
        have HC := put_concat w4 k s (.slice (some ⟨g, o, none⟩) i0 cap) (.slice (some ⟨g, o + i0 * 3, none⟩) 0 0) (es.take i0) (es.drop (i0 + 1)) (((ents_take HE.out i0 hil).below (hB4.mono hn)).mono (by have := hB4.size; omega) (Nat.le_refl _)) eB (by have := HLE.out; rw [List.length_take, List.length_drop]; omega)
        go_wp2_with (first
          | (go_at_call 176; refine HC.mono ?_; clear HC; rintro e w5 ⟨v5, rfl, hE5, hb5⟩)
          | (go_at_call 175; refine (split_any w5.heap.size v5 _ w5 hE5 (by simp)).mono ?_; intro e w6 hS6; obtain ⟨v6, ps6, rfl, hq6⟩ := hS6))
        go_ret
        exact leaf_end (j := i0 + 1) HZ.out HES.out ⟨v6, ps6, rfl, hq6⟩ HK.out hn (hB4.trans (hb5.mono hB4.size))
    · have HK := hid (leaf_new HP.out (cut_of_way0 HI.out) (leaf_h0 HZ.out HES.out) (fun _ => hk) s)
      generalize es[i0].key = ky at *
      have hkb : (ky == k) = false := by simpa using hk
      go_wp2_with (go_at_call 174; refine (isLeaf_any n₀ 0 b l _ (HN.out.below (hB3.mono hn))).mono ?_; rintro e w' ⟨rfl, rfl⟩)
      go_quiet (fail)
      have hB4 : Below w.heap.size w (w'.drewN nq) := below_drewN hB3 nq
      have hx0' : (w'.drewN nq).cell? ⟨w.heap.size, 0, none⟩ = some (.int .u32 k) := hx0
      have hx1' : (w'.drewN nq).cell? ⟨w.heap.size, 1, none⟩ = some (.string s) := hx1
      have hx2' : (w'.drewN nq).cell? ⟨w.heap.size, 2, none⟩ = some (.pointer none) := hx2
      clear hB3 hx0 hx1 hx2 hX3 hs3 ck
      generalize w'.drewN nq = w4 at *
      have HC := put_concat w4 k s (.slice (some ⟨g, o, none⟩) i0 cap) (.slice (some ⟨g, o + i0 * 3, none⟩) (es.length - i0) (cap - i0)) (es.take i0) (es.drop i0) (((ents_take HE.out i0 hil).below (hB4.mono hn)).mono (by have := hB4.size; omega) (Nat.le_refl _)) (((ents_drop HE.out i0 hil).below (hB4.mono hn)).mono (by have := hB4.size; omega) (Nat.le_refl _)) (by have := HLE.out; rw [List.length_take, List.length_drop]; omega)
      go_wp2_with (first
        | (go_at_call 176; refine HC.mono ?_; clear HC; rintro e w5 ⟨v5, rfl, hE5, hb5⟩)
        | (go_at_call 175; refine (split_any w5.heap.size v5 _ w5 hE5 (by simp)).mono ?_; intro e w6 hS6; obtain ⟨v6, ps6, rfl, hq6⟩ := hS6))
      go_ret
      exact leaf_end HZ.out HES.out ⟨v6, ps6, rfl, hq6⟩ HK.out hn (hB4.trans (hb5.mono hB4.size))
  · obtain rfl : i0 = es.length := by omega
    have HD : Hid (es.drop es.length = []) := hid (List.drop_length)
    have HK := hid (leaf_new HP.out (cut_of_way0 HI.out) (leaf_h0 HZ.out HES.out) (fun h => absurd h hlt) s)
    clear hlt
    rcases Nat.lt_or_eq_of_le h1 with hcc | hcc
    · have hz0 : es.length - es.length = 0 := Nat.sub_self _
      have hx0 : w2.cell? ⟨w.heap.size, 0, none⟩ = some (.int .u32 k) := by simp only [World.cell?, hX2]; rfl
      have hx1 : w2.cell? ⟨w.heap.size, 1, none⟩ = some (.string s) := by simp only [World.cell?, hX2]; rfl
      have hx2 : w2.cell? ⟨w.heap.size, 2, none⟩ = some (.pointer none) := by simp only [World.cell?, hX2]; rfl
      go_quiet (fail)
      have hB3 : Below w.heap.size w (w2.drewN nq) := below_drewN hB2 nq
      have hx0' : (w2.drewN nq).cell? ⟨w.heap.size, 0, none⟩ = some (.int .u32 k) := hx0
      have hx1' : (w2.drewN nq).cell? ⟨w.heap.size, 1, none⟩ = some (.string s) := hx1
      have hx2' : (w2.drewN nq).cell? ⟨w.heap.size, 2, none⟩ = some (.pointer none) := hx2
      clear hB2 hX2 hs2 hc2 hx0 hx1 hx2
      generalize w2.drewN nq = w3 at *
      go_wp2_with (go_at_call 174; refine (isLeaf_any n₀ 0 b l _ (HN.out.below (hB3.mono hn))).mono ?_; rintro e w' ⟨rfl, rfl⟩)
      go_quiet (fail)
      have hB4 : Below w.heap.size w (w'.drewN nq) := below_drewN hB3 nq
      have hx0 : (w'.drewN nq).cell? ⟨w.heap.size, 0, none⟩ = some (.int .u32 k) := hx0'
      have hx1 : (w'.drewN nq).cell? ⟨w.heap.size, 1, none⟩ = some (.string s) := hx1'
      have hx2 : (w'.drewN nq).cell? ⟨w.heap.size, 2, none⟩ = some (.pointer none) := hx2'
      clear hB3 hx0' hx1' hx2'
      generalize w'.drewN nq = w4 at *
      have eB : EntsAt w4.heap.size w4 (.slice (some ⟨g, o + es.length * 3, none⟩) 0 (cap - es.length)) (es.drop es.length) := by rw [HD.out]; exact ents_nil g _ _ (by have := hB4.size; omega) (Nat.le_refl _)
      have HC := put_concat w4 k s (.slice (some ⟨g, o, none⟩) es.length cap) (.slice (some ⟨g, o + es.length * 3, none⟩) 0 (cap - es.length)) (es.take es.length) (es.drop es.length) (((ents_take HE.out es.length hil).below (hB4.mono hn)).mono (by have := hB4.size; omega) (Nat.le_refl _)) eB (by have := HLE.out; rw [List.length_take, List.length_drop]; omega)
      go_wp2_with (first
        | (go_at_call 176; refine HC.mono ?_; clear HC; rintro e w5 ⟨v5, rfl, hE5, hb5⟩)
        | (go_at_call 175; refine (split_any w5.heap.size v5 _ w5 hE5 (by simp)).mono ?_; intro e w6 hS6; obtain ⟨v6, ps6, rfl, hq6⟩ := hS6))
      go_ret
      exact leaf_end (j := es.length) HZ.out HES.out ⟨v6, ps6, rfl, hq6⟩ HK.out hn (hB4.trans (hb5.mono hB4.size))
    · subst hcc
      have hx0 : w2.cell? ⟨w.heap.size, 0, none⟩ = some (.int .u32 k) := by simp only [World.cell?, hX2]; rfl
      have hx1 : w2.cell? ⟨w.heap.size, 1, none⟩ = some (.string s) := by simp only [World.cell?, hX2]; rfl
      have hx2 : w2.cell? ⟨w.heap.size, 2, none⟩ = some (.pointer none) := by simp only [World.cell?, hX2]; rfl
      go_quiet (fail)
      have hB3 : Below w.heap.size w (w2.drewN nq) := below_drewN hB2 nq
      have hx0' : (w2.drewN nq).cell? ⟨w.heap.size, 0, none⟩ = some (.int .u32 k) := hx0
      have hx1' : (w2.drewN nq).cell? ⟨w.heap.size, 1, none⟩ = some (.string s) := hx1
      have hx2' : (w2.drewN nq).cell? ⟨w.heap.size, 2, none⟩ = some (.pointer none) := hx2
      clear hB2 hX2 hs2 hc2 hx0 hx1 hx2
      generalize w2.drewN nq = w3 at *
      go_wp2_with (go_at_call 174; refine (isLeaf_any n₀ 0 b l _ (HN.out.below (hB3.mono hn))).mono ?_; rintro e w' ⟨rfl, rfl⟩)
      go_quiet (fail)
      have hB4 : Below w.heap.size w (w'.drewN nq) := below_drewN hB3 nq
      have hx0 : (w'.drewN nq).cell? ⟨w.heap.size, 0, none⟩ = some (.int .u32 k) := hx0'
      have hx1 : (w'.drewN nq).cell? ⟨w.heap.size, 1, none⟩ = some (.string s) := hx1'
      have hx2 : (w'.drewN nq).cell? ⟨w.heap.size, 2, none⟩ = some (.pointer none) := hx2'
      clear hB3 hx0' hx1' hx2'
      generalize w'.drewN nq = w4 at *
      have eB : EntsAt w4.heap.size w4 (.slice (some ⟨g, o, none⟩) 0 0) (es.drop es.length) := by rw [HD.out]; exact ents_nil g _ _ (by have := hB4.size; omega) (Nat.le_refl _)
      have HC := put_concat w4 k s (.slice (some ⟨g, o, none⟩) es.length es.length) (.slice (some ⟨g, o, none⟩) 0 0) (es.take es.length) (es.drop es.length) (((ents_take HE.out es.length hil).below (hB4.mono hn)).mono (by have := hB4.size; omega) (Nat.le_refl _)) eB (by have := HLE.out; rw [List.length_take, List.length_drop]; omega)
      go_wp2_with (first
        | (go_at_call 176; refine HC.mono ?_; clear HC; rintro e w5 ⟨v5, rfl, hE5, hb5⟩)
        | (go_at_call 175; refine (split_any w5.heap.size v5 _ w5 hE5 (by simp)).mono ?_; intro e w6 hS6; obtain ⟨v6, ps6, rfl, hq6⟩ := hS6))
      go_ret
      exact leaf_end (j := es.length) HZ.out HES.out ⟨v6, ps6, rfl, hq6⟩ HK.out hn (hB4.trans (hb5.mono hB4.size))

end Go.Proofs.YtbpnllhhmookcaaGreatDoor
