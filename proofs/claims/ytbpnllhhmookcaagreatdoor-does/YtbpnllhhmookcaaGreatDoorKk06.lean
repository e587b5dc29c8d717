/- above and split: entries in a node of their own, or in two. -/
import Derived.Test.YtbpnllhhmookcaaGreatDoorKk05
namespace Go.Proofs.YtbpnllhhmookcaaGreatDoor
open Go.RowKit Go.Shelf

def keyOf (es : List Ent) : Int := (es.head?.map Ent.key).getD 0

/-- An entry as a value. -/
def entVal (e : Ent) : Value := .agg #[.int .u32 e.key, .string e.val, .pointer e.below]

theorem above_any (n₀ : Nat) (v : Value) (es : List Ent) (w : World) (hE : EntsAt n₀ w v es) (hne : es ≠ []) :
    Calls Tryz.prog 183 #[v] w fun e w' => e = .returned (.agg #[.int .u32 (keyOf es), .string { data := #[] }, .pointer (some ⟨w.heap.size + 1, 0, none⟩)]) ∧ w'.heap[w.heap.size + 1]? = some (.cells #[v] 229) ∧ Below w.heap.size w w' := by
  obtain ⟨g, o, cap, rfl, h1, h2, h3, h4, h5⟩ := hE
  have hl := List.length_pos_iff.2 hne
  obtain ⟨c0, c1, c2⟩ := h5 0 hl
  simp only [Nat.zero_mul, Nat.add_zero] at c0
  have hk : keyOf es = es[0].key := by cases es with | nil => exact absurd rfl hne | cons a r => rfl
  have hl' : (0 : Int) < (es.length : Int) := by omega
  rw [hk]
  clear h5 hk c1 c2 hne
  generalize es[0].key = ky at *
  clear hl
  generalize es.length = len at *
  have hgs : g < w.heap.size := by omega
  have c0' := (Below.cell (p := ⟨g, o, none⟩) ((Below.refl w.heap.size w).alloc (Nat.le_refl _) (.cells #[.int .u32 0, .string { data := #[] }, .pointer none] 226)) hgs).trans c0
  go_enter Tryz.func183, Tryz.ntmps183
  go_wp2
  refine bodyPost_ret (v := .agg #[.int .u32 ky, .string { data := #[] }, .pointer (some ⟨w.heap.size + 1, 0, none⟩)]) (by simp [results, Tryz.results183, go_sem]) rfl ⟨rfl, ?_, ((Below.refl _ w).alloc (Nat.le_refl _) _).alloc (by simp) _⟩
  have := World.alloc_heap_new (w.alloc (.cells #[.int .u32 ky, .string { data := #[] }, .pointer (some ⟨w.heap.size + 1, 0, none⟩)] 226)) (.cells #[.slice (some ⟨g, o, none⟩) len cap] 229)
  rwa [World.size_alloc] at this

/-- In one, or in two. -/
def splitL {α : Type} (l : List α) : List (List α) := if l.length ≤ 5 then [l] else [l.take (l.length / 2), l.drop (l.length / 2)]
theorem splitL_map {α β : Type} (f : α → β) (l : List α) : splitL (l.map f) = (splitL l).map (List.map f) := by
  unfold splitL
  rw [List.length_map]
  split <;> simp
theorem splitL_flat {α : Type} (l : List α) : (splitL l).flatten = l := by unfold splitL; split <;> simp
theorem splitL_ne {α : Type} (l : List α) (h : l ≠ []) : ∀ p ∈ splitL l, p ≠ [] := by
  intro p hp
  unfold splitL at hp
  split at hp
  · simp at hp; subst hp; exact h
  · rename_i hl
    simp at hp
    rcases hp with rfl | rfl
    · intro e; have := congrArg List.length e; rw [List.length_take, List.length_nil] at this; omega
    · intro e; have := congrArg List.length e; rw [List.length_drop, List.length_nil] at this; omega

/-- above, whatever else was made meanwhile. -/
theorem above_in (n₀ : Nat) (v : Value) (es : List Ent) (w : World) (hE : EntsAt n₀ w v es) (hne : es ≠ []) (u : World) (hu : Below w.heap.size w u) :
    Calls Tryz.prog 183 #[v] u fun e w' => ∃ nb, e = .returned (.agg #[.int .u32 (keyOf es), .string { data := #[] }, .pointer (some ⟨nb, 0, none⟩)]) ∧ u.heap.size ≤ nb ∧ nb < w'.heap.size ∧ w'.heap[nb]? = some (.cells #[v] 229) ∧ Below u.heap.size u w' ∧ Below w.heap.size w w' := by
  have hn : n₀ ≤ w.heap.size := by obtain ⟨_, _, _, _, _, _, h, _⟩ := hE; exact h
  refine (above_any n₀ v es u (hE.below (hu.mono hn)) hne).mono ?_
  rintro e w' ⟨rfl, h1, h2⟩
  exact ⟨_, rfl, by omega, (Array.getElem?_eq_some_iff.1 h1).1, h1, h2, hu.trans (h2.mono hu.size)⟩

def upEnt (p : (Nat × Value) × List Ent) : Ent := ⟨keyOf p.2, ⟨#[]⟩, some ⟨p.1.1, 0, none⟩⟩

/-- What split leaves: each part in a node of its own, and an entry of each. -/
def SplitEnds (n₀ : Nat) (es : List Ent) (w : World) (e : Ending) (w' : World) : Prop :=
  ∃ (v' : Value) (ps : List ((Nat × Value) × List Ent)), e = .returned v' ∧ ps.map Prod.snd = splitL es ∧ EntsAt w'.heap.size w' v' (ps.map upEnt) ∧ Below w.heap.size w w' ∧
    ∀ p ∈ ps, p.1.1 < w'.heap.size ∧ w'.heap[p.1.1]? = some (.cells #[p.1.2] 229) ∧ EntsAt n₀ w' p.1.2 p.2

theorem new_ents (w : World) (t : TypeId) (es : List Ent) (arr : Array Value) (h : arr.toList = entCells es) (hl : es.length < 1000000) : EntsAt (w.alloc (.cells arr t)).heap.size (w.alloc (.cells arr t)) (.slice (some ⟨w.heap.size, 0, none⟩) es.length es.length) es := by
  have hn : (w.alloc (.cells arr t)).heap[w.heap.size]? = some (.cells arr t) := World.alloc_heap_new w _
  refine ⟨w.heap.size, 0, es.length, rfl, Nat.le_refl _, by simp, Nat.le_refl _, hl, fun i hi => ?_⟩
  have c : ∀ f (hf : f < 3), (w.alloc (.cells arr t)).cell? ⟨w.heap.size, i * 3 + f, none⟩ = (es[i].cells)[f]? := fun f hf => by
    rw [← entCells_at es i f hi hf, ← h]
    simp only [World.cell?, hn]
    simp
  have a0 := c 0 (by omega)
  have a1 := c 1 (by omega)
  have a2 := c 2 (by omega)
  refine ⟨?_, ?_, ?_⟩
  · rw [Nat.zero_add]; exact a0
  · rw [Nat.zero_add]; exact a1
  · rw [Nat.zero_add]; exact a2

theorem split_two (n₀ : Nat) (es : List Ent) (w u : World) (g o cap nb1 nb2 : Nat) (k1 k2 : Int) (h3 : n₀ ≤ w.heap.size) (hS : splitL es = [es.take (es.length / 2), es.drop (es.length / 2)]) (hk1 : keyOf (es.take (es.length / 2)) = k1) (hk2 : keyOf (es.drop (es.length / 2)) = k2)
    (E1 : EntsAt n₀ w (.slice (some ⟨g, o, none⟩) (es.length / 2) cap) (es.take (es.length / 2))) (E2 : EntsAt n₀ w (.slice (some ⟨g, o + es.length / 2 * 3, none⟩) (es.length - es.length / 2) (cap - es.length / 2)) (es.drop (es.length / 2)))
    (hX : Below w.heap.size w u) (hn1 : u.heap[nb1]? = some (.cells #[.slice (some ⟨g, o, none⟩) (es.length / 2) cap] 229)) (hn2 : u.heap[nb2]? = some (.cells #[.slice (some ⟨g, o + es.length / 2 * 3, none⟩) (es.length - es.length / 2) (cap - es.length / 2)] 229)) :
    SplitEnds n₀ es w (.returned (.slice (some ⟨u.heap.size, 0, none⟩) 2 2)) (u.alloc (.cells #[.int .u32 k1, .string { data := #[] }, .pointer (some ⟨nb1, 0, none⟩), .int .u32 k2, .string { data := #[] }, .pointer (some ⟨nb2, 0, none⟩)] 226)) := by
  have hbn : Below u.heap.size u (u.alloc (.cells #[.int .u32 k1, .string { data := #[] }, .pointer (some ⟨nb1, 0, none⟩), .int .u32 k2, .string { data := #[] }, .pointer (some ⟨nb2, 0, none⟩)] 226)) := (Below.refl _ _).alloc (Nat.le_refl _) _
  have l1 := (Array.getElem?_eq_some_iff.1 hn1).1
  have l2 := (Array.getElem?_eq_some_iff.1 hn2).1
  subst hk1; subst hk2
  have hall := hX.trans (hbn.mono hX.size)
  refine ⟨_, [((nb1, .slice (some ⟨g, o, none⟩) (es.length / 2) cap), es.take (es.length / 2)), ((nb2, .slice (some ⟨g, o + es.length / 2 * 3, none⟩) (es.length - es.length / 2) (cap - es.length / 2)), es.drop (es.length / 2))], rfl, by rw [hS]; rfl, new_ents u _ [upEnt ((nb1, _), es.take (es.length / 2)), upEnt ((nb2, _), es.drop (es.length / 2))] _ rfl (by simp), hall, ?_⟩
  intro p hp
  simp only [List.mem_cons, List.not_mem_nil, or_false] at hp
  rcases hp with rfl | rfl
  · exact ⟨by simp; omega, (hbn.block nb1 l1).trans hn1, E1.below (hall.mono h3)⟩
  · exact ⟨by simp; omega, (hbn.block nb2 l2).trans hn2, E2.below (hall.mono h3)⟩

set_option maxRecDepth 8000 in
set_option maxHeartbeats 2000000 in
theorem split_any (n₀ : Nat) (v : Value) (es : List Ent) (w : World) (hE : EntsAt n₀ w v es) (hne : es ≠ []) :
    Calls Tryz.prog 175 #[v] w (SplitEnds n₀ es w) := by
  have hl := List.length_pos_iff.2 hne
  by_cases h5 : es.length ≤ 5
  · have hA := above_in n₀ v es w hE hne w (Below.refl _ _)
    have HE := hid hE
    have HS : Hid (splitL es = [es]) := hid (by simp [splitL, h5])
    obtain ⟨g, o, cap, rfl, h1, h2, h3, h4, _⟩ := hE
    have h5' : (es.length : Int) ≤ 5 := by omega
    go_enter Tryz.func175, Tryz.ntmps175
    go_wp2_with (go_at_call 183; refine hA.mono ?_; clear hA; rintro e w1 ⟨nb, rfl, hnb, hnl, hn1, hb1, _⟩)
    go_ret
    have hbn : Below w1.heap.size w1 (w1.alloc (.cells #[.int .u32 (keyOf es), .string { data := #[] }, .pointer (some ⟨nb, 0, none⟩)] 226)) := (Below.refl _ _).alloc (Nat.le_refl _) _
    refine ⟨_, [((nb, .slice (some ⟨g, o, none⟩) es.length cap), es)], rfl, by rw [HS.out]; rfl, new_ents w1 _ [upEnt ((nb, .slice (some ⟨g, o, none⟩) es.length cap), es)] _ rfl (by simp), hb1.trans (hbn.mono hb1.size), ?_⟩
    intro p hp
    rw [List.mem_singleton] at hp
    subst hp
    exact ⟨by simp; omega, (hbn.block nb hnl).trans hn1, HE.out.below ((hb1.trans (hbn.mono hb1.size)).mono h3)⟩
  · have h5' : (5 : Int) < (es.length : Int) := by omega
    have HS : Hid (splitL es = [es.take (es.length / 2), es.drop (es.length / 2)]) := hid (by simp [splitL, h5])
    have hE' := hE
    obtain ⟨g, o, cap, rfl, h1, h2, h3, h4, hcs⟩ := hE'
    have E1 : EntsAt n₀ w (.slice (some ⟨g, o, none⟩) (es.length / 2) cap) (es.take (es.length / 2)) := by
      refine ⟨g, o, cap, by rw [List.length_take]; congr 1; omega, by rw [List.length_take]; omega, h2, h3, by rw [List.length_take]; omega, fun i hi => ?_⟩
      rw [List.length_take] at hi
      have := hcs i (by omega)
      simpa using this
    have E2 : EntsAt n₀ w (.slice (some ⟨g, o + es.length / 2 * 3, none⟩) (es.length - es.length / 2) (cap - es.length / 2)) (es.drop (es.length / 2)) := by
      refine ⟨g, o + es.length / 2 * 3, cap - es.length / 2, by rw [List.length_drop], by rw [List.length_drop]; omega, h2, h3, by rw [List.length_drop]; omega, fun i hi => ?_⟩
      rw [List.length_drop] at hi
      have := hcs (es.length / 2 + i) (by omega)
      rw [show o + (es.length / 2 + i) * 3 = o + es.length / 2 * 3 + i * 3 by omega] at this
      simpa using this
    have A1 := above_in n₀ _ _ w E1 (by intro e; have := congrArg List.length e; rw [List.length_take, List.length_nil] at this; omega)
    have A2 := above_in n₀ _ _ w E2 (by intro e; have := congrArg List.length e; rw [List.length_drop, List.length_nil] at this; omega)
    have HE1 := hid E1
    have HE2 := hid E2
    have hD : Below w.heap.size w w.drew := (Below.refl _ w).drew
    have hq1 : es.length / 2 ≤ es.length := by omega
    have hq2 : es.length / 2 < cap := by omega
    clear E1 E2 hcs hE hne hl
    generalize hk1 : keyOf (es.take (es.length / 2)) = k1 at *
    generalize hk2 : keyOf (es.drop (es.length / 2)) = k2 at *
    have HK1 := hid hk1
    have HK2 := hid hk2
    clear hk1 hk2
    go_enter Tryz.func175, Tryz.ntmps175
    go_wp2_with fail
    go_region_with (first
      | (go_at_call 183; refine (A1 _ ?_).mono ?_; (first | exact hX2 | exact hD); clear A1; rintro e w1 ⟨nb1, rfl, hnb1, hnl1, hn1, hb1, hX1⟩)
      | (go_at_call 183; refine (A2 _ ?_).mono ?_; (first | exact hX1 | exact hD); clear A2; rintro e w2 ⟨nb2, rfl, hnb2, hnl2, hn2, hb2, hX2⟩))
    all_goals go_wp2_with fail
    all_goals go_ret
    all_goals first
      | exact split_two n₀ es w w2 g o cap nb1 nb2 k1 k2 h3 HS.out HK1.out HK2.out HE1.out HE2.out hX2 ((hb2.block nb1 hnl1).trans hn1) hn2
      | exact split_two n₀ es w w1 g o cap nb1 nb2 k1 k2 h3 HS.out HK1.out HK2.out HE1.out HE2.out hX1 hn1 ((hb1.block nb2 hnl2).trans hn2)

end Go.Proofs.YtbpnllhhmookcaaGreatDoor

/- Plain mathematics of put: a key and its text among rising ones. -/
namespace Go.Proofs.YtbpnllhhmookcaaGreatDoor
open Go.RowKit

/-- A text under a key, instead of one that was there. -/
def insK (l : List KV) (k : Int) (s : ByteArray) : List KV := l.filter (fun x => decide (x.1 < k)) ++ (k, s) :: l.filter (fun x => decide (k < x.1))

theorem insK_mid {A M B : List KV} {k : Int} (s : ByteArray) (hA : ∀ x ∈ A, x.1 < k) (hB : ∀ x ∈ B, k < x.1) : insK (A ++ M ++ B) k s = A ++ insK M k s ++ B := by
  have a1 : A.filter (fun x => decide (x.1 < k)) = A := List.filter_eq_self.2 fun x hx => by simpa using hA x hx
  have a2 : A.filter (fun x => decide (k < x.1)) = [] := List.filter_eq_nil_iff.2 fun x hx => by have := hA x hx; simp; omega
  have b1 : B.filter (fun x => decide (x.1 < k)) = [] := List.filter_eq_nil_iff.2 fun x hx => by have := hB x hx; simp; omega
  have b2 : B.filter (fun x => decide (k < x.1)) = B := List.filter_eq_self.2 fun x hx => by simpa using hB x hx
  simp [insK, a1, a2, b1, b2]
theorem insK_nil (k : Int) (s : ByteArray) : insK [] k s = [(k, s)] := rfl
theorem insK_one (k : Int) (s t : ByteArray) : insK [(k, t)] k s = [(k, s)] := by simp [insK]
theorem insK_rise {l : List KV} (h : RiseK l) (k : Int) (s : ByteArray) : RiseK (insK l k s) := by
  unfold insK RiseK
  rw [List.pairwise_append, List.pairwise_cons]
  refine ⟨h.sublist List.filter_sublist, ⟨fun x hx => ?_, h.sublist List.filter_sublist⟩, fun x hx y hy => ?_⟩
  · simpa using (List.mem_filter.1 hx).2
  · have h1 : x.1 < k := by simpa using (List.mem_filter.1 hx).2
    rcases List.mem_cons.1 hy with rfl | hy
    · exact h1
    · have h2 : k < y.1 := by simpa using (List.mem_filter.1 hy).2
      omega
theorem insK_ne (l : List KV) (k : Int) (s : ByteArray) : insK l k s ≠ [] := by simp [insK]

/-- An entry and what is below it. -/
abbrev Twig := Ent × List KV
def GoodTwig (n₀ : Nat) (W : World) (ht : Nat) (z : Twig) : Prop :=
  (ht = 0 ∧ z.1.below = none ∧ z.2 = [z.1.kv]) ∨ (∃ h c, ht = h + 1 ∧ z.1.below = some ⟨c, 0, none⟩ ∧ NodeAt n₀ W h c z.2 ∧ (z.2.head?).map Prod.fst = some z.1.key)
theorem GoodTwig.below {n₀ : Nat} {A B : World} {ht : Nat} {z : Twig} (h : GoodTwig n₀ A ht z) (hb : Below n₀ A B) : GoodTwig n₀ B ht z :=
  h.imp id fun ⟨h', c, a, b, n, d⟩ => ⟨h', c, a, b, n.below hb, d⟩
theorem GoodTwig.mono {n₀ n₁ : Nat} {A : World} {ht : Nat} {z : Twig} (h : GoodTwig n₀ A ht z) (hn : n₀ ≤ n₁) (hs : n₁ ≤ A.heap.size) : GoodTwig n₁ A ht z :=
  h.imp id fun ⟨h', c, a, b, n, d⟩ => ⟨h', c, a, b, n.mono hn hs, d⟩
theorem GoodTwig.key {n₀ : Nat} {A : World} {ht : Nat} {z : Twig} (h : GoodTwig n₀ A ht z) : (z.2.head?).map Prod.fst = some z.1.key := by
  rcases h with ⟨_, _, h⟩ | ⟨_, _, _, _, _, h⟩
  · rw [h]; rfl
  · exact h

/-- A node made of twigs. -/
theorem node_of {n₀ : Nat} {W : World} {ht b : Nat} {v : Value} {zs : List Twig} (hb : b < n₀) (hc : W.cell? ⟨b, 0, none⟩ = some v) (hE : EntsAt n₀ W v (zs.map Prod.fst)) (hne : zs ≠ []) (hz : ∀ z ∈ zs, GoodTwig n₀ W ht z) :
    NodeAt n₀ W ht b (zs.map Prod.snd).flatten := by
  have hne' : zs.map Prod.fst ≠ [] := by simpa using hne
  cases ht with
  | zero =>
    refine ⟨hb, v, _, hc, hE, hne', ?_, ?_⟩
    · intro e he
      obtain ⟨z, hz1, rfl⟩ := List.mem_map.1 he
      rcases hz z hz1 with ⟨_, h, _⟩ | ⟨h', c, h0, _⟩
      · exact h
      · omega
    · clear hE hc hne hne'
      induction zs with
      | nil => rfl
      | cons z r ih =>
        have h2 : z.2 = [z.1.kv] := by
          rcases hz z (by simp) with ⟨_, _, h⟩ | ⟨h', c, h0, _⟩
          · exact h
          · omega
        simp only [List.map_cons, List.flatten_cons, h2, List.singleton_append]
        rw [ih (fun y hy => hz y (by simp [hy]))]
  | succ h =>
    refine ⟨hb, v, _, zs.map Prod.snd, hc, hE, hne', by simp, rfl, fun i hi hj => ?_⟩
    have hl : i < zs.length := by simpa using hi
    rcases hz zs[i] (List.getElem_mem hl) with ⟨h0, _⟩ | ⟨h', c, h0, h1, h2, h3⟩
    · omega
    · obtain rfl : h = h' := by omega
      exact ⟨c, by simpa using h1, by simpa using h2, by simpa using h3⟩

/-- A node's twigs. -/
theorem NodeAt.twigs {n₀ : Nat} {A : World} {ht b : Nat} {l : List KV} (h : NodeAt n₀ A ht b l) (hR : RiseK l) : b < n₀ ∧ ∃ v zs, A.cell? ⟨b, 0, none⟩ = some v ∧ EntsAt n₀ A v (zs.map Prod.fst) ∧ zs ≠ [] ∧ l = (zs.map Prod.snd).flatten ∧ Parts (zs.map Prod.fst) (zs.map Prod.snd) l ∧ ∀ z ∈ zs, GoodTwig n₀ A ht z := by
  obtain ⟨hb, v, es, ls, hc, hE, hne, hP, h0, h1⟩ := h.parts hR
  have e1 : (es.zip ls).map Prod.fst = es := by rw [List.map_fst_zip]; have := hP.len; omega
  have e2 : (es.zip ls).map Prod.snd = ls := by rw [List.map_snd_zip]; have := hP.len; omega
  refine ⟨hb, v, es.zip ls, hc, by rw [e1]; exact hE, fun e => hne (by rw [← e1, e]; rfl), by rw [e2]; exact hP.flat, by rw [e1, e2]; exact hP, fun z hz => ?_⟩
  obtain ⟨i, hi, rfl⟩ := List.mem_iff_getElem.1 hz
  rw [List.length_zip] at hi
  have hi1 : i < es.length := by omega
  have hi2 : i < ls.length := by omega
  simp only [List.getElem_zip]
  cases ht with
  | zero => exact .inl ⟨rfl, (h0 rfl i hi1 hi2).2, (h0 rfl i hi1 hi2).1⟩
  | succ h' => obtain ⟨c, a, n⟩ := h1 h' rfl i hi1 hi2; exact .inr ⟨h', c, rfl, a, n, hP.head i hi1 hi2⟩

end Go.Proofs.YtbpnllhhmookcaaGreatDoor

/- What split leaves of twigs; parts of a slice of entries. -/
namespace Go.Proofs.YtbpnllhhmookcaaGreatDoor
open Go.RowKit

/-- Twigs one step higher, that have the same keys. -/
def UpEnds (ht : Nat) (l : List KV) (w : World) (e : Ending) (w' : World) : Prop :=
  ∃ (v' : Value) (zs : List Twig), e = .returned v' ∧ EntsAt w'.heap.size w' v' (zs.map Prod.fst) ∧ (∀ z ∈ zs, GoodTwig w'.heap.size w' (ht + 1) z) ∧ zs ≠ [] ∧ zs.length ≤ 2 ∧ (zs.map Prod.snd).flatten = l ∧ Below w.heap.size w w'

theorem splitL_len {α : Type} (l : List α) : (splitL l).length ≤ 2 ∧ 0 < (splitL l).length := by unfold splitL; split <;> simp

theorem split_twigs {n₁ ht : Nat} {w w' : World} {e : Ending} {zs : List Twig} (hz : ∀ z ∈ zs, GoodTwig n₁ w ht z) (hne : zs ≠ []) (hn : n₁ ≤ w.heap.size) (h : SplitEnds n₁ (zs.map Prod.fst) w e w') : UpEnds ht (zs.map Prod.snd).flatten w e w' := by
  obtain ⟨v', ps, rfl, hps, hE, hb, hp⟩ := h
  rw [splitL_map] at hps
  have hl : ps.length = (splitL zs).length := by have := congrArg List.length hps; simpa using this
  have hlen := splitL_len zs
  have e1 : ((ps.zip (splitL zs)).map fun x => (upEnt x.1, (x.2.map Prod.snd).flatten)).map Prod.fst = ps.map upEnt := by
    rw [List.map_map]
    have : (Prod.fst ∘ fun x : ((Nat × Value) × List Ent) × List Twig => (upEnt x.1, (x.2.map Prod.snd).flatten)) = upEnt ∘ Prod.fst := rfl
    rw [this, ← List.map_map, List.map_fst_zip (by omega)]
  have e2 : ((ps.zip (splitL zs)).map fun x => (upEnt x.1, (x.2.map Prod.snd).flatten)).map Prod.snd = (splitL zs).map fun q => (q.map Prod.snd).flatten := by
    rw [List.map_map]
    have : (Prod.snd ∘ fun x : ((Nat × Value) × List Ent) × List Twig => (upEnt x.1, (x.2.map Prod.snd).flatten)) = (fun q : List Twig => (q.map Prod.snd).flatten) ∘ Prod.snd := rfl
    rw [this, ← List.map_map, List.map_snd_zip (by omega)]
  refine ⟨v', (ps.zip (splitL zs)).map fun x => (upEnt x.1, (x.2.map Prod.snd).flatten), rfl, by rw [e1]; exact hE, ?_, ?_, ?_, ?_, hb⟩
  · intro z hzz
    obtain ⟨x, hx, rfl⟩ := List.mem_map.1 hzz
    obtain ⟨i, hi, rfl⟩ := List.mem_iff_getElem.1 hx
    rw [List.length_zip] at hi
    have i1 : i < ps.length := by omega
    have i2 : i < (splitL zs).length := by omega
    simp only [List.getElem_zip]
    obtain ⟨a1, a2, a3⟩ := hp ps[i] (List.getElem_mem i1)
    have hq : ps[i].2 = ((splitL zs)[i]).map Prod.fst := by
      have := congrArg (fun l => l[i]?) hps
      simpa [i1, i2] using this
    have hqm : ∀ z ∈ (splitL zs)[i], z ∈ zs := fun z hz' => by
      have : z ∈ (splitL zs).flatten := List.mem_flatten_of_mem (List.getElem_mem i2) hz'
      rwa [splitL_flat] at this
    have hqne : (splitL zs)[i] ≠ [] := splitL_ne zs hne _ (List.getElem_mem i2)
    generalize (splitL zs)[i] = q at hq hqm hqne ⊢
    have hbn : Below n₁ w w' := hb.mono hn
    have hs : w.heap.size ≤ w'.heap.size := hb.size
    refine .inr ⟨ht, ps[i].1.1, rfl, rfl, node_of a1 (by simp only [World.cell?, a2]; rfl) ?_ hqne (fun z hz' => ((hz z (hqm z hz')).below hbn).mono (by omega) (Nat.le_refl _)), ?_⟩
    · rw [← hq]; exact a3.mono (by omega) (Nat.le_refl _)
    · show _ = some (keyOf ps[i].2)
      rw [hq]
      cases q with
      | nil => exact absurd rfl hqne
      | cons z r =>
        have hk := (hz z (hqm z (by simp))).key
        simp only [List.map_cons, List.flatten_cons, keyOf, List.head?_cons, Option.map_some, Option.getD_some]
        cases hz2 : z.2 with
        | nil => rw [hz2] at hk; simp at hk
        | cons y t => rw [hz2] at hk; simpa using hk
  · intro he
    have := congrArg List.length he
    rw [List.length_map, List.length_zip, List.length_nil] at this
    omega
  · rw [List.length_map, List.length_zip]; omega
  · rw [e2]
    have : (splitL zs).map (fun q => (q.map Prod.snd).flatten) = ((splitL zs).map (List.map Prod.snd)).map List.flatten := by rw [List.map_map]; rfl
    rw [this, ← List.flatten_flatten, ← List.map_flatten, splitL_flat]

theorem ents_nil {n₀ : Nat} {W : World} (g o c : Nat) (hg : g < n₀) (hn : n₀ ≤ W.heap.size) : EntsAt n₀ W (.slice (some ⟨g, o, none⟩) 0 c) [] :=
  ⟨g, o, c, rfl, by simp, hg, hn, by simp, fun i hi => by simp at hi⟩
theorem ents_take {n₀ : Nat} {W : World} {g o len cap : Nat} {es : List Ent} (h : EntsAt n₀ W (.slice (some ⟨g, o, none⟩) len cap) es) (i : Nat) (hi : i ≤ es.length) : EntsAt n₀ W (.slice (some ⟨g, o, none⟩) i cap) (es.take i) := by
  obtain ⟨g', o', cap', e, h1, h2, h3, h4, h5⟩ := h
  injection e with e1 e2 e3
  injection e1 with e1
  injection e1 with e4 e5
  subst e4; subst e5; subst e3
  have hl : (es.take i).length = i := by rw [List.length_take]; omega
  refine ⟨g, o, cap, by rw [hl], by omega, h2, h3, by omega, fun j hj => ?_⟩
  have := h5 j (by omega)
  simpa using this
theorem ents_drop {n₀ : Nat} {W : World} {g o len cap : Nat} {es : List Ent} (h : EntsAt n₀ W (.slice (some ⟨g, o, none⟩) len cap) es) (i : Nat) (hi : i ≤ es.length) : EntsAt n₀ W (.slice (some ⟨g, o + i * 3, none⟩) (es.length - i) (cap - i)) (es.drop i) := by
  obtain ⟨g', o', cap', e, h1, h2, h3, h4, h5⟩ := h
  injection e with e1 e2 e3
  injection e1 with e1
  injection e1 with e4 e5
  subst e4; subst e5; subst e3
  have hl : (es.drop i).length = es.length - i := by rw [List.length_drop]
  refine ⟨g, o + i * 3, cap - i, by rw [hl], by omega, h2, h3, by omega, fun j hj => ?_⟩
  have := h5 (i + j) (by omega)
  rw [show o + (i + j) * 3 = o + i * 3 + j * 3 by omega] at this
  simpa using this

/-- Three slices behind one. -/
theorem many_new (u : World) (t : TypeId) (v0 v1 v2 : Value) (e0 e1 e2 : List Ent) (h0 : EntsAt u.heap.size u v0 e0) (h1 : EntsAt u.heap.size u v1 e1) (h2 : EntsAt u.heap.size u v2 e2) (hl : e0.length + e1.length + e2.length < 100000) :
    ManyAt (u.alloc (.cells #[v0, v1, v2] t)) u.heap.size [(v0, e0), (v1, e1), (v2, e2)] := by
  have hb : Below u.heap.size u (u.alloc (.cells #[v0, v1, v2] t)) := (Below.refl _ _).alloc (Nat.le_refl _) _
  have hn : (u.alloc (.cells #[v0, v1, v2] t)).heap[u.heap.size]? = some (.cells #[v0, v1, v2] t) := World.alloc_heap_new u _
  have up : ∀ {v es}, EntsAt u.heap.size u v es → EntsAt (u.alloc (.cells #[v0, v1, v2] t)).heap.size (u.alloc (.cells #[v0, v1, v2] t)) v es := fun h => (h.below hb).mono (by simp) (Nat.le_refl _)
  refine ⟨by simp, ?_, ?_, by simp, by simp; omega⟩
  · intro i hi
    simp only [List.length_cons, List.length_nil] at hi
    have : i = 0 ∨ i = 1 ∨ i = 2 := by omega
    rcases this with rfl | rfl | rfl <;> (simp only [World.cell?, hn]; rfl)
  · intro i hi
    simp only [List.length_cons, List.length_nil] at hi
    have : i = 0 ∨ i = 1 ∨ i = 2 := by omega
    rcases this with rfl | rfl | rfl
    · exact up h0
    · exact up h1
    · exact up h2

end Go.Proofs.YtbpnllhhmookcaaGreatDoor
