/- Put of a tree. -/
import Derived.Test.YtbpnllhhmookcaaGreatDoorKk08
namespace Go.Proofs.YtbpnllhhmookcaaGreatDoor
open Go.RowKit Go.Shelf

/-- A tree's own block, and what it has. -/
structure TreeAt (n₀ : Nat) (W : World) (b : Nat) (t : TypeId) (l : List KV) : Prop where
  box : ∃ r, TreeBox W b t r l.length ∧ TreeIs n₀ W r l
  few : l.length < 9000

def PutEnds (b : Nat) (t : TypeId) (l : List KV) (w : World) (e : Ending) (w' : World) : Prop := e = .returned (.tuple #[]) ∧ TreeAt w'.heap.size w' b t l ∧ Keeps (fun g => g = b) w w'

theorem treeBox_below {W W' : World} {b : Nat} {t : TypeId} {r : Option Addr} {n : Int} (h : TreeBox W b t r n) (hb : Below W.heap.size W W') : TreeBox W' b t r n := (hb.block b h.lt).trans h

/-- A node alone, of one entry. -/
theorem node_new (w : World) (k : Int) (s : ByteArray) : NodeAt ((w.alloc (.cells #[.int .u32 k, .string s, .pointer none] 226)).alloc (.cells #[.slice (some ⟨w.heap.size, 0, none⟩) 1 1] 229)).heap.size ((w.alloc (.cells #[.int .u32 k, .string s, .pointer none] 226)).alloc (.cells #[.slice (some ⟨w.heap.size, 0, none⟩) 1 1] 229)) 0 (w.heap.size + 1) [(k, s)] := by
  have hb : Below (w.alloc (.cells #[.int .u32 k, .string s, .pointer none] 226)).heap.size (w.alloc (.cells #[.int .u32 k, .string s, .pointer none] 226)) ((w.alloc (.cells #[.int .u32 k, .string s, .pointer none] 226)).alloc (.cells #[.slice (some ⟨w.heap.size, 0, none⟩) 1 1] 229)) := (Below.refl _ _).alloc (Nat.le_refl _) _
  have hB := Boxed.new (w.alloc (.cells #[.int .u32 k, .string s, .pointer none] 226)) 229 (.slice (some ⟨w.heap.size, 0, none⟩) 1 1)
  rw [World.size_alloc] at hB
  exact ⟨by simp, _, [⟨k, s, none⟩], hB.cell, ((new_ents w _ [⟨k, s, none⟩] _ rfl (by simp)).below hb).mono (by simp) (Nat.le_refl _), by simp, by simp, rfl⟩

set_option maxRecDepth 8000 in
set_option maxHeartbeats 4000000 in
theorem treePut_nil (n₀ b : Nat) (t : TypeId) (k : Int) (s : ByteArray) (w : World) (hB : TreeBox w b t none 0) (hT : TreeIs n₀ w none []) :
    Calls Tryz.prog 127 #[.pointer (some ⟨b, 0, none⟩), .int .u32 k, .string s] w (PutEnds b t [(k, s)] w) := by
  have hg := get_any n₀ none 0 k [] w hT
  have c0 := hB.c0
  have c1 := hB.c1
  have HB := hid hB
  clear hB
  go_enter Tryz.func127, Tryz.ntmps127
  go_upto_region 3 with (go_at_call 158; refine hg.mono ?_; clear hg; rintro e w1 ⟨rfl, hb1⟩; rw [show getK [] k = none from rfl]; have d1 := (hb1.cell (p := ⟨b, 1, none⟩) HB.out.lt).trans c1; have hB1 : TreeBox w1 b t none 0 := treeBox_below HB.out hb1; have f1 := hB1.fz 1)
  have hB2 := hB1.set1 1
  have hk2 : Keeps (fun g => g = b) w (w1.setCell ⟨b, 1, none⟩ (.int .i64 1)) := (below_toKeeps hb1 (fun g => g = b)).setCell (p := ⟨b, 1, none⟩) (.inl rfl) _
  clear hB1 hb1 d1 f1 c0 c1
  generalize w1.setCell ⟨b, 1, none⟩ (.int .i64 1) = w2 at *
  go_upto_region 4 with fail
  have hb3 : Below w2.heap.size w2 (w2.alloc (.cells #[.int .u32 k, .string s, .pointer none] 226)) := (Below.refl _ _).alloc (Nat.le_refl _) _
  have hx3 : (w2.alloc (.cells #[.int .u32 k, .string s, .pointer none] 226)).heap[w2.heap.size]? = some (.cells #[.int .u32 k, .string s, .pointer none] 226) := World.alloc_heap_new w2 _
  generalize w2.alloc (.cells #[.int .u32 k, .string s, .pointer none] 226) = w3 at *
  have hB3 := treeBox_below hB2 hb3
  have d0 := hB3.c0
  have f0 := hB3.fz 0
  have x0 : w3.cell? ⟨w2.heap.size, 0, none⟩ = some (.int .u32 k) := by simp only [World.cell?, hx3]; rfl
  have x1 : w3.cell? ⟨w2.heap.size, 1, none⟩ = some (.string s) := by simp only [World.cell?, hx3]; rfl
  have x2 : w3.cell? ⟨w2.heap.size, 2, none⟩ = some (.pointer none) := by simp only [World.cell?, hx3]; rfl
  clear hx3
  have hl3 := hB3.lt
  have hbN : Below w3.heap.size w3 ((w3.alloc (.cells #[.int .u32 k, .string s, .pointer none] 226)).alloc (.cells #[.slice (some ⟨w3.heap.size, 0, none⟩) 1 1] 229)) := ((Below.refl _ _).alloc (Nat.le_refl _) _).alloc (by simp) _
  have d0' := (hbN.cell (p := ⟨b, 0, none⟩) hl3).trans d0
  have f0' := (hbN.frozen (p := ⟨b, 0, none⟩) hl3).trans f0
  have HN := hid (node_new w3 k s)
  have HBN := hid hbN
  clear hbN
  go_wp2_with fail
  refine bodyPost_ret (v := .tuple #[]) (by simp [results, Tryz.results127, go_sem]) rfl ⟨rfl, ?_, ?_⟩
  · have hB4 := hB3.set0 (some ⟨w3.heap.size + 1, 0, none⟩)
    have hN := node_new (w3.setCell ⟨b, 0, none⟩ (.pointer (some ⟨w3.heap.size + 1, 0, none⟩))) k s
    have hs4 : (w3.setCell ⟨b, 0, none⟩ (.pointer (some ⟨w3.heap.size + 1, 0, none⟩))).heap.size = w3.heap.size := by simp
    generalize w3.setCell ⟨b, 0, none⟩ (.pointer (some ⟨w3.heap.size + 1, 0, none⟩)) = w4 at *
    rw [← hs4] at hB4 ⊢
    exact ⟨⟨_, treeBox_below hB4 (((Below.refl _ _).alloc (Nat.le_refl _) _).alloc (by simp) _), by simp [RiseK], Nat.le_refl _, .inr ⟨0, _, rfl, hN⟩⟩, by simp⟩
  · exact (((hk2.below hb3 hk2.size).setCell (p := ⟨b, 0, none⟩) (.inl rfl) _).alloc _).alloc _

/-- One node, or two below a new one. -/
theorem root_of {ht : Nat} {u : World} {l : List KV} {zs : List Twig} (hz : ∀ z ∈ zs, GoodTwig u.heap.size u (ht + 1) z) (hl : (zs.map Prod.snd).flatten = l) (h1 : zs.length = 1) : ∃ c, (zs.map Prod.fst).head?.bind Ent.below = some ⟨c, 0, none⟩ ∧ NodeAt u.heap.size u ht c l := by
  cases zs with
  | nil => simp at h1
  | cons z r =>
    have hr : r = [] := by simpa using h1
    subst hr
    rcases hz z (by simp) with ⟨h0, _⟩ | ⟨h', c, h0, h2, h3, _⟩
    · omega
    · obtain rfl : ht = h' := by omega
      exact ⟨c, by simpa using h2, by rw [← hl]; simpa using h3⟩

end Go.Proofs.YtbpnllhhmookcaaGreatDoor

/- Put of a tree that has something. -/
namespace Go.Proofs.YtbpnllhhmookcaaGreatDoor
open Go.RowKit Go.Shelf

/-- What the walk wants of the first part. -/
theorem up_first {ht : Nat} {l : List KV} {u : World} {zs : List Twig} {v : Value} (hE : EntsAt u.heap.size u v (zs.map Prod.fst)) (hz : ∀ z ∈ zs, GoodTwig u.heap.size u (ht + 1) z) (hne : zs ≠ []) :
    ∃ g o cap c, v = .slice (some ⟨g, o, none⟩) zs.length cap ∧ zs.length ≤ cap ∧ g < u.heap.size ∧ u.cell? ⟨g, o + 2, none⟩ = some (.pointer (some ⟨c, 0, none⟩)) ∧ (zs.length = 1 → (zs.map Prod.snd).flatten = l → NodeAt u.heap.size u ht c l) := by
  obtain ⟨g, o, cap, hv, h1, h2, h3, h4, h5⟩ := hE
  have hp : 0 < (zs.map Prod.fst).length := by rw [List.length_map]; exact List.length_pos_iff.2 hne
  have hc := (h5 0 hp).2.2
  rw [List.length_map] at hv h1
  have hp' : 0 < zs.length := List.length_pos_iff.2 hne
  rcases hz zs[0] (List.getElem_mem hp') with ⟨h0, _⟩ | ⟨h', c, h0, hb, hn, _⟩
  · omega
  · obtain rfl : ht = h' := by omega
    refine ⟨g, o, cap, c, hv, h1, h2, ?_, fun h1 hl => ?_⟩
    · rw [Nat.zero_mul, Nat.add_zero] at hc
      rw [hc, List.getElem_map, hb]
    · cases zs with
      | nil => simp at h1
      | cons z r =>
        have hr : r = [] := by simpa using h1
        subst hr
        rw [← hl]; simpa using hn

theorem GoodTwig.keptX {n₀ ht : Nat} {A B : World} {X : Nat → Prop} (hs : A.heap.size ≤ B.heap.size) (hk : ∀ g o v, ¬ X g → A.cell? ⟨g, o, none⟩ = some v → B.cell? ⟨g, o, none⟩ = some v) (hx : ∀ g, X g → NoNode A g) {z : Twig} (h : GoodTwig n₀ A ht z) : GoodTwig n₀ B ht z :=
  h.imp id fun ⟨h', c, a, b, n, d⟩ => ⟨h', c, a, b, n.keptX hs hk hx, d⟩

theorem put_close1 {b c ht : Nat} {t : TypeId} {r : Option Addr} {L : List KV} {n : Int} {w u : World} (hB : TreeBox u b t r n) (hn : n = L.length) (hN : NodeAt u.heap.size u ht c L) (hR : RiseK L) (hl : L.length < 9000) (hk : Keeps (fun g => g = b) w u) : PutEnds b t L w (.returned (.tuple #[])) (u.setCell ⟨b, 0, none⟩ (.pointer (some ⟨c, 0, none⟩))) := by
  refine ⟨rfl, ⟨⟨_, by rw [← hn]; exact hB.set0 _, ?_⟩, hl⟩, hk.setCell (p := ⟨b, 0, none⟩) (.inl rfl) _⟩
  have : TreeIs u.heap.size u (some ⟨c, 0, none⟩) L := ⟨hR, Nat.le_refl _, .inr ⟨ht, c, rfl, hN⟩⟩
  have := this.set hB 0 (.pointer (some ⟨c, 0, none⟩))
  simpa using this

theorem put_close2 {b ht : Nat} {t : TypeId} {r : Option Addr} {L : List KV} {n : Int} {w u : World} {v : Value} {zs : List Twig} (hB : TreeBox u b t r n) (hn : n = L.length) (hE : EntsAt u.heap.size u v (zs.map Prod.fst)) (hz : ∀ z ∈ zs, GoodTwig u.heap.size u (ht + 1) z) (hne : zs ≠ []) (hL : (zs.map Prod.snd).flatten = L) (hR : RiseK L) (hl : L.length < 9000) (hk : Keeps (fun g => g = b) w u) :
    PutEnds b t L w (.returned (.tuple #[])) ((u.setCell ⟨b, 0, none⟩ (.pointer (some ⟨u.heap.size, 0, none⟩))).alloc (.cells #[v] 229)) := by
  have hs : (u.setCell ⟨b, 0, none⟩ (.pointer (some ⟨u.heap.size, 0, none⟩))).heap.size = u.heap.size := by simp
  have kk : ∀ g o x, ¬ g = b → u.cell? ⟨g, o, none⟩ = some x → (u.setCell ⟨b, 0, none⟩ (.pointer (some ⟨u.heap.size, 0, none⟩))).cell? ⟨g, o, none⟩ = some x := fun g o x hg hc => by
    rw [World.cell?_of_block (w := u) (Below.heap_setCell u ⟨b, 0, none⟩ _ g hg)]; exact hc
  have kx : ∀ g, g = b → NoNode u g := fun g hg => by subst hg; exact hB.noNode
  have hne' : zs.map Prod.fst ≠ [] := by simpa using hne
  have hE2 := hE.keptX (X := fun g => g = b) (by omega) kk kx hne'
  have hz2 : ∀ z ∈ zs, GoodTwig u.heap.size (u.setCell ⟨b, 0, none⟩ (.pointer (some ⟨u.heap.size, 0, none⟩))) (ht + 1) z := fun z h => (hz z h).keptX (X := fun g => g = b) (by omega) kk kx
  have hB2 := hB.set0 (some ⟨u.heap.size, 0, none⟩)
  have hk2 : Keeps (fun g => g = b) w (u.setCell ⟨b, 0, none⟩ (.pointer (some ⟨u.heap.size, 0, none⟩))) := hk.setCell (p := ⟨b, 0, none⟩) (.inl rfl) _
  clear kk kx hE hz hB hk
  generalize u.setCell ⟨b, 0, none⟩ (.pointer (some ⟨u.heap.size, 0, none⟩)) = u2 at *
  have hb : Below u2.heap.size u2 (u2.alloc (.cells #[v] 229)) := (Below.refl _ _).alloc (Nat.le_refl _) _
  have hb' := hb.mono (Nat.le_of_eq hs.symm)
  have hBx := Boxed.new u2 229 v
  rw [hs] at hBx
  refine ⟨rfl, ⟨⟨_, by rw [← hn]; exact treeBox_below hB2 hb, hR, Nat.le_refl _, .inr ⟨ht + 1, _, rfl, ?_⟩⟩, hl⟩, hk2.alloc _⟩
  rw [← hL]
  exact node_of (by simp; omega) hBx.cell ((hE2.below hb').mono (by simp; omega) (Nat.le_refl _)) hne (fun z h => ((hz2 z h).below hb').mono (by simp; omega) (Nat.le_refl _))

theorem set_keeps {b i : Nat} {u : World} (v : Value) : ∀ g o x, ¬ g = b → u.cell? ⟨g, o, none⟩ = some x → (u.setCell ⟨b, i, none⟩ v).cell? ⟨g, o, none⟩ = some x := fun g o x hg hc => by
  rw [World.cell?_of_block (w := u) (Below.heap_setCell u ⟨b, i, none⟩ _ g hg)]; exact hc

set_option maxRecDepth 8000 in
set_option maxHeartbeats 4000000 in
theorem treePut_new (n₀ b c ht : Nat) (t : TypeId) (l : List KV) (k : Int) (s : ByteArray) (w : World) (hB : TreeBox w b t (some ⟨c, 0, none⟩) l.length) (hR : RiseK l) (hn : n₀ ≤ w.heap.size) (hN : NodeAt n₀ w ht c l) (hL : l.length < 8000) (hg0 : getK l k = none) :
    Calls Tryz.prog 127 #[.pointer (some ⟨b, 0, none⟩), .int .u32 k, .string s] w (PutEnds b t (insK l k s) w) := by
  have hg := get_any n₀ (some ⟨c, 0, none⟩) l.length k l w ⟨hR, hn, .inr ⟨ht, c, rfl, hN⟩⟩
  have c0 := hB.c0
  have c1 := hB.c1
  have HB := hid hB
  have HN := hid hN
  have HG := hid hg0
  have HLN : Hid ((insK l k s).length = l.length + 1) := hid (by rw [insK_len hR, hg0]; rfl)
  clear hB hN hg0
  go_enter Tryz.func127, Tryz.ntmps127
  go_upto_region 3 with (go_at_call 158; refine hg.mono ?_; clear hg; rintro e w1 ⟨rfl, hb1⟩; rw [HG.out]; have d1 := (hb1.cell (p := ⟨b, 1, none⟩) HB.out.lt).trans c1; have hB1 : TreeBox w1 b t (some ⟨c, 0, none⟩) l.length := treeBox_below HB.out hb1; have f1 := hB1.fz 1)
  have hN2 := (HN.out.below (hb1.mono hn)).keptX (X := fun g => g = b) (B := w1.setCell ⟨b, 1, none⟩ (.int .i64 (l.length + 1))) (by simp) (fun g o u hg hc => by rw [World.cell?_of_block (w := w1) (Below.heap_setCell w1 ⟨b, 1, none⟩ _ g hg)]; exact hc) (fun g hg => by subst hg; exact hB1.noNode)
  have hB2 := hB1.set1 (l.length + 1)
  have hk2 : Keeps (fun g => g = b) w (w1.setCell ⟨b, 1, none⟩ (.int .i64 (l.length + 1))) := (below_toKeeps hb1 (fun g => g = b)).setCell (p := ⟨b, 1, none⟩) (.inl rfl) _
  clear hB1 hb1 d1 f1 c0 c1
  generalize w1.setCell ⟨b, 1, none⟩ (.int .i64 (l.length + 1)) = w2 at *
  have hn2 : n₀ ≤ w2.heap.size := Nat.le_trans hn hk2.size
  go_upto_region 4 with fail
  have hb3 : Below w2.heap.size w2 (w2.alloc (.cells #[.int .u32 k, .string s, .pointer none] 226)) := (Below.refl _ _).alloc (Nat.le_refl _) _
  have hx3 : (w2.alloc (.cells #[.int .u32 k, .string s, .pointer none] 226)).heap[w2.heap.size]? = some (.cells #[.int .u32 k, .string s, .pointer none] 226) := World.alloc_heap_new w2 _
  generalize w2.alloc (.cells #[.int .u32 k, .string s, .pointer none] 226) = w3 at *
  have hB3 := treeBox_below hB2 hb3
  have d0 := hB3.c0
  have x0 : w3.cell? ⟨w2.heap.size, 0, none⟩ = some (.int .u32 k) := by simp only [World.cell?, hx3]; rfl
  have x1 : w3.cell? ⟨w2.heap.size, 1, none⟩ = some (.string s) := by simp only [World.cell?, hx3]; rfl
  have x2 : w3.cell? ⟨w2.heap.size, 2, none⟩ = some (.pointer none) := by simp only [World.cell?, hx3]; rfl
  clear hx3
  have hl3 := hB3.lt
  have hN3 := hN2.below (hb3.mono hn2)
  have hk3 := hk2.below hb3 hk2.size
  have hn3 : n₀ ≤ w3.drew.heap.size := Nat.le_trans hn2 hb3.size
  have HPut := put_any ht n₀ c l k s w3.drew (hN3.below ((Below.refl _ _).drew)) hn3 hR (by omega)
  have HK3 := hid hk3
  clear hb3 hN2 hN3 hB2 hk2 hk3 HN HB
  go_wp2_with fail
  go_region_with (go_at_call 163; refine HPut.mono ?_; clear HPut; rintro e w4 ⟨v4, zs4, rfl, hE4, hz4, hne4, hl4, hm4, hb4⟩; have HE4 := hid hE4; have HZ4 := hid hz4; obtain ⟨g4, o4, cap4, c4, rfl, hc4, hg4, cc4, hN4⟩ := up_first (l := insK l k s) hE4 hz4 hne4)
  all_goals
    have hk4 : Keeps (fun g => g = b) w w4 := (HK3.out.drew).below hb4 (by have := HK3.out.size; exact this)
    have hB4 : TreeBox w4 b t (some ⟨c, 0, none⟩) (l.length + 1) := treeBox_below (W := w3.drew) hB3 hb4
    have e0 := hB4.c0
    have f0 := hB4.fz 0
    have hl4' : 0 < zs4.length := List.length_pos_iff.2 hne4
    have hl0 : (0 : Int) < (zs4.length : Int) := by omega
    have hq : zs4.length = 1 ∨ zs4.length = 2 := by omega
    clear hB3 d0 x0 x1 x2 hl3 hn3 HK3 hb4 hl4
    have HB4 := hid hB4
    clear hB4
    rcases hq with hq | hq
    · rw [hq] at hE4 hc4 hl0 ⊢
      clear hl4'
      go_wp2_with fail
      go_end0
      exact put_close1 HB4.out (by rw [HLN.out]; push_cast; rfl) (hN4 hq hm4) (insK_rise hR k s) (by rw [HLN.out]; omega) hk4
    · rw [hq] at hE4 hc4 hl0 ⊢
      clear hl4'
      go_upto_region 9 with fail
      have hB5 := HB4.out.set0 (some ⟨c4, 0, none⟩)
      have hE5 := hE4.keptX (X := fun g => g = b) (B := w4.setCell ⟨b, 0, none⟩ (.pointer (some ⟨c4, 0, none⟩))) (by simp) (set_keeps _) (fun g hg => by subst hg; exact HB4.out.noNode) (by simpa using hne4)
      have hz5 : ∀ z ∈ zs4, GoodTwig w4.heap.size (w4.setCell ⟨b, 0, none⟩ (.pointer (some ⟨c4, 0, none⟩))) (ht + 1) z := fun z h => (hz4 z h).keptX (X := fun g => g = b) (by simp) (set_keeps _) (fun g hg => by subst hg; exact HB4.out.noNode)
      have hk5 : Keeps (fun g => g = b) w (w4.setCell ⟨b, 0, none⟩ (.pointer (some ⟨c4, 0, none⟩))) := hk4.setCell (p := ⟨b, 0, none⟩) (.inl rfl) _
      have hs5 : (w4.setCell ⟨b, 0, none⟩ (.pointer (some ⟨c4, 0, none⟩))).heap.size = w4.heap.size := by simp
      clear hE4 hz4 hk4 e0 f0 HB4 cc4 hN4 HE4 HZ4 hg4
      generalize w4.setCell ⟨b, 0, none⟩ (.pointer (some ⟨c4, 0, none⟩)) = w5 at *
      rw [← hs5] at hE5 hz5
      clear hs5
      have hb6 : Below w5.heap.size w5 (w5.alloc (.cells #[.slice (some ⟨g4, o4, none⟩) 2 cap4] 229)) := (Below.refl _ _).alloc (Nat.le_refl _) _
      have e0 := (hb6.cell (p := ⟨b, 0, none⟩) hB5.lt).trans hB5.c0
      have f0 := (hb6.frozen (p := ⟨b, 0, none⟩) hB5.lt).trans (hB5.fz 0)
      have hlt5 := hB5.lt
      have HE5 := hid hE5
      have HZ5 := hid hz5
      clear hE5 hz5 hb6
      go_wp2_with fail
      go_end0
      exact put_close2 hB5 (by rw [HLN.out]; push_cast; rfl) HE5.out HZ5.out hne4 hm4 (insK_rise hR k s) (by rw [HLN.out]; omega) hk5

end Go.Proofs.YtbpnllhhmookcaaGreatDoor

/- Put of a tree: a key that is there; all of it. -/
namespace Go.Proofs.YtbpnllhhmookcaaGreatDoor
open Go.RowKit Go.Shelf

set_option maxRecDepth 8000 in
set_option maxHeartbeats 4000000 in
theorem treePut_old (n₀ b c ht : Nat) (t : TypeId) (l : List KV) (k : Int) (s : ByteArray) (w : World) (hB : TreeBox w b t (some ⟨c, 0, none⟩) l.length) (hR : RiseK l) (hn : n₀ ≤ w.heap.size) (hN : NodeAt n₀ w ht c l) (hL : l.length < 8000) (old : ByteArray) (hg0 : getK l k = some old) :
    Calls Tryz.prog 127 #[.pointer (some ⟨b, 0, none⟩), .int .u32 k, .string s] w (PutEnds b t (insK l k s) w) := by
  have hg := get_any n₀ (some ⟨c, 0, none⟩) l.length k l w ⟨hR, hn, .inr ⟨ht, c, rfl, hN⟩⟩
  have c0 := hB.c0
  have c1 := hB.c1
  have HB := hid hB
  have HN := hid hN
  have HG := hid hg0
  have HLN : Hid ((insK l k s).length = l.length) := hid (by rw [insK_len hR, hg0]; rfl)
  clear hB hN hg0
  go_enter Tryz.func127, Tryz.ntmps127
  go_upto_region 3 with (go_at_call 158; refine hg.mono ?_; clear hg; rintro e w1 ⟨rfl, hb1⟩; rw [HG.out]; have d1 := (hb1.cell (p := ⟨b, 1, none⟩) HB.out.lt).trans c1; have hB1 : TreeBox w1 b t (some ⟨c, 0, none⟩) l.length := treeBox_below HB.out hb1; have f1 := hB1.fz 1)
  have hN2 := HN.out.below (hb1.mono hn)
  have hB2 := hB1
  have hk2 : Keeps (fun g => g = b) w w1 := below_toKeeps hb1 (fun g => g = b)
  clear hB1 hb1 d1 f1 c0 c1
  obtain ⟨w2, rfl⟩ : ∃ w2, w2 = w1 := ⟨_, rfl⟩
  have hn2 : n₀ ≤ w2.heap.size := Nat.le_trans hn hk2.size
  go_upto_region 4 with fail
  have hb3 : Below w2.heap.size w2 (w2.alloc (.cells #[.int .u32 k, .string s, .pointer none] 226)) := (Below.refl _ _).alloc (Nat.le_refl _) _
  have hx3 : (w2.alloc (.cells #[.int .u32 k, .string s, .pointer none] 226)).heap[w2.heap.size]? = some (.cells #[.int .u32 k, .string s, .pointer none] 226) := World.alloc_heap_new w2 _
  generalize w2.alloc (.cells #[.int .u32 k, .string s, .pointer none] 226) = w3 at *
  have hB3 := treeBox_below hB2 hb3
  have d0 := hB3.c0
  have x0 : w3.cell? ⟨w2.heap.size, 0, none⟩ = some (.int .u32 k) := by simp only [World.cell?, hx3]; rfl
  have x1 : w3.cell? ⟨w2.heap.size, 1, none⟩ = some (.string s) := by simp only [World.cell?, hx3]; rfl
  have x2 : w3.cell? ⟨w2.heap.size, 2, none⟩ = some (.pointer none) := by simp only [World.cell?, hx3]; rfl
  clear hx3
  have hl3 := hB3.lt
  have hN3 := hN2.below (hb3.mono hn2)
  have hk3 := hk2.below hb3 hk2.size
  have hn3 : n₀ ≤ w3.drew.heap.size := Nat.le_trans hn2 hb3.size
  have HPut := put_any ht n₀ c l k s w3.drew (hN3.below ((Below.refl _ _).drew)) hn3 hR (by omega)
  have HK3 := hid hk3
  clear hb3 hN2 hN3 hB2 hk2 hk3 HN HB
  go_wp2_with fail
  go_region_with (go_at_call 163; refine HPut.mono ?_; clear HPut; rintro e w4 ⟨v4, zs4, rfl, hE4, hz4, hne4, hl4, hm4, hb4⟩; have HE4 := hid hE4; have HZ4 := hid hz4; obtain ⟨g4, o4, cap4, c4, rfl, hc4, hg4, cc4, hN4⟩ := up_first (l := insK l k s) hE4 hz4 hne4)
  all_goals
    have hk4 : Keeps (fun g => g = b) w w4 := (HK3.out.drew).below hb4 (by have := HK3.out.size; exact this)
    have hB4 : TreeBox w4 b t (some ⟨c, 0, none⟩) l.length := treeBox_below (W := w3.drew) hB3 hb4
    have e0 := hB4.c0
    have f0 := hB4.fz 0
    have hl4' : 0 < zs4.length := List.length_pos_iff.2 hne4
    have hl0 : (0 : Int) < (zs4.length : Int) := by omega
    have hq : zs4.length = 1 ∨ zs4.length = 2 := by omega
    clear hB3 d0 x0 x1 x2 hl3 hn3 HK3 hb4 hl4
    have HB4 := hid hB4
    clear hB4
    rcases hq with hq | hq
    · rw [hq] at hE4 hc4 hl0 ⊢
      clear hl4'
      go_wp2_with fail
      go_end0
      exact put_close1 HB4.out (by rw [HLN.out]) (hN4 hq hm4) (insK_rise hR k s) (by rw [HLN.out]; omega) hk4
    · rw [hq] at hE4 hc4 hl0 ⊢
      clear hl4'
      go_upto_region 9 with fail
      have hB5 := HB4.out.set0 (some ⟨c4, 0, none⟩)
      have hE5 := hE4.keptX (X := fun g => g = b) (B := w4.setCell ⟨b, 0, none⟩ (.pointer (some ⟨c4, 0, none⟩))) (by simp) (set_keeps _) (fun g hg => by subst hg; exact HB4.out.noNode) (by simpa using hne4)
      have hz5 : ∀ z ∈ zs4, GoodTwig w4.heap.size (w4.setCell ⟨b, 0, none⟩ (.pointer (some ⟨c4, 0, none⟩))) (ht + 1) z := fun z h => (hz4 z h).keptX (X := fun g => g = b) (by simp) (set_keeps _) (fun g hg => by subst hg; exact HB4.out.noNode)
      have hk5 : Keeps (fun g => g = b) w (w4.setCell ⟨b, 0, none⟩ (.pointer (some ⟨c4, 0, none⟩))) := hk4.setCell (p := ⟨b, 0, none⟩) (.inl rfl) _
      have hs5 : (w4.setCell ⟨b, 0, none⟩ (.pointer (some ⟨c4, 0, none⟩))).heap.size = w4.heap.size := by simp
      clear hE4 hz4 hk4 e0 f0 HB4 cc4 hN4 HE4 HZ4 hg4
      generalize w4.setCell ⟨b, 0, none⟩ (.pointer (some ⟨c4, 0, none⟩)) = w5 at *
      rw [← hs5] at hE5 hz5
      clear hs5
      have hb6 : Below w5.heap.size w5 (w5.alloc (.cells #[.slice (some ⟨g4, o4, none⟩) 2 cap4] 229)) := (Below.refl _ _).alloc (Nat.le_refl _) _
      have e0 := (hb6.cell (p := ⟨b, 0, none⟩) hB5.lt).trans hB5.c0
      have f0 := (hb6.frozen (p := ⟨b, 0, none⟩) hB5.lt).trans (hB5.fz 0)
      have hlt5 := hB5.lt
      have HE5 := hid hE5
      have HZ5 := hid hz5
      clear hE5 hz5 hb6
      go_wp2_with fail
      go_end0
      exact put_close2 hB5 (by rw [HLN.out]) HE5.out HZ5.out hne4 hm4 (insK_rise hR k s) (by rw [HLN.out]; omega) hk5

/-- Put, whatever the tree. -/
theorem treePut_any (n₀ b : Nat) (t : TypeId) (l : List KV) (k : Int) (s : ByteArray) (w : World) (h : TreeAt n₀ w b t l) (hL : l.length < 8000) :
    Calls Tryz.prog 127 #[.pointer (some ⟨b, 0, none⟩), .int .u32 k, .string s] w (PutEnds b t (insK l k s) w) := by
  obtain ⟨⟨r, hB, hT⟩, _⟩ := h
  obtain ⟨hR, hn, (⟨rfl, rfl⟩ | ⟨ht, c, rfl, hN⟩)⟩ := hT
  · exact treePut_nil n₀ b t k s w hB ⟨hR, hn, .inl ⟨rfl, rfl⟩⟩
  · cases hg : getK l k with
    | none => exact treePut_new n₀ b c ht t l k s w hB hR hn hN hL hg
    | some old => exact treePut_old n₀ b c ht t l k s w hB hR hn hN hL old hg

end Go.Proofs.YtbpnllhhmookcaaGreatDoor
