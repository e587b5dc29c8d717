/- The program's tree in memory: entries behind a slice, a node of some height, and the keys that it has. -/
import Derived.Test.YtbpnllhhmookcaaGreatDoorKk00
import Derived.Test.YtbpnllhhmookcaaGreatDoorKk02
import Derived.BigQuiet
import Derived.BigRegion
namespace Go.Proofs.YtbpnllhhmookcaaGreatDoor
open Go.RowKit

/-- An entry: its key, its text, the node below it. -/
structure Ent where
  key : Int
  val : ByteArray
  below : Option Addr

def Ent.cells (e : Ent) : List Value := [.int .u32 e.key, .string e.val, .pointer e.below]

/-- Entries behind a slice, below a block. -/
def EntsAt (n₀ : Nat) (W : World) (v : Value) (es : List Ent) : Prop :=
  ∃ g o cap, v = .slice (some ⟨g, o, none⟩) es.length cap ∧ es.length ≤ cap ∧ g < n₀ ∧ n₀ ≤ W.heap.size ∧ es.length < 1000000 ∧
    ∀ i (hi : i < es.length), W.cell? ⟨g, o + i * 3, none⟩ = some (.int .u32 es[i].key) ∧ W.cell? ⟨g, o + i * 3 + 1, none⟩ = some (.string es[i].val) ∧ W.cell? ⟨g, o + i * 3 + 2, none⟩ = some (.pointer es[i].below)

theorem EntsAt.below {n₀ : Nat} {A B : World} {v : Value} {es : List Ent} (h : EntsAt n₀ A v es) (hb : Below n₀ A B) : EntsAt n₀ B v es := by
  obtain ⟨g, o, cap, rfl, h1, h2, h3, h4, h5⟩ := h
  refine ⟨g, o, cap, rfl, h1, h2, Nat.le_trans h3 hb.size, h4, fun i hi => ?_⟩
  obtain ⟨a, b, c⟩ := h5 i hi
  exact ⟨(hb.cell (p := ⟨g, _, none⟩) h2).trans a, (hb.cell (p := ⟨g, _, none⟩) h2).trans b, (hb.cell (p := ⟨g, _, none⟩) h2).trans c⟩

theorem EntsAt.mono {n₀ n₁ : Nat} {A : World} {v : Value} {es : List Ent} (h : EntsAt n₀ A v es) (hn : n₀ ≤ n₁) (hs : n₁ ≤ A.heap.size) : EntsAt n₁ A v es := by
  obtain ⟨g, o, cap, rfl, h1, h2, h3, h4, h5⟩ := h
  exact ⟨g, o, cap, rfl, h1, by omega, hs, h4, h5⟩

/-- Rising keys. -/
def Rise (es : List Ent) : Prop := es.Pairwise (fun a b => a.key < b.key)

/-- A key and its text. -/
abbrev KV := Int × ByteArray
def Ent.kv (e : Ent) : KV := (e.key, e.val)

/-- A node of a height at a block: what it has below it. -/
def NodeAt (n₀ : Nat) (W : World) : Nat → Nat → List KV → Prop
  | 0, b, l => b < n₀ ∧ ∃ v es, W.cell? ⟨b, 0, none⟩ = some v ∧ EntsAt n₀ W v es ∧ es ≠ [] ∧ (∀ e ∈ es, e.below = none) ∧ l = es.map Ent.kv
  | h + 1, b, l => b < n₀ ∧ ∃ v es, ∃ ls : List (List KV), W.cell? ⟨b, 0, none⟩ = some v ∧ EntsAt n₀ W v es ∧ es ≠ [] ∧ ls.length = es.length ∧ l = ls.flatten ∧
      ∀ i (hi : i < es.length) (hj : i < ls.length), ∃ c, es[i].below = some ⟨c, 0, none⟩ ∧ NodeAt n₀ W h c ls[i] ∧ (ls[i].head?).map Prod.fst = some es[i].key

theorem NodeAt.below {n₀ : Nat} {A B : World} (hb : Below n₀ A B) : ∀ {h b : Nat} {l : List KV}, NodeAt n₀ A h b l → NodeAt n₀ B h b l
  | 0, b, l, ⟨h1, v, es, h2, h3, h4⟩ => ⟨h1, v, es, (hb.cell (p := ⟨b, 0, none⟩) h1).trans h2, h3.below hb, h4⟩
  | h + 1, b, l, ⟨h1, v, es, ls, h2, h3, h4, h5, h6, h7⟩ => ⟨h1, v, es, ls, (hb.cell (p := ⟨b, 0, none⟩) h1).trans h2, h3.below hb, h4, h5, h6, fun i hi hj => by
      obtain ⟨c, c1, c2, c3⟩ := h7 i hi hj
      exact ⟨c, c1, NodeAt.below hb c2, c3⟩⟩

theorem NodeAt.mono {n₀ n₁ : Nat} {A : World} (hn : n₀ ≤ n₁) (hs : n₁ ≤ A.heap.size) : ∀ {h b : Nat} {l : List KV}, NodeAt n₀ A h b l → NodeAt n₁ A h b l
  | 0, b, l, ⟨h1, v, es, h2, h3, h4⟩ => ⟨by omega, v, es, h2, h3.mono hn hs, h4⟩
  | h + 1, b, l, ⟨h1, v, es, ls, h2, h3, h4, h5, h6, h7⟩ => ⟨by omega, v, es, ls, h2, h3.mono hn hs, h4, h5, h6, fun i hi hj => by
      obtain ⟨c, c1, c2, c3⟩ := h7 i hi hj
      exact ⟨c, c1, NodeAt.mono hn hs c2, c3⟩⟩

theorem NodeAt.lt {n₀ : Nat} {A : World} : ∀ {h b : Nat} {l : List KV}, NodeAt n₀ A h b l → b < n₀
  | 0, _, _, h => h.1
  | _ + 1, _, _, h => h.1

/-- All that a node's cells say, whatever its height. -/
theorem NodeAt.ents {n₀ : Nat} {A : World} : ∀ {h b : Nat} {l : List KV}, NodeAt n₀ A h b l → ∃ v es, A.cell? ⟨b, 0, none⟩ = some v ∧ EntsAt n₀ A v es ∧ es ≠ [] ∧ (∀ i (hi : i < es.length), (es[i].below = none) = (h = 0))
  | 0, b, l, ⟨h1, v, es, h2, h3, h4, h5, h6⟩ => ⟨v, es, h2, h3, h4, fun i hi => by simp [h5 _ (List.getElem_mem hi)]⟩
  | h + 1, b, l, ⟨h1, v, es, ls, h2, h3, h4, h5, h6, h7⟩ => ⟨v, es, h2, h3, h4, fun i hi => by
      obtain ⟨c, c1, _⟩ := h7 i hi (by omega)
      simp [c1]⟩

end Go.Proofs.YtbpnllhhmookcaaGreatDoor

/- What Compare, way's closure, BinarySearchFunc and isLeaf return. -/
namespace Go.Proofs.YtbpnllhhmookcaaGreatDoor
open Go.RowKit

theorem isNaN_any (a : Int) (w : World) :
    Calls Tryz.prog 185 #[.int .u32 a] w fun e w' => e = .returned (.bool false) ∧ w' = w := by
  go_enter Tryz.func185, Tryz.ntmps185
  go_wp2
  go_ret
  simp

def cmpI (a b : Int) : Int := if a < b then -1 else if b < a then 1 else 0
theorem cmpI_lt {a b : Int} (h : a < b) : cmpI a b = -1 := by simp [cmpI, h]
theorem cmpI_gt {a b : Int} (h : b < a) : cmpI a b = 1 := by have : ¬ a < b := by omega
                                                             simp [cmpI, this, h]
theorem cmpI_eq {a b : Int} (h : a = b) : cmpI a b = 0 := by subst h; simp [cmpI]

theorem compare_any (a b : Int) (w : World) :
    Calls Tryz.prog 182 #[.int .u32 a, .int .u32 b] w fun e w' => e = .returned (.int .i64 (cmpI a b)) ∧ w' = w := by
  go_enter Tryz.func182, Tryz.ntmps182
  by_cases h1 : a < b
  · go_wp2_with (go_at_call 185; refine (isNaN_any _ _).mono ?_; rintro e w ⟨rfl, rfl⟩)
    go_ret
    exact ⟨by rw [cmpI_lt h1]; rfl, rfl⟩
  · by_cases h2 : b < a
    · go_wp2_with (go_at_call 185; refine (isNaN_any _ _).mono ?_; rintro e w ⟨rfl, rfl⟩)
      go_ret
      exact ⟨by rw [cmpI_gt h2]; rfl, rfl⟩
    · go_wp2_with (go_at_call 185; refine (isNaN_any _ _).mono ?_; rintro e w ⟨rfl, rfl⟩)
      go_ret
      exact ⟨by rw [cmpI_eq (by omega)]; rfl, rfl⟩

theorem way1_any (k t : Int) (s : ByteArray) (p : Option Addr) (w : World) :
    Calls Tryz.prog 181 #[.agg #[.int .u32 k, .string s, .pointer p], .int .u32 t] w fun e w' => e = .returned (.int .i64 (cmpI k t)) ∧ w' = w.alloc (.cells #[.int .u32 k, .string s, .pointer p] 226) := by
  go_enter Tryz.func181, Tryz.ntmps181
  go_wp2_with (go_at_call 182; refine (compare_any _ _ _).mono ?_; rintro e w' ⟨rfl, rfl⟩)
  go_ret
  exact ⟨rfl, rfl⟩

theorem isLeaf_any (n₀ h b : Nat) (l : List KV) (w : World) (hN : NodeAt n₀ w h b l) :
    Calls Tryz.prog 174 #[.pointer (some ⟨b, 0, none⟩)] w fun e w' => e = .returned (.bool (decide (h = 0))) ∧ w' = w := by
  obtain ⟨v, es, hc, ⟨g, o, cap, rfl, h1, h2, h3, h4, h5⟩, hne, hbe⟩ := hN.ents
  have hl : 0 < es.length := List.length_pos_iff.2 hne
  have c2 := (h5 0 hl).2.2
  simp only [Nat.zero_mul, Nat.add_zero] at c2
  have hb0 := hbe 0 hl
  have hl' : (0 : Int) < (es.length : Int) := by omega
  clear h5 hbe hN hne
  generalize es[0].below = bl at *
  clear hl
  generalize es.length = len at *
  go_enter Tryz.func174, Tryz.ntmps174
  by_cases h0 : h = 0
  · have : bl = none := by rw [hb0]; exact h0
    subst this
    clear hb0
    go_wp2
    go_ret
    simp [h0]
  · obtain ⟨q, rfl⟩ : ∃ q, bl = some q := by
      cases bl with
      | none => exact absurd (hb0 ▸ rfl : h = 0) h0
      | some q => exact ⟨q, rfl⟩
    clear hb0
    go_wp2
    go_ret
    simp [h0]

end Go.Proofs.YtbpnllhhmookcaaGreatDoor

/- What BinarySearchFunc and way return. -/
namespace Go.Proofs.YtbpnllhhmookcaaGreatDoor
open Go.RowKit

/-- i entries have lesser keys, the others do not. -/
def Cut (es : List Ent) (t : Int) (i : Nat) : Prop := i ≤ es.length ∧ (∀ x (hx : x < es.length), x < i → es[x].key < t) ∧ (∀ x (hx : x < es.length), i ≤ x → t ≤ es[x].key)

theorem half (i j : Nat) (h : i + j < 2000000) : IntKind.i64.wrap (((i + j) / 2 : Nat) : Int) = (((i + j) / 2 : Nat) : Int) := wraps63 _ (by omega) (by omega)

theorem rise_lt {es : List Ent} (h : Rise es) {i j : Nat} (hi : i < es.length) (hj : j < es.length) (hij : i < j) : es[i].key < es[j].key := (List.pairwise_iff_getElem.1 h) i j hi hj hij
theorem rise_le {es : List Ent} (h : Rise es) {i j : Nat} (hi : i < es.length) (hj : j < es.length) (hij : i ≤ j) : es[i].key ≤ es[j].key := by
  rcases Nat.lt_or_eq_of_le hij with hl | rfl
  · exact Int.le_of_lt (rise_lt h hi hj hl)
  · exact Int.le_refl _

set_option maxHeartbeats 1000000 in
theorem search_any (n₀ : Nat) (v : Value) (es : List Ent) (t : Int) (w : World) (hE : EntsAt n₀ w v es) (hR : Rise es) :
    Calls Tryz.prog 180 #[v, .int .u32 t, .func (.func 181) #[] #[]] w fun e w' => ∃ i : Nat, e = .returned (.tuple #[.int .i64 i, .bool (decide (∃ h : i < es.length, es[i].key = t))]) ∧ Cut es t i ∧ Below w.heap.size w w' := by
  have HE := hid hE
  obtain ⟨g, o, cap, rfl, h1, h2, h3, h4, h5⟩ := hE
  have H5 := hid h5
  clear h5
  go_enter Tryz.func180, Tryz.ntmps180
  go_wp2_with fail
  go_loopg [9, 10] es.length (fun gk i j wr => ∃ a b : Nat, i = .int .i64 a ∧ j = .int .i64 b ∧ a + gk = b ∧ b ≤ es.length ∧ Hid ((∀ x (hx : x < es.length), x < a → es[x].key < t) ∧ (∀ x (hx : x < es.length), b ≤ x → t ≤ es[x].key)) ∧ Below w.heap.size w wr)
  case atStart => exact ⟨0, es.length, rfl, rfl, by omega, Nat.le_refl _, hid ⟨fun x hx h => by omega, fun x hx h => by omega⟩, Below.refl _ _⟩
  case round =>
    obtain ⟨a, b, rfl, rfl, hab, hb, HH, hbel⟩ := hrel
    have hsz := hbel.size
    have hgw : g < w.heap.size := by omega
    by_cases hlt : a < b
    · have hlt' : (a : Int) < (b : Int) := by omega
      have hle : (a + b) / 2 < es.length := by omega
      have hle' : ((a : Int) + (b : Int)) / 2 < (es.length : Int) := by omega
      have c0 := (hbel.cell (p := ⟨g, o + (a + b) / 2 * 3, none⟩) hgw).trans (H5.out _ hle).1
      have c1 := (hbel.cell (p := ⟨g, o + (a + b) / 2 * 3 + 1, none⟩) hgw).trans (H5.out _ hle).2.1
      have c2 := (hbel.cell (p := ⟨g, o + (a + b) / 2 * 3 + 2, none⟩) hgw).trans (H5.out _ hle).2.2
      have HK : Hid (∀ x (hx : x < es.length), (x ≤ (a + b) / 2 → es[x].key ≤ (es[(a + b) / 2]'hle).key) ∧ ((a + b) / 2 ≤ x → (es[(a + b) / 2]'hle).key ≤ es[x].key)) := hid fun x hx => ⟨fun h => rise_le hR hx hle h, fun h => rise_le hR hle hx h⟩
      generalize (es[(a + b) / 2]'hle).key = ky at *
      generalize (es[(a + b) / 2]'hle).val = vy at *
      generalize (es[(a + b) / 2]'hle).below = py at *
      by_cases hk : ky < t
      · have hcm := cmpI_lt hk
        go_wp2_with (go_at_call 181; refine (way1_any _ _ _ _ _).mono ?_; rintro e w' ⟨rfl, rfl⟩; rw [hcm])
        go_roundg (b - ((a + b) / 2 + 1))
        case measure => omega
        case rel => exact ⟨(a + b) / 2 + 1, b, by go_num, rfl, by omega, hb, hid ⟨fun x hx h => by have := (HK.out x hx).1 (by omega); omega, HH.out.2⟩, hbel.alloc hsz _⟩
      · have hcm : cmpI ky t = 0 ∨ cmpI ky t = 1 := by
          by_cases he : ky = t
          · exact .inl (cmpI_eq he)
          · exact .inr (cmpI_gt (by omega))
        rcases hcm with hcm | hcm
        · go_wp2_with (go_at_call 181; refine (way1_any _ _ _ _ _).mono ?_; rintro e w' ⟨rfl, rfl⟩; rw [hcm])
          go_roundg ((a + b) / 2 - a)
          case measure => omega
          case rel => exact ⟨a, (a + b) / 2, rfl, by go_num, by omega, by omega, hid ⟨HH.out.1, fun x hx h => by have := (HK.out x hx).2 (by omega); omega⟩, hbel.alloc hsz _⟩
        · go_wp2_with (go_at_call 181; refine (way1_any _ _ _ _ _).mono ?_; rintro e w' ⟨rfl, rfl⟩; rw [hcm])
          go_roundg ((a + b) / 2 - a)
          case measure => omega
          case rel => exact ⟨a, (a + b) / 2, rfl, by go_num, by omega, by omega, hid ⟨HH.out.1, fun x hx h => by have := (HK.out x hx).2 (by omega); omega⟩, hbel.alloc hsz _⟩
    · obtain rfl : a = b := by omega
      have HC : Hid (Cut es t a) := hid ⟨hb, HH.out.1, HH.out.2⟩
      by_cases hle : a < es.length
      · have hle' : (a : Int) < (es.length : Int) := by omega
        have c0 := (hbel.cell (p := ⟨g, o + a * 3, none⟩) hgw).trans (H5.out _ hle).1
        have c1 := (hbel.cell (p := ⟨g, o + a * 3 + 1, none⟩) hgw).trans (H5.out _ hle).2.1
        have c2 := (hbel.cell (p := ⟨g, o + a * 3 + 2, none⟩) hgw).trans (H5.out _ hle).2.2
        have HT : Hid (t ≤ (es[a]'hle).key) := hid (HH.out.2 a hle (Nat.le_refl _))
        by_cases hk : (es[a]'hle).key = t
        · have HD : Hid (decide (∃ h : a < es.length, es[a].key = t) = true) := hid (decide_eq_true ⟨hle, hk⟩)
          have hcm := cmpI_eq hk
          generalize (es[a]'hle).key = ky at *
          generalize (es[a]'hle).val = vy at *
          generalize (es[a]'hle).below = py at *
          clear HT
          subst hk
          go_wp2_with (go_at_call 181; refine (way1_any _ _ _ _ _).mono ?_; rintro e w' ⟨rfl, rfl⟩; rw [hcm])
          go_ret2
          exact ⟨a, by rw [HD.out]; rfl, HC.out, hbel.alloc hsz _⟩
        · have HD : Hid (decide (∃ h : a < es.length, es[a].key = t) = false) := hid (decide_eq_false (by rintro ⟨_, h⟩; exact hk h))
          have hcm := cmpI_gt (show t < (es[a]'hle).key by have := HT.out; omega)
          generalize (es[a]'hle).key = ky at *
          generalize (es[a]'hle).val = vy at *
          generalize (es[a]'hle).below = py at *
          go_wp2_with (go_at_call 181; refine (way1_any _ _ _ _ _).mono ?_; rintro e w' ⟨rfl, rfl⟩; rw [hcm])
          go_ret2
          exact ⟨a, by rw [HD.out]; rfl, HC.out, hbel.alloc hsz _⟩
      · have HD : Hid (decide (∃ h : a < es.length, es[a].key = t) = false) := hid (decide_eq_false (by rintro ⟨h, _⟩; exact hle h))
        have hle' : (es.length : Int) ≤ (a : Int) := by omega
        go_wp2_with fail
        go_ret2
        exact ⟨a, by rw [HD.out]; rfl, HC.out, hbel⟩

end Go.Proofs.YtbpnllhhmookcaaGreatDoor

/- What way returns. -/
namespace Go.Proofs.YtbpnllhhmookcaaGreatDoor
open Go.RowKit

/-- Where way begins: behind it no key below t is missed. -/
def wayI (h : Nat) (es : List Ent) (t : Int) (i : Nat) : Prop := i ≤ es.length ∧ ((Cut es t i ∧ (h = 0 ∨ ∃ hi : i < es.length, es[i].key = t)) ∨ (h ≠ 0 ∧ ∃ j, Cut es t j ∧ i = j - 1 ∧ ¬ ∃ hj : j < es.length, es[j].key = t))

theorem way_any (n₀ ht b : Nat) (l : List KV) (v : Value) (es : List Ent) (t : Int) (w : World) (hN : NodeAt n₀ w ht b l) (hc : w.cell? ⟨b, 0, none⟩ = some v) (hE : EntsAt n₀ w v es) (hR : Rise es) :
    Calls Tryz.prog 173 #[.pointer (some ⟨b, 0, none⟩), .int .u32 t] w fun e w' => ∃ i : Nat, e = .returned (.int .i64 i) ∧ wayI ht es t i ∧ Below w.heap.size w w' := by
  have HE := hid hE
  have HN := hid hN
  obtain ⟨g, o, cap, rfl, h1, h2, h3, h4, h5⟩ := hE
  clear h5 hN
  go_enter Tryz.func173, Tryz.ntmps173
  have hs := search_any n₀ _ es t w HE.out hR
  go_wp2_with (first
    | (go_at_call 180; refine hs.mono ?_; clear hs; rintro e w' ⟨i, rfl, hC, hb⟩; have hi := hC.1; by_cases hx : ∃ h : i < es.length, es[i].key = t <;> (first | rw [decide_eq_true hx] | rw [decide_eq_false hx]))
    | (go_at_call 174; refine (isLeaf_any n₀ ht b l _ (HN.out.below (hb.mono h3))).mono ?_; rintro e w2 ⟨rfl, rfl⟩; rcases Nat.eq_zero_or_pos ht with h0 | h0; have hd : decide (ht = 0) = true := by simpa using h0))
  all_goals go_ret
  all_goals first
    | exact ⟨i, rfl, ⟨hi, .inl ⟨hC, .inr hx⟩⟩, hb⟩
    | exact ⟨i, rfl, ⟨hi, .inl ⟨hC, .inl h0⟩⟩, hb⟩
    | exact ⟨0, rfl, ⟨by omega, .inr ⟨by omega, i, hC, by omega, hx⟩⟩, hb⟩
    | exact ⟨i - 1, by rw [show ((i - 1 : Nat) : Int) = (i : Int) - 1 by omega]; rfl, ⟨by omega, .inr ⟨by omega, i, hC, rfl, hx⟩⟩, hb⟩

theorem cut_exists (t : Int) : ∀ (es : List Ent), Rise es → ∃ i, Cut es t i
  | [], _ => ⟨0, by simp, by simp, by simp⟩
  | a :: r, hR => by
    obtain ⟨h1, h2⟩ := List.pairwise_cons.1 hR
    by_cases ha : a.key < t
    · obtain ⟨i, hi, hlo, hup⟩ := cut_exists t r h2
      refine ⟨i + 1, by simpa using hi, fun x hx h => ?_, fun x hx h => ?_⟩
      · cases x with
        | zero => exact ha
        | succ x => exact hlo x (by simpa using hx) (by omega)
      · cases x with
        | zero => omega
        | succ x => exact hup x (by simpa using hx) (by omega)
    · refine ⟨0, by simp, fun x hx h => by omega, fun x hx h => ?_⟩
      cases x with
      | zero => exact Int.not_lt.1 ha
      | succ x =>
        have hx' : x < r.length := by simpa using hx
        have := h1 _ (List.getElem_mem hx')
        show t ≤ (r[x]'hx').key
        omega
theorem cut_one {es : List Ent} {t : Int} {i j : Nat} (h : Cut es t i) (k : Cut es t j) : i = j := by
  obtain ⟨a1, a2, a3⟩ := h
  obtain ⟨b1, b2, b3⟩ := k
  rcases Nat.lt_trichotomy i j with hl | he | hg
  · have := a3 i (by omega) (Nat.le_refl _); have := b2 i (by omega) hl; omega
  · exact he
  · have := b3 j (by omega) (Nat.le_refl _); have := a2 j (by omega) hg; omega
theorem way_exists (ht : Nat) {es : List Ent} (hR : Rise es) (t : Int) : ∃ i, wayI ht es t i := by
  obtain ⟨i, hi⟩ := cut_exists t es hR
  by_cases hx : ∃ h : i < es.length, es[i].key = t
  · exact ⟨i, hi.1, .inl ⟨hi, .inr hx⟩⟩
  · by_cases h0 : ht = 0
    · exact ⟨i, hi.1, .inl ⟨hi, .inl h0⟩⟩
    · exact ⟨i - 1, by have := hi.1; omega, .inr ⟨h0, i, hi, rfl, hx⟩⟩
theorem way_one {ht : Nat} {es : List Ent} {t : Int} {i j : Nat} (h : wayI ht es t i) (k : wayI ht es t j) : i = j := by
  obtain ⟨_, ⟨c1, o1⟩ | ⟨z1, m1, c1, e1, n1⟩⟩ := h <;> obtain ⟨_, ⟨c2, o2⟩ | ⟨z2, m2, c2, e2, n2⟩⟩ := k
  · exact cut_one c1 c2
  · rcases o1 with h | h
    · exact absurd h z2
    · have := cut_one c1 c2; subst this; exact absurd h n2
  · rcases o2 with h | h
    · exact absurd h z1
    · have := cut_one c1 c2; subst this; exact absurd h n1
  · have := cut_one c1 c2; omega
theorem way_inner {ht : Nat} {es : List Ent} {t : Int} {i : Nat} (h : wayI ht es t i) (h0 : ht ≠ 0) (hne : es ≠ []) : i < es.length := by
  have hl := List.length_pos_iff.2 hne
  obtain ⟨_, ⟨c1, o1⟩ | ⟨z1, m1, c1, e1, n1⟩⟩ := h
  · rcases o1 with h | ⟨h, _⟩
    · exact absurd h h0
    · exact h
  · have := c1.1; omega

/-- way, where it is known where it begins. -/
theorem way_at (n₀ ht b : Nat) (l : List KV) (v : Value) (es : List Ent) (t : Int) (w : World) (hN : NodeAt n₀ w ht b l) (hc : w.cell? ⟨b, 0, none⟩ = some v) (hE : EntsAt n₀ w v es) (hR : Rise es) (i : Nat) (hi : wayI ht es t i) :
    Calls Tryz.prog 173 #[.pointer (some ⟨b, 0, none⟩), .int .u32 t] w fun e w' => e = .returned (.int .i64 i) ∧ Below w.heap.size w w' :=
  (way_any n₀ ht b l v es t w hN hc hE hR).mono fun e w' ⟨j, he, hj, hb⟩ => ⟨by rw [way_one hi hj]; exact he, hb⟩

end Go.Proofs.YtbpnllhhmookcaaGreatDoor
