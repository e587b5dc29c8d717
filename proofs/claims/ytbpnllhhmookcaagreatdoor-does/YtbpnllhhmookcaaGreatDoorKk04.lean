/- Plain mathematics of walk: the keys between two, part by part. -/
import Derived.Test.YtbpnllhhmookcaaGreatDoorKk03
import Derived.Deep.CutRange
namespace Go.Proofs.YtbpnllhhmookcaaGreatDoor

def RiseK (l : List KV) : Prop := l.Pairwise (fun a b => a.1 < b.1)

/-- The keys from one to another. -/
def sel (fr tt : Int) (l : List KV) : List KV := l.filter fun x => decide (fr ≤ x.1 ∧ x.1 ≤ tt)
theorem sel_append (fr tt : Int) (a b : List KV) : sel fr tt (a ++ b) = sel fr tt a ++ sel fr tt b := by simp [sel]
theorem sel_none {fr tt : Int} {l : List KV} (h : ∀ x ∈ l, x.1 < fr ∨ tt < x.1) : sel fr tt l = [] := by
  unfold sel; rw [List.filter_eq_nil_iff]; intro x hx; have := h x hx; simp; omega
theorem sel_one {fr tt : Int} {x : KV} (h1 : fr ≤ x.1) (h2 : x.1 ≤ tt) : sel fr tt [x] = [x] := by simp [sel, h1, h2]

/-- What a node has, part by part: a key each in a leaf, what is below each entry else. -/
structure Parts (es : List Ent) (ls : List (List KV)) (l : List KV) : Prop where
  len : ls.length = es.length
  flat : l = ls.flatten
  head : ∀ i (hi : i < es.length) (hj : i < ls.length), (ls[i].head?).map Prod.fst = some es[i].key
  rise : RiseK l

theorem flat_take {α : Type} (ls : List (List α)) (i : Nat) (hi : i < ls.length) : (ls.take (i + 1)).flatten = (ls.take i).flatten ++ ls[i] := by
  rw [← List.take_append_getElem hi, List.flatten_append]; simp
theorem flat_split {α : Type} (ls : List (List α)) (i : Nat) : ls.flatten = (ls.take i).flatten ++ (ls.drop i).flatten := by
  rw [← List.flatten_append, List.take_append_drop]
theorem mem_take_flat {α : Type} {ls : List (List α)} {i : Nat} {x : α} (h : x ∈ (ls.take i).flatten) : ∃ j, ∃ hj : j < ls.length, j < i ∧ x ∈ ls[j] := by
  rw [List.mem_flatten] at h
  obtain ⟨p, hp, hx⟩ := h
  obtain ⟨j, hj, rfl⟩ := List.mem_iff_getElem.1 hp
  rw [List.length_take] at hj
  exact ⟨j, by omega, by omega, by simpa using hx⟩
theorem mem_drop_flat {α : Type} {ls : List (List α)} {i : Nat} {x : α} (h : x ∈ (ls.drop i).flatten) : ∃ j, ∃ hj : j < ls.length, i ≤ j ∧ x ∈ ls[j] := by
  rw [List.mem_flatten] at h
  obtain ⟨p, hp, hx⟩ := h
  obtain ⟨j, hj, rfl⟩ := List.mem_iff_getElem.1 hp
  rw [List.length_drop] at hj
  exact ⟨i + j, by omega, by omega, by simpa using hx⟩

namespace Parts
variable {es : List Ent} {ls : List (List KV)} {l : List KV}

theorem cross (h : Parts es ls l) {i j : Nat} (hi : i < ls.length) (hj : j < ls.length) (hij : i < j) {x y : KV} (hx : x ∈ ls[i]) (hy : y ∈ ls[j]) : x.1 < y.1 := by
  have := h.rise
  rw [h.flat, RiseK, List.pairwise_flatten] at this
  exact (List.pairwise_iff_getElem.1 this.2) i j hi hj hij x hx y hy
theorem part (h : Parts es ls l) {i : Nat} (hi : i < ls.length) : RiseK ls[i] := by
  have := h.rise
  rw [h.flat, RiseK, List.pairwise_flatten] at this
  exact this.1 _ (List.getElem_mem hi)
theorem headKv (h : Parts es ls l) {i : Nat} (hi : i < es.length) (hj : i < ls.length) : ∃ x, x ∈ ls[i] ∧ x.1 = es[i].key ∧ ls[i].head? = some x := by
  have hh := h.head i hi hj
  cases hp : ls[i] with
  | nil => rw [hp] at hh; simp at hh
  | cons x r => rw [hp] at hh; exact ⟨x, by simp, by simpa using hh, rfl⟩
theorem least (h : Parts es ls l) {i : Nat} (hi : i < es.length) (hj : i < ls.length) {y : KV} (hy : y ∈ ls[i]) : es[i].key ≤ y.1 := by
  obtain ⟨x, hx, hk, hd⟩ := h.headKv hi hj
  have hr := h.part hj
  cases hp : ls[i] with
  | nil => rw [hp] at hx; simp at hx
  | cons z r =>
    rw [hp] at hd hr hy
    simp at hd; subst hd
    rcases List.mem_cons.1 hy with rfl | hm
    · omega
    · have := List.rel_of_pairwise_cons hr hm; omega
theorem riseE (h : Parts es ls l) : Rise es := by
  refine List.pairwise_iff_getElem.2 fun i j hi hj hij => ?_
  obtain ⟨x, hx, hk, _⟩ := h.headKv hi (by rw [h.len]; exact hi)
  obtain ⟨y, hy, hk', _⟩ := h.headKv hj (by rw [h.len]; exact hj)
  have := h.cross _ _ hij hx hy
  omega
/-- Behind an entry all is above it. -/
theorem above (h : Parts es ls l) {i : Nat} (hi : i < es.length) {tt : Int} (hk : tt < es[i].key) (fr : Int) : sel fr tt l = sel fr tt (ls.take i).flatten := by
  rw [h.flat, flat_split ls i, sel_append, sel_none (l := (ls.drop i).flatten), List.append_nil]
  · intro x hx
    obtain ⟨j, hj, hij, hm⟩ := mem_drop_flat hx
    right
    have hl := h.least (by rw [← h.len]; exact hj) hj hm
    rcases Nat.lt_or_eq_of_le hij with hlt | rfl
    · have := rise_lt h.riseE hi (by rw [← h.len]; exact hj) hlt; omega
    · omega
/-- Behind one that is above. -/
theorem aboveIn (h : Parts es ls l) {i : Nat} (hj : i < ls.length) {tt : Int} (hx : ∃ x ∈ ls[i], tt < x.1) (fr : Int) : sel fr tt l = sel fr tt (ls.take (i + 1)).flatten := by
  obtain ⟨x, hx, hk⟩ := hx
  rw [h.flat, flat_split ls (i + 1), sel_append, sel_none (l := (ls.drop (i + 1)).flatten), List.append_nil]
  intro y hy
  obtain ⟨j, hj', hij, hm⟩ := mem_drop_flat hy
  have := h.cross hj hj' (by omega) hx hm
  right; omega
/-- Ahead of where way begins nothing is to come. -/
theorem start (h : Parts es ls l) {ht i : Nat} {fr : Int} (hw : wayI ht es fr i) (h0 : ht = 0 → ∀ j (hj : j < es.length) (hl : j < ls.length), ls[j] = [es[j].kv]) (tt : Int) : sel fr tt (ls.take i).flatten = [] := by
  refine sel_none fun x hx => .inl ?_
  obtain ⟨j, hj, hij, hm⟩ := mem_take_flat hx
  have hje : j < es.length := by rw [← h.len]; exact hj
  have key : (hi : i < es.length) → es[i].key ≤ fr → x.1 < fr := fun hi hk => by
    obtain ⟨y, hy, hky, _⟩ := h.headKv hi (by rw [h.len]; exact hi)
    have := h.cross hj _ hij hm hy; omega
  obtain ⟨hle, ⟨⟨_, hc, _⟩, hor⟩ | ⟨h1, k, ⟨hk0, hk1, hk2⟩, rfl, hno⟩⟩ := hw
  · rcases hor with hz | ⟨hi, hk⟩
    · rw [h0 hz j hje hj] at hm
      simp at hm; subst hm
      exact hc j hje hij
    · exact key hi (by omega)
  · have hi : k - 1 < es.length := by omega
    exact key hi (by have := hk1 (k - 1) hi (by omega); omega)
/-- In a leaf all behind where way begins is not below. -/
theorem startLeaf {ht i : Nat} {fr : Int} (hw : wayI ht es fr i) (hz : ht = 0) {j : Nat} (hj : j < es.length) (hij : i ≤ j) : fr ≤ es[j].key := by
  obtain ⟨hle, ⟨⟨_, _, hc⟩, _⟩ | ⟨h1, _⟩⟩ := hw
  · exact hc j hj hij
  · omega
end Parts

/-- A node's parts. -/
theorem NodeAt.parts {n₀ : Nat} {A : World} : ∀ {h b : Nat} {l : List KV}, NodeAt n₀ A h b l → RiseK l → b < n₀ ∧ ∃ v es ls, A.cell? ⟨b, 0, none⟩ = some v ∧ EntsAt n₀ A v es ∧ es ≠ [] ∧ Parts es ls l ∧
    (h = 0 → ∀ j (hj : j < es.length) (hl : j < ls.length), ls[j] = [es[j].kv] ∧ es[j].below = none) ∧ (∀ h', h = h' + 1 → ∀ j (hj : j < es.length) (hl : j < ls.length), ∃ c, es[j].below = some ⟨c, 0, none⟩ ∧ NodeAt n₀ A h' c ls[j])
  | 0, b, l, ⟨h1, v, es, h2, h3, h4, h5, h6⟩, hr => ⟨h1, v, es, es.map (fun e => [e.kv]), h2, h3, h4, ⟨by simp, by rw [h6]; clear h6 h5 h4 h3; induction es with | nil => rfl | cons a r ih => simp [ih], fun i hi hj => by simp [Ent.kv], hr⟩, fun _ j hj hl => ⟨by simp, h5 _ (List.getElem_mem hj)⟩, fun h' e => by omega⟩
  | h + 1, b, l, ⟨h1, v, es, ls, h2, h3, h4, h5, h6, h7⟩, hr => ⟨h1, v, es, ls, h2, h3, h4, ⟨h5, h6, fun i hi hj => by obtain ⟨c, _, _, c3⟩ := h7 i hi hj; exact c3, hr⟩, fun e => by omega, fun h' e j hj hl => by
      obtain rfl : h = h' := by omega
      obtain ⟨c, c1, c2, _⟩ := h7 j hj hl; exact ⟨c, c1, c2⟩⟩

end Go.Proofs.YtbpnllhhmookcaaGreatDoor

/- walk: what a node hands to yield. -/
namespace Go.Proofs.YtbpnllhhmookcaaGreatDoor
open Go.RowKit Go.Shelf

theorem below_grown {w w' : World} (h : Below w.heap.size w w') : w.grownBy w' none := ⟨h.os, h.tape, h.output, h.size, fun k hk _ => h.block k hk⟩

def encKV (x : KV) : Array Value := #[.int .u32 x.1, .string x.2]

/-- What the rounds of a range over keys promise. -/
def Rounds (y n₀ : Nat) (xs : List KV) (J Jx : List KV → World → Prop) : Prop :=
  ∀ q x W1, (q ++ [x]) <+: xs → J q W1 → YieldAt Fence.wide 0 Tryz.prog y (encKV x) W1 fun e W' =>
    (e = .returned (.bool true) ∧ J (q ++ [x]) W' ∧ Below n₀ W1 W') ∨ (e = .returned (.bool false) ∧ Jx (q ++ [x]) W')

def WalkEnds (n₀ : Nat) (fr tt : Int) (l pre : List KV) (J Jx : List KV → World → Prop) (W : World) (e : Ending) (W' : World) : Prop :=
  (e = .returned (.bool true) ∧ J (pre ++ sel fr tt l) W' ∧ Below n₀ W W') ∨
  (e = .returned (.bool false) ∧ J (pre ++ sel fr tt l) W' ∧ Below n₀ W W' ∧ ∃ x ∈ l, tt < x.1) ∨
  (e = .returned (.bool false) ∧ ∃ q, q <+: sel fr tt l ∧ Jx (pre ++ q) W')

set_option maxRecDepth 8000 in
set_option maxHeartbeats 4000000 in
theorem walk_leaf (y n₀ B : Nat) (fr tt : Int) (xs : List KV) (J Jx : List KV → World → Prop) (hJ : OwnFrom B J) (hY : Rounds y n₀ xs J Jx)
    (b : Nat) (l pre : List KV) (W : World) (hN : NodeAt n₀ W 0 b l) (hR : RiseK l) (hp : (pre ++ sel fr tt l) <+: xs) (h0 : J pre W) :
      Calls Tryz.prog 178 #[.pointer (some ⟨b, 0, none⟩), .int .u32 fr, .int .u32 tt, .func (.yield y) #[] #[]] W (WalkEnds n₀ fr tt l pre J Jx W) := by
  obtain ⟨hb, v, es, ls, hc, hE, hne, hP, hz, _⟩ := hN.parts hR
  have hdr : Below n₀ W W.drew := (Below.refl n₀ W).drew
  obtain ⟨i0, hi0⟩ := way_exists 0 hP.riseE fr
  have hw := way_at n₀ _ b l v es fr W.drew (hN.below hdr) hc (hE.below hdr) hP.riseE i0 hi0
  have hil := hi0.1
  have hst := hP.start hi0 (fun _ j hj hl => (hz rfl j hj hl).1) tt
  have HW := hid (fun (j : Nat) (hj : j < es.length) (hij : i0 ≤ j) => Parts.startLeaf hi0 rfl hj hij)
  clear hdr hi0
  have HE := hid hE
  have HP := hid hP
  have HZ := hid (hz rfl)
  obtain ⟨g, o, cap, rfl, h1, h2, h3, h4, h5⟩ := hE
  have H5 := hid h5
  have HY := hid hY
  clear h5 hP hz hY hN
  go_enter Tryz.func178, Tryz.ntmps178
  go_upto_region 1 with fail
  go_cut [18, 19, 20] from 11 to 20 (fun s n i wx => ∃ ob : Nat, s = .slice (some ⟨g, ob, none⟩) (es.length - i0) (cap - i0) ∧ (i0 < es.length → ob = o + i0 * 3) ∧ n = .int .i64 ((es.length - i0 : Nat) : Int) ∧ i = .int .i64 0 ∧ Below W.heap.size W wx)
  case first =>
    have hbw : b < W.drew.heap.size := by show b < W.heap.size; omega
    rcases Nat.lt_or_eq_of_le (show i0 ≤ cap by omega) with hcc | hcc
    · go_region_with (go_at_call 173; refine hw.mono ?_; clear hw; rintro e w' ⟨rfl, hbel⟩; have hc2 := (hbel.cell (p := ⟨b, 0, none⟩) hbw).trans hc)
      all_goals (go_wp2_with fail; go_meet; exact ⟨_, rfl, fun _ => rfl, rfl, rfl, ((Below.refl W.heap.size W).drew).trans hbel⟩)
    · have hce : es.length = cap := by omega
      have HNo : Hid (i0 < es.length → False) := hid (fun h => by omega)
      subst hcc
      clear h1
      go_region_with (go_at_call 173; refine hw.mono ?_; clear hw; rintro e w' ⟨rfl, hbel⟩; have hc2 := (hbel.cell (p := ⟨b, 0, none⟩) hbw).trans hc)
      all_goals (go_wp2_with fail; go_meet; exact ⟨o, by simp [hce], fun h => (HNo.out h).elim, by simp [hce], rfl, ((Below.refl W.heap.size W).drew).trans hbel⟩)
  case rest =>
    obtain ⟨ob, rfl, hob, rfl, rfl, hbel⟩ := hcut
    clear hc hw
    have hWc : Below n₀ W wc := (show Below W.heap.size W wc from hbel).mono h3
    have hJc : J (pre ++ sel fr tt (ls.take (i0 + 0)).flatten) wc := by
      rw [Nat.add_zero, hst, List.append_nil]
      exact hJ pre W wc none h0 (below_grown hbel) (fun r e => by cases e)
    clear hbel h0
    go_wp2_with fail
    go_loopg [20] (es.length - i0) (fun gk i wr => ∃ m : Nat, m + gk = es.length - i0 ∧ i = .int .i64 m ∧ J (pre ++ sel fr tt (ls.take (i0 + m)).flatten) wr ∧ Below n₀ W wr)
    case atStart => exact ⟨0, by omega, rfl, hJc, hWc⟩
    case round =>
      clear hJc hWc
      obtain ⟨m, hm, rfl, hJm, hbr⟩ := hrel
      have HM := hid hm
      clear hm
      have hsr := hbr.size
      by_cases hlt : m < es.length - i0
      · have hk : i0 + m < es.length := by omega
        have hkl : i0 + m < ls.length := by rw [HP.out.len]; exact hk
        obtain rfl := hob (by omega)
        have eo : o + i0 * 3 + m * 3 = o + (i0 + m) * 3 := by omega
        have c0 := (hbr.cell (p := ⟨g, o + (i0 + m) * 3, none⟩) h2).trans (H5.out _ hk).1
        have c1 := (hbr.cell (p := ⟨g, o + (i0 + m) * 3 + 1, none⟩) h2).trans (H5.out _ hk).2.1
        have c2 := (hbr.cell (p := ⟨g, o + (i0 + m) * 3 + 2, none⟩) h2).trans (H5.out _ hk).2.2
        rw [← eo] at c0 c1 c2
        clear eo hob
        have hlt' : (m : Int) < ((es.length - i0 : Nat) : Int) := by omega
        have HA := hid (fun (q : tt < (es[i0 + m]'hk).key) => HP.out.above hk q fr)
        have HF := hid (flat_take ls (i0 + m) hkl)
        have HX := hid (HP.out.headKv hk hkl)
        have HL := hid (HW.out (i0 + m) hk (by omega))
        have HO := hid (show ls[i0 + m] = [((es[i0 + m]'hk).key, (es[i0 + m]'hk).val)] from (HZ.out _ hk hkl).1)
        rw [(HZ.out _ hk hkl).2] at c2
        generalize (es[i0 + m]'hk).key = ky at *
        generalize (es[i0 + m]'hk).val = vy at *
        by_cases hgt : tt < ky
        · go_wp2_with fail
          go_ret
          obtain ⟨x, hx, hxk, _⟩ := HX.out
          refine .inr (.inl ⟨rfl, ?_, hbr.alloc (by omega) _, x, ?_, by omega⟩)
          · rw [HA.out hgt]; exact hJ.alloc _ hJm
          · rw [HP.out.flat]; exact List.mem_flatten_of_mem (List.getElem_mem hkl) hx
        · have hle : ky ≤ tt := by omega
          have hbn : Below n₀ W (wr.alloc (.cells #[.int .u32 ky, .string vy, .pointer none] 226)) := hbr.alloc (by omega) _
          have HS : Hid (sel fr tt ls[i0 + m] = [(ky, vy)]) := hid (by rw [HO.out]; exact sel_one HL.out hle)
          have HQ : Hid (pre ++ sel fr tt (ls.take (i0 + m)).flatten ++ [(ky, vy)] <+: xs) := hid (by
            rw [← HS.out, List.append_assoc, ← sel_append, ← HF.out]; refine (List.prefix_append_right_inj pre).2 ?_ |>.trans hp; rw [HP.out.flat, flat_split ls (i0 + m + 1), sel_append]; exact List.prefix_append _ _)
          obtain ⟨fn, tmps, assign, body, hy, hR2⟩ := HY.out _ (ky, vy) _ HQ.out (hJ.alloc (.cells #[.int .u32 ky, .string vy, .pointer none] 226) hJm)
          simp only [encKV] at hy
          go_upto_region 9 with fail
          refine (wpIn_wide (n := 0)).1 ?_
          gi_wp2
          refine ⟨rfl, hR2.mono ?_⟩
          clear hR2 hy
          rintro e w2 (⟨rfl, hJ2, hb2⟩ | ⟨rfl, hx2⟩)
          · gi_wp2
            go_wp2_with fail
            go_roundg (es.length - i0 - (m + 1))
            case measure => have := HM.out; omega
            case rel => exact ⟨m + 1, by have := HM.out; omega, by go_num, by rw [← Nat.add_assoc, HF.out, sel_append, ← List.append_assoc, HS.out]; exact hJ2, hbn.trans hb2⟩
          · gi_wp2
            go_wp2_with fail
            go_ret
            refine .inr (.inr ⟨rfl, sel fr tt (ls.take (i0 + m)).flatten ++ [(ky, vy)], ?_, by rw [← List.append_assoc]; exact hx2⟩)
            rw [HP.out.flat, flat_split ls (i0 + m + 1), sel_append, HF.out, sel_append, HS.out]
            exact List.prefix_append _ _
      · have hme : i0 + m = ls.length := by rw [HP.out.len]; have := HM.out; omega
        have HL := hid (show l = (ls.take (i0 + m)).flatten by rw [hme, List.take_length, HP.out.flat])
        have hlt' : ((es.length - i0 : Nat) : Int) ≤ (m : Int) := by omega
        clear hme hob
        go_wp2_with fail
        go_ret
        exact .inl ⟨rfl, by rw [HL.out]; exact hJm, hbr⟩

end Go.Proofs.YtbpnllhhmookcaaGreatDoor

/- walk, at whatever height. -/
namespace Go.Proofs.YtbpnllhhmookcaaGreatDoor
open Go.RowKit Go.Shelf

set_option maxRecDepth 8000 in
set_option maxHeartbeats 4000000 in
theorem walk_any (y n₀ B : Nat) (fr tt : Int) (xs : List KV) (J Jx : List KV → World → Prop) (hJ : OwnFrom B J) (hY : Rounds y n₀ xs J Jx) (ht : Nat) :
    ∀ (b : Nat) (l pre : List KV) (W : World), NodeAt n₀ W ht b l → n₀ ≤ W.heap.size → RiseK l → (pre ++ sel fr tt l) <+: xs → J pre W →
      Calls Tryz.prog 178 #[.pointer (some ⟨b, 0, none⟩), .int .u32 fr, .int .u32 tt, .func (.yield y) #[] #[]] W (WalkEnds n₀ fr tt l pre J Jx W) := by
  induction ht with
  | zero => intro b l pre W hN _ hR hp h0; exact walk_leaf y n₀ B fr tt xs J Jx hJ hY b l pre W hN hR hp h0
  | succ h ih =>
    intro b l pre W hN hn hR hp h0
    obtain ⟨hb, v, es, ls, hc, hE, hne, hP, hz, hs⟩ := hN.parts hR
    have hdr : Below n₀ W W.drew := (Below.refl n₀ W).drew
    obtain ⟨i0, hi0⟩ := way_exists (h + 1) hP.riseE fr
    have hw := way_at n₀ _ b l v es fr W.drew (hN.below hdr) hc (hE.below hdr) hP.riseE i0 hi0
    have hil := way_inner hi0 (by omega) hne
    have hst := hP.start hi0 (by omega) tt
    clear hdr
    have HE := hid hE
    have HP := hid hP
    have HS := hid hs
    obtain ⟨g, o, cap, rfl, h1, h2, h3, h4, h5⟩ := hE
    have H5 := hid h5
    have HY := hid hY
    have HI := hid ih
    clear h5 hP hs hz hY ih hN
    go_enter Tryz.func178, Tryz.ntmps178
    go_upto_region 1 with fail
    go_cut [18, 19, 20] from 11 to 20 (fun s n i wx => s = .slice (some ⟨g, o + i0 * 3, none⟩) (es.length - i0) (cap - i0) ∧ n = .int .i64 ((es.length - i0 : Nat) : Int) ∧ i = .int .i64 0 ∧ Below W.heap.size W wx)
    case first =>
      have hcc : i0 < cap := by omega
      have hbw : b < W.drew.heap.size := by show b < W.heap.size; omega
      go_region_with (go_at_call 173; refine hw.mono ?_; clear hw; rintro e w' ⟨rfl, hbel⟩; have hc2 := (hbel.cell (p := ⟨b, 0, none⟩) hbw).trans hc)
      all_goals (go_wp2_with fail; go_meet; exact ⟨rfl, rfl, rfl, ((Below.refl W.heap.size W).drew).trans hbel⟩)
    case rest =>
      obtain ⟨rfl, rfl, rfl, hbel⟩ := hcut
      clear hc hw
      have hWc : Below n₀ W wc := (show Below W.heap.size W wc from hbel).mono h3
      have hJc : J (pre ++ sel fr tt (ls.take (i0 + 0)).flatten) wc := by
        rw [Nat.add_zero, hst, List.append_nil]
        exact hJ pre W wc none h0 (below_grown hbel) (fun r e => by cases e)
      clear hbel h0
      go_wp2_with fail
      go_loopg [20] (es.length - i0) (fun gk i wr => ∃ m : Nat, m + gk = es.length - i0 ∧ i = .int .i64 m ∧ J (pre ++ sel fr tt (ls.take (i0 + m)).flatten) wr ∧ Below n₀ W wr)
      case atStart => exact ⟨0, by omega, rfl, hJc, hWc⟩
      case round =>
        clear hJc hWc
        obtain ⟨m, hm, rfl, hJm, hbr⟩ := hrel
        have HM := hid hm
        clear hm
        have hsr := hbr.size
        by_cases hlt : m < es.length - i0
        · have hk : i0 + m < es.length := by omega
          have hkl : i0 + m < ls.length := by rw [HP.out.len]; exact hk
          have hgw : g < n₀ := h2
          have eo : o + i0 * 3 + m * 3 = o + (i0 + m) * 3 := by omega
          have c0 := (hbr.cell (p := ⟨g, o + (i0 + m) * 3, none⟩) hgw).trans (H5.out _ hk).1
          have c1 := (hbr.cell (p := ⟨g, o + (i0 + m) * 3 + 1, none⟩) hgw).trans (H5.out _ hk).2.1
          have c2 := (hbr.cell (p := ⟨g, o + (i0 + m) * 3 + 2, none⟩) hgw).trans (H5.out _ hk).2.2
          rw [← eo] at c0 c1 c2
          clear eo
          have hlt' : (m : Int) < ((es.length - i0 : Nat) : Int) := by omega
          obtain ⟨c, hcb, hcn⟩ := HS.out h rfl _ hk hkl
          rw [hcb] at c2
          have HA := hid (fun (q : tt < (es[i0 + m]'hk).key) => HP.out.above hk q fr)
          have HN := hid (hcn.below hbr)
          have HF := hid (flat_take ls (i0 + m) hkl)
          have HX := hid (HP.out.headKv hk hkl)
          clear hcb hcn
          generalize (es[i0 + m]'hk).key = ky at *
          generalize (es[i0 + m]'hk).val = vy at *
          by_cases hgt : tt < ky
          · go_wp2_with fail
            go_ret
            obtain ⟨x, hx, hxk, _⟩ := HX.out
            refine .inr (.inl ⟨rfl, ?_, hbr.alloc (by omega) _, x, ?_, by omega⟩)
            · rw [HA.out hgt]; exact hJ.alloc _ hJm
            · rw [HP.out.flat]; exact List.mem_flatten_of_mem (List.getElem_mem hkl) hx
          · have hle : ky ≤ tt := by omega
            have hbn : Below n₀ W (wr.alloc (.cells #[.int .u32 ky, .string vy, .pointer (some ⟨c, 0, none⟩)] 226)) := hbr.alloc (by omega) _
            have HC := hid (HI.out c (ls[i0 + m]'hkl) (pre ++ sel fr tt (ls.take (i0 + m)).flatten) (wr.alloc (.cells #[.int .u32 ky, .string vy, .pointer (some ⟨c, 0, none⟩)] 226))
              (HN.out.below ((Below.refl n₀ wr).alloc (by omega) _)) (by simp; omega) (HP.out.part hkl)
              (by rw [List.append_assoc, ← sel_append, ← HF.out]; refine (List.prefix_append_right_inj pre).2 ?_ |>.trans hp; rw [HP.out.flat, flat_split ls (i0 + m + 1), sel_append]; exact List.prefix_append _ _) (hJ.alloc _ hJm))
            go_wp2_with (go_at_call 178; refine HC.out.mono ?_; clear HC; rintro e w2 (⟨rfl, hJ2, hb2⟩ | ⟨rfl, hJ2, hb2, hx2⟩ | ⟨rfl, q, hq, hx2⟩))
            · go_roundg (es.length - i0 - (m + 1))
              case measure => have := HM.out; omega
              case rel => exact ⟨m + 1, by have := HM.out; omega, by go_num, by rw [← Nat.add_assoc, HF.out, sel_append, ← List.append_assoc]; exact hJ2, hbn.trans hb2⟩
            · go_ret
              refine .inr (.inl ⟨rfl, by rw [HP.out.aboveIn hkl hx2 fr, HF.out, sel_append, ← List.append_assoc]; exact hJ2, hbn.trans hb2, ?_⟩)
              obtain ⟨x, hx, hxk⟩ := hx2
              exact ⟨x, by rw [HP.out.flat]; exact List.mem_flatten_of_mem (List.getElem_mem hkl) hx, hxk⟩
            · go_ret
              refine .inr (.inr ⟨rfl, sel fr tt (ls.take (i0 + m)).flatten ++ q, ?_, by rw [← List.append_assoc]; exact hx2⟩)
              rw [HP.out.flat, flat_split ls (i0 + m + 1), sel_append, HF.out, sel_append, List.append_assoc]
              exact (List.prefix_append_right_inj _).2 (hq.trans (List.prefix_append _ _))
        · have hme : i0 + m = ls.length := by rw [HP.out.len]; have := HM.out; omega
          have HL := hid (show l = (ls.take (i0 + m)).flatten by rw [hme, List.take_length, HP.out.flat])
          have hlt' : ((es.length - i0 : Nat) : Int) ≤ (m : Int) := by omega
          clear hme
          go_wp2_with fail
          go_ret
          exact .inl ⟨rfl, by rw [HL.out]; exact hJm, hbr⟩

end Go.Proofs.YtbpnllhhmookcaaGreatDoor
