/- What asked of the books of package firnref returns; rows of truths. -/
import Derived.Test.YtbpnllhhmookcaaGreatDoorKm03
import Derived.Test.YtbpnllhhmookcaaGreatDoorKk19
import Derived.BigRegion
import Derived.Deep.RegionHeld3
import Derived.Deep.AppendLies
namespace Go.Proofs.YtbpnllhhmookcaaGreatDoor
open Go.RowKit

def boolCells (l : List Bool) : List Value := l.map Value.bool

/-- Truths lie behind a slice's value. -/
def Marks (w : World) (v : Value) (l : List Bool) : Prop := w.ownsRow 0 4 1 v l.length (boolCells l)

theorem Marks.form {w : World} {v : Value} {l : List Bool} (h : Marks w v l) : ∃ oa cap, v = .slice oa l.length cap ∧ ∀ i (hi : i < l.length), ∃ g, oa = some ⟨g, 0, none⟩ ∧ l.length ≤ cap ∧ v.ownBlock = some g ∧ g < w.heap.size ∧ w.cell? ⟨g, i, none⟩ = some (.bool l[i]) ∧ (∀ j, w.frozen? ⟨g, j, none⟩ = false) := by
  have hc := h
  rcases h.2 with ⟨hv, h0⟩ | ⟨g, cap, cur, rfl, _, hg, hle, _⟩
  · exact ⟨none, 0, by rw [hv, h0], fun i hi => by omega⟩
  · refine ⟨some ⟨g, 0, none⟩, cap, rfl, fun i hi => ⟨g, rfl, hle, rfl, (Array.getElem?_eq_some_iff.1 hg).1, ?_, fun j => by simp [World.frozen?, hg]⟩⟩
    have := hc.cells (g := g) rfl i (.bool l[i]) (by simp [boolCells, hi])
    rw [addr_add] at this
    exact this
theorem Marks.keeps {S : Nat → Prop} {w w' : World} {v : Value} {l : List Bool} (h : Marks w v l) (hk : Keeps S w w') (hs : ∀ g, v.ownBlock = some g → ¬ S g) : Marks w' v l :=
  ownsRow_block h (fun g hg => hk.block g (h.lt g hg).2 (hs g hg))
theorem Marks.below {w w' : World} {v : Value} {l : List Bool} (h : Marks w v l) (hb : Below w.heap.size w w') : Marks w' v l :=
  h.keeps (S := fun _ => False) (below_toKeeps hb _) (fun _ _ h => h)
theorem boolCells_set (l : List Bool) (i : Nat) (x : Bool) : (boolCells l).set i (.bool x) = boolCells (l.set i x) := by
  simp [boolCells, List.map_set]
theorem Marks.set {w : World} {v : Value} {l : List Bool} (h : Marks w v l) {g : Nat} (hg : v.ownBlock = some g) {i : Nat} (hi : i < l.length) (x : Bool) :
    Marks (w.setCell ⟨g, i, none⟩ (.bool x)) v (l.set i x) := by
  refine ⟨by simp [boolCells], ?_⟩
  rcases h.2 with ⟨hv, h0⟩ | ⟨g', cap, cur, rfl, h1, hg', h2, h3, h4, h5⟩
  · omega
  · injection hg with hg; subst hg
    refine .inr ⟨g', cap, cur.set! i (.bool x), by rw [List.length_set], h1, heap_setCell_same w g' i cur _ _ hg', by rw [List.length_set]; exact h2, h3, by simp [h4], ?_⟩
    rw [List.length_set]
    have e1 : (cur.set! i (Value.bool x)).toList = cur.toList.set i (.bool x) := by simp
    rw [e1, List.take_set, h5]
    exact boolCells_set l i x

/-- The numbers of the first m tubes that are marked. -/
def askTo (ts : List (Nat → Int)) (bs : List Bool) (m : Nat) : List Int := (List.range m).flatMap fun i => if bs.getD i false then [(ts.getD i fun _ => 0) 0] else []
def askL (ts : List (Nat → Int)) (bs : List Bool) : List Int := askTo ts bs ts.length
theorem askTo_in {ts : List (Nat → Int)} {bs : List Bool} {m : Nat} (h : m < ts.length) (hb : m < bs.length) (e : bs[m] = true) : askTo ts bs (m + 1) = askTo ts bs m ++ [ts[m] 0] := by
  simp [askTo, List.range_succ, List.getD_eq_getElem?_getD, h, hb, e]
theorem askTo_out {ts : List (Nat → Int)} {bs : List Bool} {m : Nat} (hb : m < bs.length) (e : bs[m] = false) : askTo ts bs (m + 1) = askTo ts bs m := by
  simp [askTo, List.range_succ, List.getD_eq_getElem?_getD, hb, e]
theorem askTo_len (ts : List (Nat → Int)) (bs : List Bool) : ∀ m, (askTo ts bs m).length ≤ m
  | 0 => by simp [askTo]
  | m + 1 => by
    have := askTo_len ts bs m
    unfold askTo at *
    rw [List.range_succ, List.flatMap_append, List.length_append]
    have : ((List.flatMap (fun i => if bs.getD i false = true then [(ts.getD i fun _ => 0) 0] else []) [m])).length ≤ 1 := by simp; split <;> simp
    omega

set_option maxHeartbeats 1000000 in
theorem asked_any (b : Nat) (vt vp vm : Value) (k : Bk) (bs : List Bool) (w : World) (h : BkAt w b vt vp k) (hm : Marks w vm bs) (hl : bs.length = k.tubes.length) :
    Calls Tryz.prog 94 #[.pointer (some ⟨b, 0, none⟩), vm] w fun e w' => ∃ v, e = .returned v ∧ IntsIn w' v (askL k.tubes bs) ∧ Below w.heap.size w w' := by
  obtain ⟨i0, hi, hz0, hz1, hz2⟩ := info_parts Tryz.infoInt
  have hct := h.ct
  have hbl := h.lt
  have hfew := h.few.1
  have HB := hid h
  obtain ⟨oa, cap, rfl, _⟩ := h.tubes.form
  obtain ⟨om, cm, rfl, hmf⟩ := hm.form
  have HMf := hid hmf
  clear hmf
  rw [hl]
  go_enter Tryz.func94, Tryz.ntmps94
  go_wp2_with fail
  go_loopg [5, 6] k.tubes.length (fun gk v i wr => ∃ m : Nat, m + gk = k.tubes.length ∧ i = .int .i64 m ∧ wr.ownsRow w.heap.size 3 1 v (askTo k.tubes bs m).length (intCells (askTo k.tubes bs m)) ∧ Below w.heap.size w wr)
  case atStart => exact ⟨0, by omega, rfl, World.ownsRow_nil _ _ _ _, Below.refl _ _⟩
  case round =>
    obtain ⟨m, hm', rfl, hown, hbel⟩ := hrel
    have HM := hid hm'
    have hmle : m ≤ k.tubes.length := by omega
    clear hm'
    have hsz := hbel.size
    have hctr := (hbel.cell (p := ⟨b, 10, none⟩) hbl).trans hct
    by_cases hlt : m < k.tubes.length
    · obtain ⟨gm, rfl, hmc, _, hgml, hbc, _⟩ := HMf.out m (by omega)
      obtain ⟨g, rfl, hn, hcap, hgl, t0, _⟩ := HB.out.tube (m := m) hlt
      have hbr := (hbel.cell (p := ⟨gm, m, none⟩) hgml).trans hbc
      have htr := (hbel.cell (p := ⟨g, m * 11, none⟩) hgl).trans t0
      have hlt' : (m : Int) < (k.tubes.length : Int) := by omega
      have hmb : m < bs.length := by omega
      have hal := askTo_len k.tubes bs m
      rw [hl] at hmc
      clear hbc t0
      cases hbm : bs[m] with
      | true =>
        have HS := hid (askTo_in hlt hmb hbm)
        rw [hbm] at hbr
        generalize k.tubes[m] 0 = id at *
        generalize askTo k.tubes bs m = cur at *
        go_wp2_with (at_builtin; refine wpList_append_own _ rfl _ _ 36 rfl w.heap.size 3 i0 (.int .i64 0) 1 8 Tryz.underlying36 hi hz0 hz1 hz2 rfl (by decide) _ _ _ rfl (hown.alloc _) ⟨wr.heap.size, 0, none⟩ 1 1 [.int .i64 id] rfl rfl (app_cell wr _) (by intro u hu; simp at hu; subst hu; rfl) (by unfold maxLen; omega) (by omega) (by simp; omega) ?_; intro v' w2 hown' hgrow' _)
        go_roundg (gk - 1)
        case measure => have := HM.out; omega
        case rel =>
          refine ⟨m + 1, by have := HM.out; omega, by go_num, ?_, ?_⟩
          · rw [HS.out]; simpa [intCells] using hown'
          · exact (hbel.alloc (by omega) _).grown hgrow' (by simp; omega) (fun k hk => (hown.lt k hk).1)
      | false =>
        have HS := hid (askTo_out (ts := k.tubes) hmb hbm)
        rw [hbm] at hbr
        go_wp2
        go_roundg (gk - 1)
        case measure => have := HM.out; omega
        case rel => exact ⟨m + 1, by have := HM.out; omega, by go_num, by rw [HS.out]; exact hown, hbel⟩
    · have hme : m = k.tubes.length := by omega
      have HA := hid (show askL k.tubes bs = askTo k.tubes bs m by rw [hme]; rfl)
      clear hme
      go_wp2
      go_ret
      exact ⟨_, rfl, by rw [HA.out]; exact own_intsIn hown rfl, hbel⟩

end Go.Proofs.YtbpnllhhmookcaaGreatDoor

/- What reach of the books of package firnref returns. -/
namespace Go.Proofs.YtbpnllhhmookcaaGreatDoor
open Go.RowKit

/-- What can be reached from the marked, in one step or more. -/
inductive Rch (E : Nat → Nat → Prop) (M : Nat → Prop) : Nat → Prop
  | one {i j : Nat} : M i → E i j → Rch E M j
  | more {i j : Nat} : Rch E M i → E i j → Rch E M j

def srcI (k : Bk) (down : Bool) (p : Nat → Int) : Nat := (findI k.tubes (p (if down then 0 else 1))).toNat
def dstI (k : Bk) (down : Bool) (p : Nat → Int) : Nat := (findI k.tubes (p (if down then 1 else 0))).toNat
def Edge (k : Bk) (down : Bool) (i j : Nat) : Prop := ∃ p ∈ k.poured, srcI k down p = i ∧ dstI k down p = j
/-- Both ends of all that was poured are tubes. -/
def Wired (k : Bk) : Prop := ∀ p ∈ k.poured, (∃ t ∈ k.tubes, t 0 = p 0) ∧ ∃ t ∈ k.tubes, t 0 = p 1
open Classical in
noncomputable def reachL (k : Bk) (mk : List Bool) (down : Bool) : List Bool := (List.range k.tubes.length).map fun j => decide (Rch (Edge k down) (fun i => mk.getD i false = true) j)
theorem reachL_len (k : Bk) (mk : List Bool) (down : Bool) : (reachL k mk down).length = k.tubes.length := by simp [reachL]

theorem findI_mem {ts : List (Nat → Int)} {id : Int} (h : ∃ t ∈ ts, t 0 = id) : ∃ i : Nat, i < ts.length ∧ findI ts id = i := by
  have hl : ts.findIdx (fun t => t 0 == id) < ts.length := List.findIdx_lt_length_of_exists (by obtain ⟨t, ht, e⟩ := h; exact ⟨t, ht, by simpa using e⟩)
  exact ⟨_, hl, by unfold findI; rw [if_pos hl]⟩

theorem Wired.ends {k : Bk} (hw : Wired k) (down : Bool) {p : Nat → Int} (hp : p ∈ k.poured) :
    ∃ s d : Nat, s < k.tubes.length ∧ d < k.tubes.length ∧ srcI k down p = s ∧ dstI k down p = d ∧ findI k.tubes (p 0) = ((if down then s else d : Nat) : Int) ∧ findI k.tubes (p 1) = ((if down then d else s : Nat) : Int) := by
  obtain ⟨i, hi, ei⟩ := findI_mem (hw p hp).1
  obtain ⟨j, hj, ej⟩ := findI_mem (hw p hp).2
  cases down with
  | true => exact ⟨i, j, hi, hj, by simp [srcI, ei], by simp [dstI, ej], by simpa using ei, by simpa using ej⟩
  | false => exact ⟨j, i, hj, hi, by simp [srcI, ej], by simp [dstI, ei], by simpa using ei, by simpa using ej⟩

/-- The first m of what was poured lead nowhere else. -/
def Clos (k : Bk) (down : Bool) (mk out : List Bool) (m : Nat) : Prop := ∀ j (hj : j < k.poured.length), j < m → (mk.getD (srcI k down k.poured[j]) false = true ∨ out.getD (srcI k down k.poured[j]) false = true) → out.getD (dstI k down k.poured[j]) false = true
def Snd (k : Bk) (down : Bool) (mk out : List Bool) : Prop := ∀ j, out.getD j false = true → Rch (Edge k down) (fun i => mk.getD i false = true) j
def cf (l : List Bool) : Nat := l.count false

theorem Clos.zero (k : Bk) (down : Bool) (mk out : List Bool) : Clos k down mk out 0 := fun _ _ h => by omega
theorem Clos.step {k : Bk} {down : Bool} {mk out : List Bool} {m s d : Nat} (h : Clos k down mk out m) (hm : m < k.poured.length) (hs : srcI k down k.poured[m] = s) (hd : dstI k down k.poured[m] = d) (hh : (mk.getD s false = true ∨ out.getD s false = true) → out.getD d false = true) : Clos k down mk out (m + 1) := by
  intro j hj hlt
  by_cases e : j = m
  · subst e; rw [hs, hd]; exact hh
  · exact h j hj (by omega)
theorem Snd.start (k : Bk) (down : Bool) (mk : List Bool) (n : Nat) : Snd k down mk (List.replicate n false) := by
  intro j h
  rw [List.getD_eq_getElem?_getD, List.getElem?_replicate] at h
  split at h <;> simp at h
theorem Snd.step {k : Bk} {down : Bool} {mk out : List Bool} {m s d : Nat} (h : Snd k down mk out) (hm : m < k.poured.length) (hs : srcI k down k.poured[m] = s) (hd : dstI k down k.poured[m] = d) (hh : mk.getD s false = true ∨ out.getD s false = true) : Snd k down mk (out.set d true) := by
  have hE : Edge k down s d := ⟨_, List.getElem_mem hm, hs, hd⟩
  intro j hj
  by_cases e : j = d
  · subst e
    rcases hh with hh | hh
    · exact .one hh hE
    · exact .more (h s hh) hE
  · rw [List.getD_eq_getElem?_getD, List.getElem?_set_ne (by omega), ← List.getD_eq_getElem?_getD] at hj
    exact h j hj
theorem cf_set {out : List Bool} {d : Nat} (hd : d < out.length) (e : out[d] = false) : cf (out.set d true) + 1 = cf out := by
  unfold cf
  rw [List.count_set hd]
  have : 0 < out.count false := List.count_pos_iff.2 (by rw [← e]; exact List.getElem_mem hd)
  simp [e]
  omega
theorem cf_start (n : Nat) : cf (List.replicate n false) = n := by simp [cf]
theorem getD_b {l : List Bool} {i : Nat} (h : i < l.length) : l.getD i false = l[i] := by simp [List.getD_eq_getElem?_getD, h]

open Classical in
theorem reach_end {k : Bk} {down : Bool} {mk out : List Bool} (hl : out.length = k.tubes.length) (hs : Snd k down mk out) (hc : Clos k down mk out k.poured.length) : out = reachL k mk down := by
  have hR : ∀ j, Rch (Edge k down) (fun i => mk.getD i false = true) j → out.getD j false = true := by
    intro j hj
    induction hj with
    | one hM hE => obtain ⟨p, hp, e1, e2⟩ := hE; obtain ⟨q, hq, rfl⟩ := List.getElem_of_mem hp; have := hc q hq hq; rw [e1, e2] at this; exact this (.inl hM)
    | more _ hE ih => obtain ⟨p, hp, e1, e2⟩ := hE; obtain ⟨q, hq, rfl⟩ := List.getElem_of_mem hp; have := hc q hq hq; rw [e1, e2] at this; exact this (.inr ih)
  apply List.ext_getElem (by rw [hl, reachL_len])
  intro j h1 h2
  simp only [reachL, List.getElem_map, List.getElem_range]
  cases e : out[j] with
  | true => exact (decide_eq_true (hs j (by rw [getD_b h1, e]))).symm
  | false => exact (decide_eq_false (fun h => by have := hR j h; rw [getD_b h1, e] at this; cases this)).symm

theorem Tryz.infoBool : (Tryz.prog.info? 4).map (fun i => (i.zero, i.size, i.bytes)) = some (some (.bool false), 1, 1) := by kernel_rfl

theorem own_marks {w : World} {base g n : Nat} (h : w.ownsRow base 4 1 (.slice (some ⟨g, 0, none⟩) n n) n (madeCells (Value.cells (.bool false)) (n * 1)).toList) : Marks w (.slice (some ⟨g, 0, none⟩) n n) (List.replicate n false) := by
  have hc : (Value.bool false).cells = #[.bool false] := rfl
  rw [hc, toList_madeCells_one] at h
  unfold Marks
  have e : boolCells (List.replicate n false) = List.replicate (n * 1) (.bool false) := by simp [boolCells]
  rw [e, List.length_replicate]
  exact ⟨h.1, by
    rcases h.2 with hn | ⟨g', cap, cur, e1, h1, hg, rest⟩
    · exact .inl hn
    · exact .inr ⟨g', cap, cur, e1, Nat.zero_le _, hg, rest⟩⟩
theorem Marks.at {w : World} {g n cap : Nat} {l : List Bool} (h : Marks w (.slice (some ⟨g, 0, none⟩) n cap) l) {i : Nat} (hi : i < l.length) : w.cell? ⟨g, i, none⟩ = some (.bool l[i]) ∧ (∀ j, w.frozen? ⟨g, j, none⟩ = false) := by
  obtain ⟨oa, c, e, hf⟩ := h.form
  injection e with e1 e2 e3
  subst e1
  obtain ⟨g', e4, _, _, _, hcl, hfz⟩ := hf i hi
  injection e4 with e4; injection e4 with e4
  subst e4
  exact ⟨hcl, hfz⟩

theorem fire_or (x1 x2 x3 : Bool) : ((x1 = true ∨ x2 = true) ∧ x3 = false) ∨ ((x1 = true ∨ x2 = true) → x3 = true) := by cases x1 <;> cases x2 <;> cases x3 <;> simp
theorem fire_yes {x1 x2 : Bool} (h : x1 = true ∨ x2 = true) : x1 = true ∨ (x1 = false ∧ x2 = true) := by cases x1 <;> simp_all
theorem fire_no {x1 x2 x3 : Bool} (h : (x1 = true ∨ x2 = true) → x3 = true) : (x1 = false ∧ x2 = false) ∨ (x1 = true ∧ x3 = true) ∨ (x1 = false ∧ x2 = true ∧ x3 = true) := by cases x1 <;> cases x2 <;> simp_all

set_option maxHeartbeats 2000000 in
theorem reach_any (b : Nat) (vt vp vm : Value) (k : Bk) (mk : List Bool) (down : Bool) (w : World) (h : BkAt w b vt vp k) (hm : Marks w vm mk) (hl : mk.length = k.tubes.length) (hw : Wired k) :
    Calls Tryz.prog 93 #[.pointer (some ⟨b, 0, none⟩), vm, .bool down] w fun e w' => ∃ v, e = .returned v ∧ Marks w' v (reachL k mk down) ∧ Below w.heap.size w w' ∧ ∀ g, v.ownBlock = some g → w.heap.size ≤ g := by
  obtain ⟨i0, hi, hz0, hz1, hz2⟩ := info_parts Tryz.infoBool
  have hct := h.ct
  have hcp := h.cp
  have hbl := h.lt
  have hfew := h.few.1
  have hfewp := h.few.2
  have HB := hid h
  have HW := hid hw
  obtain ⟨oa, cap, rfl, _⟩ := h.tubes.form
  obtain ⟨op, cpp, rfl, _⟩ := h.poured.form
  obtain ⟨om, cm, rfl, hmf⟩ := hm.form
  have HMf := hid hmf
  clear hmf
  rw [hl]
  go_enter Tryz.func93, Tryz.ntmps93
  go_wp2_with (at_make; refine wpList_make_full _ rfl _ _ 163 rfl w.heap.size 4 i0 (.bool false) 1 Tryz.underlying163 hi hz0 hz1 .i64 .i64 _ _ k.tubes.length rfl rfl rfl rfl (by rw [hz2]; omega) (by unfold maxLen; omega) (by simp) ?_; intro w0 hown0 hgrow0)
  have hO := own_marks hown0
  have hsz0 : w.heap.size < w0.heap.size := by have := hown0.lt w.heap.size rfl; omega
  have hB0 : Below w.heap.size w w0 := Below.grown (Below.refl _ _) hgrow0 (by simp) (fun k hk => by cases hk)
  clear hown0 hgrow0
  go_wp2_with fail
  go_loopg [8] (k.tubes.length + 1) (fun gk av wr => ∃ (a : Bool) (out : List Bool), av = .bool a ∧ out.length = k.tubes.length ∧ Marks wr (.slice (some ⟨w.heap.size, 0, none⟩) k.tubes.length k.tubes.length) out ∧ Snd k down mk out ∧ (a = false → Clos k down mk out k.poured.length) ∧ cf out + (if a then 1 else 0) = gk ∧ Below w.heap.size w wr)
  case atStart => exact ⟨true, List.replicate k.tubes.length false, rfl, by simp, hO, Snd.start _ _ _ _, fun h => by (cases h), by simp [cf_start], hB0⟩
  case round =>
    clear hO hB0 hsz0
    obtain ⟨a, out, rfl, hlo, hO, hS, hC, hg, hbel⟩ := hrel
    cases a with
    | false =>
      have HE := hid (reach_end hlo hS (hC rfl))
      clear hS hC hg
      go_wp2
      go_ret
      exact ⟨_, rfl, by rw [← HE.out]; exact hO, hbel, fun g hg => Nat.le_of_eq (Option.some.inj hg)⟩
    | true =>
      have HS := hid hS
      have HG := hid hg
      clear hS hC hg
      go_wp2_with fail
      go_loopg [8, 9] k.poured.length (fun gi av iv wi => ∃ (m : Nat) (a : Bool) (ou : List Bool), m + gi = k.poured.length ∧ av = .bool a ∧ iv = .int .i64 m ∧ ou.length = k.tubes.length ∧ Marks wi (.slice (some ⟨w.heap.size, 0, none⟩) k.tubes.length k.tubes.length) ou ∧ Snd k down mk ou ∧ (a = false → Clos k down mk ou m) ∧ cf ou + (if a then 1 else 0) ≤ cf out ∧ Below w.heap.size w wi)
      case atStart => exact ⟨0, false, out, by omega, rfl, rfl, hlo, hO, HS.out, fun _ => Clos.zero _ _ _ _, by simp, hbel⟩
      case round =>
        clear hO hbel hlo
        obtain ⟨m, a, ou, hm', rfl, rfl, hlo, hO, hS, hC, hg, hbel⟩ := hrel
        have HM := hid hm'
        have hmle : m ≤ k.poured.length := by omega
        have HCl := hid hC
        have HSn := hid hS
        have HGi := hid hg
        clear hm' hC hS hg
        have hctr := (hbel.cell (p := ⟨b, 10, none⟩) hbl).trans hct
        have hcpr := (hbel.cell (p := ⟨b, 11, none⟩) hbl).trans hcp
        have HBr := hid (HB.out.keeps (S := fun g => w.heap.size ≤ g) ⟨hbel.os, hbel.tape, hbel.output, hbel.size, fun k hk _ => hbel.block k hk⟩ (fun g hg h2 => by have := HB.out.own_lt hg; omega))
        by_cases hlt : m < k.poured.length
        · have hlt' : (m : Int) < (k.poured.length : Int) := by omega
          obtain ⟨gp, rfl, hnp, hcapp, hgpl, p0, p1, p2, _⟩ := HB.out.pouredCell (m := m) hlt
          have p0r := (hbel.cell (p := ⟨gp, m * 3, none⟩) hgpl).trans p0
          have p1r := (hbel.cell (p := ⟨gp, m * 3 + 1, none⟩) hgpl).trans p1
          clear p0 p1 p2
          obtain ⟨s, d, hs, hd, es, ed, e0, e1⟩ := HW.out.ends down (List.getElem_mem hlt)
          have hso : s < ou.length := Nat.lt_of_lt_of_eq hs hlo.symm
          have hdo : d < ou.length := Nat.lt_of_lt_of_eq hd hlo.symm
          have hsm : s < mk.length := Nat.lt_of_lt_of_eq hs hl.symm
          obtain ⟨gm, rfl, hmc, _, hgml, hbc, _⟩ := HMf.out s hsm
          have hbr := (hbel.cell (p := ⟨gm, s, none⟩) hgml).trans hbc
          obtain ⟨hos, hfz⟩ := hO.at hso
          have hod := (hO.at hdo).1
          have hs' : (s : Int) < (k.tubes.length : Int) := by omega
          have hd' : (d : Int) < (k.tubes.length : Int) := by omega
          rw [hl] at hmc
          have HCs := hid (fun (ha : a = false) hh => (HCl.out ha).step hlt es ed hh)
          have HSs := hid (fun hh => HSn.out.step hlt es ed hh)
          rw [getD_b hsm, getD_b hso, getD_b hdo] at HCs
          rw [getD_b hsm, getD_b hso] at HSs
          have HCf := hid (fun e => cf_set hdo e)
          have HOs := hid (hO.set (g := w.heap.size) rfl hdo true)
          have hgml' : ¬ gm = w.heap.size := by omega
          clear hbc es ed HCl
          generalize k.poured[m] 0 = q0 at *
          generalize k.poured[m] 1 = q1 at *
          generalize mk[s] = x1 at *
          generalize ou[s] = x2 at *
          generalize ou[d] = x3 at *
          have hsplit : (down = true ∧ findI k.tubes q0 = (s : Int) ∧ findI k.tubes q1 = (d : Int)) ∨ (down = false ∧ findI k.tubes q0 = (d : Int) ∧ findI k.tubes q1 = (s : Int)) := by
            cases down
            · exact .inr ⟨rfl, by simpa using e0, by simpa using e1⟩
            · exact .inl ⟨rfl, by simpa using e0, by simpa using e1⟩
          clear e0 e1
          rcases fire_or x1 x2 x3 with ⟨hf, rfl⟩ | hf
          · have HS2 := hid (HSs.out hf)
            have HG2 : Hid (cf (ou.set d true) + 1 ≤ cf out) := by have h1 := HCf.out rfl; have h2 := HGi.out; exact hid (by omega)
            clear HSs HCs HCf HGi
            have hf' := fire_yes hf
            clear hf
            rcases hf' with rfl | ⟨rfl, rfl⟩ <;> rcases hsplit with ⟨rfl, f0, f1⟩ | ⟨rfl, f0, f1⟩
            all_goals
              go_wp2_with (go_at_call 69; refine (find_any b _ _ k _ _ HBr.out).mono ?_; rintro e wi ⟨rfl, rfl⟩; first | rw [f0] | rw [f1])
              go_roundg (k.poured.length - (m + 1))
              case measure => have := HM.out; omega
              case rel => exact ⟨m + 1, true, ou.set d true, by have := HM.out; omega, rfl, by go_num, by simpa using hlo, HOs.out, HS2.out, fun h => by (cases h), by simpa using HG2.out, hbel.setCell (by simp) _⟩
          · have HC2 := hid (fun ha => HCs.out ha hf)
            clear HSs HCs HCf HOs
            have hf' := fire_no hf
            clear hf
            rcases hf' with ⟨rfl, rfl⟩ | ⟨rfl, rfl⟩ | ⟨rfl, rfl, rfl⟩ <;> rcases hsplit with ⟨rfl, f0, f1⟩ | ⟨rfl, f0, f1⟩
            all_goals
              go_wp2_with (go_at_call 69; refine (find_any b _ _ k _ _ HBr.out).mono ?_; rintro e wi ⟨rfl, rfl⟩; first | rw [f0] | rw [f1])
              go_roundg (k.poured.length - (m + 1))
              case measure => have := HM.out; omega
              case rel => exact ⟨m + 1, a, ou, by have := HM.out; omega, rfl, by go_num, hlo, hO, HSn.out, HC2.out, HGi.out, hbel⟩
        · have hme : m = k.poured.length := by omega
          have HC2 : Hid (a = false → Clos k down mk ou k.poured.length) := by rw [← hme]; exact HCl.out
          clear hme
          go_wp2
          go_roundg (cf ou + if a then 1 else 0)
          case measure => have h1 := HG.out; have h2 := HGi.out; simp only [if_true] at h1; omega
          case rel => exact ⟨a, ou, rfl, hlo, hO, HSn.out, HC2.out, rfl, hbel⟩

end Go.Proofs.YtbpnllhhmookcaaGreatDoor

/- What withdraw of the books of package firnref does. -/
namespace Go.Proofs.YtbpnllhhmookcaaGreatDoor
open Go.RowKit

/-- A list whose first m records have been handled where they are hit. -/
def hitTo (f : (Nat → Int) → Nat → Int) (hs : List Bool) (ts : List (Nat → Int)) (m : Nat) : List (Nat → Int) := (List.range ts.length).map fun i => if i < m ∧ hs.getD i false = true then f (ts.getD i zeroT) else ts.getD i zeroT
theorem hitTo_len (f : (Nat → Int) → Nat → Int) (hs : List Bool) (ts : List (Nat → Int)) (m : Nat) : (hitTo f hs ts m).length = ts.length := by simp [hitTo]
theorem hitTo_get (f : (Nat → Int) → Nat → Int) (hs : List Bool) (ts : List (Nat → Int)) (m i : Nat) (h : i < ts.length) : (hitTo f hs ts m)[i]'(by rw [hitTo_len]; exact h) = if i < m ∧ hs.getD i false = true then f ts[i] else ts[i] := by
  simp only [hitTo, List.getElem_map, List.getElem_range]
  rw [getD_T h]
theorem hitTo_zero (f : (Nat → Int) → Nat → Int) (hs : List Bool) (ts : List (Nat → Int)) : hitTo f hs ts 0 = ts := by
  apply List.ext_getElem (hitTo_len _ _ _ _)
  intro i h1 h2
  rw [hitTo_get _ _ _ _ _ h2, if_neg (by omega)]
theorem hitTo_at (f : (Nat → Int) → Nat → Int) (hs : List Bool) (ts : List (Nat → Int)) (m : Nat) (h : m < ts.length) : (hitTo f hs ts m)[m]'(by rw [hitTo_len]; exact h) = ts[m] := by
  rw [hitTo_get _ _ _ _ _ h, if_neg (by omega)]
theorem hitTo_set (f : (Nat → Int) → Nat → Int) (hs : List Bool) (ts : List (Nat → Int)) (m : Nat) (h : m < ts.length) (e : hs.getD m false = true) : (hitTo f hs ts m).set m (f ts[m]) = hitTo f hs ts (m + 1) := by
  apply List.ext_getElem (by rw [List.length_set, hitTo_len, hitTo_len])
  intro i h1 h2
  have hi : i < ts.length := by rw [hitTo_len] at h2; exact h2
  rw [hitTo_get _ _ _ _ _ hi, List.getElem_set]
  by_cases hm : m = i
  · subst hm; rw [if_pos rfl, if_pos ⟨by omega, e⟩]
  · rw [if_neg hm, hitTo_get _ _ _ _ _ hi]
    by_cases hc : i < m ∧ hs.getD i false = true
    · rw [if_pos hc, if_pos ⟨by omega, hc.2⟩]
    · rw [if_neg hc, if_neg (fun h' => hc ⟨by omega, h'.2⟩)]
theorem hitTo_same (f : (Nat → Int) → Nat → Int) (hs : List Bool) (ts : List (Nat → Int)) (m : Nat) (h : m < ts.length) (e : hs.getD m false = true → f ts[m] = ts[m]) : hitTo f hs ts m = hitTo f hs ts (m + 1) := by
  apply List.ext_getElem (by rw [hitTo_len, hitTo_len])
  intro i h1 h2
  have hi : i < ts.length := by rw [hitTo_len] at h2; exact h2
  rw [hitTo_get _ _ _ _ _ hi, hitTo_get _ _ _ _ _ hi]
  by_cases hm : m = i
  · subst hm
    rw [if_neg (by omega)]
    by_cases hc : hs.getD m false = true
    · rw [if_pos ⟨by omega, hc⟩, e hc]
    · rw [if_neg (fun h' => hc h'.2)]
  · by_cases hc : i < m ∧ hs.getD i false = true
    · rw [if_pos hc, if_pos ⟨by omega, hc.2⟩]
    · rw [if_neg hc, if_neg (fun h' => hc ⟨by omega, h'.2⟩)]

theorem setT_hitTo (f : (Nat → Int) → Nat → Int) (hs : List Bool) (ts : List (Nat → Int)) (m : Nat) (h : m < ts.length) (i : Nat) (n : Int) : setT (hitTo f hs ts m) m i n = (hitTo f hs ts m).set m (upd ts[m] i n) := by
  unfold setT; rw [getD_T (by rw [hitTo_len]; exact h), hitTo_at f hs ts m h]
theorem fire_ways (x1 x2 : Bool) : (x1 = false ∧ x2 = false) ∨ (x1 = true ∨ (x1 = false ∧ x2 = true)) := by cases x1 <;> cases x2 <;> simp

/-- A tube that is destroyed, unless it is. -/
def endT (t : Nat → Int) : Nat → Int := if t 6 = 3 then t else upd (upd (upd (upd (upd (upd t 6 3) 5 (t 5 + t 3)) 3 0) 8 0) 9 0) 10 0
/-- Of how many of the first m it is so. -/
def cntTo (hs : List Bool) (ts : List (Nat → Int)) (m : Nat) : Nat := (List.range m).countP fun i => hs.getD i false && !(ts.getD i zeroT 6 == 3)
theorem cntTo_step (hs : List Bool) (ts : List (Nat → Int)) (m : Nat) (h : m < ts.length) : cntTo hs ts (m + 1) = cntTo hs ts m + if hs.getD m false = true ∧ ¬ ts[m] 6 = 3 then 1 else 0 := by
  unfold cntTo
  rw [List.range_succ, List.countP_append, List.countP_cons, List.countP_nil, getD_T h]
  simp
theorem cntTo_le (hs : List Bool) (ts : List (Nat → Int)) (m : Nat) : cntTo hs ts m ≤ m := by
  have := List.countP_le_length (p := fun i => hs.getD i false && !(ts.getD i zeroT 6 == 3)) (l := List.range m)
  rw [List.length_range] at this; exact this

def markD (ts : List (Nat → Int)) (donor : Int) : List Bool := ts.map fun t => t 1 == donor
def markTo (ts : List (Nat → Int)) (donor : Int) (m : Nat) : List Bool := (markD ts donor).take m ++ List.replicate (ts.length - m) false
theorem markTo_len (ts : List (Nat → Int)) (donor : Int) (m : Nat) (h : m ≤ ts.length) : (markTo ts donor m).length = ts.length := by simp [markTo, markD]; omega
theorem markTo_zero (ts : List (Nat → Int)) (donor : Int) : markTo ts donor 0 = List.replicate ts.length false := by simp [markTo]
theorem markTo_all (ts : List (Nat → Int)) (donor : Int) : markTo ts donor ts.length = markD ts donor := by
  have : ts.length = (markD ts donor).length := by simp [markD]
  unfold markTo
  rw [Nat.sub_self, List.replicate_zero, List.append_nil, this, List.take_length]
theorem markTo_set (ts : List (Nat → Int)) (donor : Int) (m : Nat) (h : m < ts.length) : (markTo ts donor m).set m (ts[m] 1 == donor) = markTo ts donor (m + 1) := by
  have hl : m < (markD ts donor).length := by simpa [markD] using h
  unfold markTo
  rw [List.set_append_right _ _ (by simp; omega), List.take_succ_eq_append_getElem hl]
  have e : ts.length - m = (ts.length - (m + 1)) + 1 := by omega
  have e2 : m - ((markD ts donor).take m).length = 0 := by simp; omega
  rw [e2, e, List.replicate_succ, List.set_cons_zero]
  simp [markD]

noncomputable def hitD (k : Bk) (donor : Int) : List Bool := List.zipWith (fun a b => a || b) (markD k.tubes donor) (reachL k (markD k.tubes donor) true)
theorem hitD_at (k : Bk) (donor : Int) {m : Nat} (h1 : m < (markD k.tubes donor).length) (h2 : m < (reachL k (markD k.tubes donor) true).length) : (hitD k donor).getD m false = ((markD k.tubes donor)[m] || (reachL k (markD k.tubes donor) true)[m]) := by
  rw [List.getD_eq_getElem?_getD, hitD, List.getElem?_zipWith, List.getElem?_eq_getElem h1, List.getElem?_eq_getElem h2]; rfl
/-- The books behind a withdrawal, and how many it destroyed. -/
noncomputable def wdB (k : Bk) (donor : Int) : Bk := k.withTubes (hitTo endT (hitD k donor) k.tubes k.tubes.length)
noncomputable def wdN (k : Bk) (donor : Int) : Nat := cntTo (hitD k donor) k.tubes k.tubes.length

set_option maxRecDepth 8000 in
set_option maxHeartbeats 2000000 in
theorem withdraw_any (b : Nat) (vt vp : Value) (k : Bk) (donor : Int) (w : World) (h : BkAt w b vt vp k) (hsm : Small k) (hw : Wired k) :
    Calls Tryz.prog 76 #[.pointer (some ⟨b, 0, none⟩), .int .i64 donor] w fun e w' => e = .returned (.int .i64 (wdN k donor)) ∧ BkAt w' b vt vp (wdB k donor) ∧ Keeps (fun g => vt.ownBlock = some g) w w' := by
  obtain ⟨i0, hi, hz0, hz1, hz2⟩ := info_parts Tryz.infoBool
  have hct := h.ct
  have hbl := h.lt
  have hfew := h.few.1
  have HB := hid h
  have HW := hid hw
  have HSm := hid hsm.tubes
  obtain ⟨oa, cap, rfl, _⟩ := h.tubes.form
  clear hsm hw
  go_enter Tryz.func76, Tryz.ntmps76
  go_wp2_with (at_make; refine wpList_make_full _ rfl _ _ 163 rfl w.heap.size 4 i0 (.bool false) 1 Tryz.underlying163 hi hz0 hz1 .i64 .i64 _ _ k.tubes.length rfl rfl rfl rfl (by rw [hz2]; omega) (by unfold maxLen; omega) (by simp) ?_; intro w0 hown0 hgrow0)
  have hO := own_marks hown0
  rw [← markTo_zero k.tubes donor] at hO
  have hsz0 : w.heap.size < w0.heap.size := by have := hown0.lt w.heap.size rfl; omega
  have hB0 : Below w.heap.size w w0 := Below.grown (Below.refl _ _) hgrow0 (by simp) (fun k hk => by cases hk)
  clear hown0 hgrow0
  go_wp2_with fail
  go_loopg [6] k.tubes.length (fun gk iv wr => ∃ m : Nat, m + gk = k.tubes.length ∧ iv = .int .i64 m ∧ Marks wr (.slice (some ⟨w.heap.size, 0, none⟩) k.tubes.length k.tubes.length) (markTo k.tubes donor m) ∧ Below w.heap.size w wr)
  case atStart => exact ⟨0, by omega, rfl, hO, hB0⟩
  case round =>
    clear hO hB0 hsz0
    obtain ⟨m, hm', rfl, hO, hbel⟩ := hrel
    have HM := hid hm'
    have hmle : m ≤ k.tubes.length := by omega
    clear hm'
    have hctr := (hbel.cell (p := ⟨b, 10, none⟩) hbl).trans hct
    by_cases hlt : m < k.tubes.length
    · have hlt' : (m : Int) < (k.tubes.length : Int) := by omega
      obtain ⟨g, rfl, hn, hcap, hgl, _, t1, _⟩ := HB.out.tube (m := m) hlt
      have t1r := (hbel.cell (p := ⟨g, m * 11 + 1, none⟩) hgl).trans t1
      have hml : m < (markTo k.tubes donor m).length := by rw [markTo_len _ _ _ hmle]; exact hlt
      obtain ⟨hcm, hfz⟩ := hO.at hml
      have HOs := hid (hO.set (g := w.heap.size) rfl hml (k.tubes[m] 1 == donor))
      rw [markTo_set _ _ _ hlt] at HOs
      clear t1
      generalize k.tubes[m] 1 = q at *
      go_wp2
      go_roundg (k.tubes.length - (m + 1))
      case measure => have := HM.out; omega
      case rel => exact ⟨m + 1, by have := HM.out; omega, by go_num, HOs.out, hbel.setCell (by simp) _⟩
    · have hme : m = k.tubes.length := by omega
      have hO1 : Marks wr (.slice (some ⟨w.heap.size, 0, none⟩) k.tubes.length k.tubes.length) (markD k.tubes donor) := by
        rw [← markTo_all]; rw [hme] at hO; exact hO
      have HBr := hid (HB.out.keeps (S := fun g => w.heap.size ≤ g) ⟨hbel.os, hbel.tape, hbel.output, hbel.size, fun k hk _ => hbel.block k hk⟩ (fun g hg h2 => by have := HB.out.own_lt hg; omega))
      have hlD : (markD k.tubes donor).length = k.tubes.length := by simp [markD]
      clear hme hO
      go_wp2_with (go_at_call 93; refine (reach_any b _ _ _ k _ true _ HBr.out hO1 hlD HW.out).mono ?_; rintro e w1 ⟨vb, rfl, hR, hb1, hfr⟩)
      have hzr := hbel.size
      have hBe : Below w.heap.size w w1 := hbel.trans (hb1.mono hzr)
      have hO2 := hO1.below hb1
      have hK1 : BkAt w1 b (.slice oa k.tubes.length cap) vp (k.withTubes (hitTo endT (hitD k donor) k.tubes 0)) := by rw [hitTo_zero]; exact HBr.out.below hb1
      have HFr := hid (fun g hg => Nat.le_trans hzr (hfr g hg))
      have HBf0 := hid hR.form
      clear hO1 HBr hbel hctr hb1 hfr hzr hmle hlt hR
      obtain ⟨ob, cb, rfl, hbf⟩ := HBf0.out
      have HBf := hid hbf
      have hsz1 := hO2.lt w.heap.size rfl
      have hmD : ∀ m (h : m < k.tubes.length), m < (markD k.tubes donor).length := fun m h => by rw [hlD]; exact h
      have hmR : ∀ m (h : m < k.tubes.length), m < (reachL k (markD k.tubes donor) true).length := fun m h => by rw [reachL_len]; exact h
      have HmD := hid hmD
      have HmR := hid hmR
      have HO2 := hid hO2
      have HHd := hid (fun m (h : m < k.tubes.length) => hitD_at k donor (HmD.out m h) (HmR.out m h))
      have HN := hid (show (wdN k donor : Int) = (cntTo (hitD k donor) k.tubes k.tubes.length : Nat) from rfl)
      have HW2 := hid (show wdB k donor = k.withTubes (hitTo endT (hitD k donor) k.tubes k.tubes.length) from rfl)
      rw [reachL_len] at HFr ⊢
      clear hbf hmD hmR hO2 hlD HBf0
      go_wp2_with fail
      go_loopg [8, 9] k.tubes.length (fun gk nv iv wr => ∃ m : Nat, m + gk = k.tubes.length ∧ nv = .int .i64 (cntTo (hitD k donor) k.tubes m : Nat) ∧ iv = .int .i64 m ∧ BkAt wr b (.slice oa k.tubes.length cap) vp (k.withTubes (hitTo endT (hitD k donor) k.tubes m)) ∧ Keeps (fun g => (Value.slice oa k.tubes.length cap).ownBlock = some g) w1 wr)
      case atStart => exact ⟨0, by omega, rfl, rfl, hK1, Keeps.refl _ _⟩
      case round =>
        clear hK1
        obtain ⟨m, hm', rfl, rfl, hK, hkp⟩ := hrel
        have HM := hid hm'
        have hmle : m ≤ k.tubes.length := by omega
        clear hm'
        have hctr := hK.ct
        by_cases hlt : m < k.tubes.length
        · have hlt' : (m : Int) < (k.tubes.length : Int) := by omega
          have hlm : m < (hitTo endT (hitD k donor) k.tubes m).length := by rw [hitTo_len]; exact hlt
          have hcle := cntTo_le (hitD k donor) k.tubes m
          have HCS := hid (cntTo_step (hitD k donor) k.tubes m hlt)
          obtain ⟨g, rfl, hn, hcap, hgl, _, _, _, t3, _, t5, t6, _, t8, t9, t10, hfz⟩ := hK.tube (m := m) hlm
          have hat : (k.withTubes (hitTo endT (hitD k donor) k.tubes m)).tubes[m] = k.tubes[m] := hitTo_at _ _ _ m hlt
          rw [hat] at t3 t5 t6
          clear hn
          have hgw : g < w.heap.size := HB.out.own_lt (.inr (.inl rfl))
          have hmcr := (hkp.cell (p := ⟨w.heap.size, m, none⟩) hsz1.2 (fun e => by have e' : g = w.heap.size := Option.some.inj e; omega)).trans (HO2.out.at (HmD.out m hlt)).1
          obtain ⟨gb, rfl, hbc, _, hgbl, hbcell, _⟩ := HBf.out m (HmR.out m hlt)
          rw [reachL_len] at hbc
          have hgbw : w.heap.size ≤ gb := HFr.out gb rfl
          have hbr := (hkp.cell (p := ⟨gb, m, none⟩) hgbl (fun e => by have e' : g = gb := Option.some.inj e; omega)).trans hbcell
          have b3 := HSm.out k.tubes[m] (List.getElem_mem hlt) 3
          have b5 := HSm.out k.tubes[m] (List.getElem_mem hlt) 5
          have HH := hid (HHd.out m hlt)
          have HST := hid (fun i n => setT_hitTo endT (hitD k donor) k.tubes m hlt i n)
          have HSe := hid (hitTo_set endT (hitD k donor) k.tubes m hlt)
          have HSa := hid (hitTo_same endT (hitD k donor) k.tubes m hlt)
          have hg : (Value.slice (some ⟨g, 0, none⟩) k.tubes.length cap).ownBlock = some g := rfl
          have hgb : ¬ g = b := fun e => hK.nt (by rw [← e]; rfl)
          have hbg : ¬ b = g := fun e => hgb e.symm
          clear hat hbcell
          generalize (markD k.tubes donor)[m]'(HmD.out m hlt) = x1 at *
          generalize (reachL k (markD k.tubes donor) true)[m]'(HmR.out m hlt) = x2 at *
          by_cases hst : k.tubes[m] 6 = 3
          · have R1 : Hid (BkAt wr b (.slice (some ⟨g, 0, none⟩) k.tubes.length cap) vp (k.withTubes (hitTo endT (hitD k donor) k.tubes (m + 1)))) := by
              rw [← HSa.out (fun _ => by unfold endT; rw [if_pos hst])]; exact hK
            have R2 : Hid (cntTo (hitD k donor) k.tubes (m + 1) = cntTo (hitD k donor) k.tubes m) := by
              rw [HCS.out, if_neg (fun h => h.2 hst)]; exact hid rfl
            rw [hst] at t6
            clear HST HSe HSa HCS HH hst
            generalize cntTo (hitD k donor) k.tubes m = cc at *
            generalize k.tubes[m] = t at *
            rcases x1.eq_false_or_eq_true with rfl | rfl <;> rcases x2.eq_false_or_eq_true with rfl | rfl
            all_goals
              go_wp2
              go_roundg (k.tubes.length - (m + 1))
              case measure => have := HM.out; omega
              case rel => exact ⟨m + 1, by have := HM.out; omega, by rw [R2.out], by go_num, R1.out, hkp⟩
          · have hst' : (k.tubes[m] 6 != 3) = true := by rw [bne_iff_ne]; exact hst
            rcases (fire_ways x1 x2) with ⟨rfl, rfl⟩ | hx
            · have R1 : Hid (BkAt wr b (.slice (some ⟨g, 0, none⟩) k.tubes.length cap) vp (k.withTubes (hitTo endT (hitD k donor) k.tubes (m + 1)))) := by
                rw [← HSa.out (fun h => by rw [HH.out] at h; cases h)]; exact hK
              have R2 : Hid (cntTo (hitD k donor) k.tubes (m + 1) = cntTo (hitD k donor) k.tubes m) := by
                rw [HCS.out, if_neg (fun h => by rw [HH.out] at h; cases h.1)]; exact hid rfl
              clear HST HSe HSa HCS HH hst
              generalize cntTo (hitD k donor) k.tubes m = cc at *
              generalize k.tubes[m] = t at *
              go_wp2
              go_roundg (k.tubes.length - (m + 1))
              case measure => have := HM.out; omega
              case rel => exact ⟨m + 1, by have := HM.out; omega, by rw [R2.out], by go_num, R1.out, hkp⟩
            · have hhit : (hitD k donor).getD m false = true := by rw [HH.out]; rcases hx with rfl | ⟨rfl, rfl⟩ <;> rfl
              have R2 : Hid (cntTo (hitD k donor) k.tubes (m + 1) = cntTo (hitD k donor) k.tubes m + 1) := by
                rw [HCS.out, if_pos ⟨hhit, hst⟩]; exact hid rfl
              have e1 : endT k.tubes[m] = upd (upd (upd (upd (upd (upd k.tubes[m] 6 3) 5 (k.tubes[m] 5 + k.tubes[m] 3)) 3 0) 8 0) 9 0) 10 0 := by unfold endT; rw [if_neg hst]
              have r1 := hK.setTube hg (i := m) (f := 6) hlm (by omega) 3
              have r2 := r1.setTube hg (i := m) (f := 5) (by show m < (setT _ m 6 _).length; rw [setT_len]; exact hlm) (by omega) (k.tubes[m] 5 + k.tubes[m] 3)
              have r3 := r2.setTube hg (i := m) (f := 3) (by show m < (setT (setT _ m 6 _) m 5 _).length; rw [setT_len, setT_len]; exact hlm) (by omega) 0
              have hl3 : m < (setT (setT (setT (hitTo endT (hitD k donor) k.tubes m) m 6 3) m 5 (k.tubes[m] 5 + k.tubes[m] 3)) m 3 0).length := by rw [setT_len, setT_len, setT_len]; exact hlm
              have e2 : goneT (setT (setT (setT (hitTo endT (hitD k donor) k.tubes m) m 6 3) m 5 (k.tubes[m] 5 + k.tubes[m] 3)) m 3 0) m = hitTo endT (hitD k donor) k.tubes (m + 1) := by
                unfold goneT
                rw [HST.out, setT_set _ m hlm, setT_set _ m hlm, setT_set _ m hlm, setT_set _ m hlm, setT_set _ m hlm, ← e1]
                exact HSe.out hhit
              have R3 := hid r3.drew
              have E2 := hid e2
              have HL3 := hid hl3
              clear HST HSe HSa HCS HH hst r1 r2 r3 e1 e2 hhit hl3
              have hkp3 := (((hkp.set1 hg (m * 11 + 6) (.int .i64 3)).set1 hg (m * 11 + 5) (.int .i64 (k.tubes[m] 5 + k.tubes[m] 3))).set1 hg (m * 11 + 3) (.int .i64 0))
              have HK3 := hid hkp3.drew
              clear hkp3
              generalize cntTo (hitD k donor) k.tubes m = cc at *
              generalize k.tubes[m] = t at *
              rcases hx with rfl | ⟨rfl, rfl⟩
              all_goals
                go_wp2_with fail
                go_region
                go_wp2_with (go_at_call 75; refine (gone_any b _ _ _ m HL3.out _ R3.out).mono ?_; rintro e w5 ⟨rfl, hK5, hkp5⟩)
                go_roundg (k.tubes.length - (m + 1))
                case measure => have := HM.out; omega
                case rel => exact ⟨m + 1, by have := HM.out; omega, by rw [R2.out]; go_num, by go_num, by rw [← E2.out]; exact hK5, HK3.out.trans hkp5⟩
        · have hme : m = k.tubes.length := by omega
          have R1 : Hid (BkAt wr b (.slice oa k.tubes.length cap) vp (wdB k donor)) := by rw [HW2.out]; rw [hme] at hK; exact hK
          have R2 : Hid ((wdN k donor : Int) = (cntTo (hitD k donor) k.tubes m : Nat)) := by rw [HN.out, hme]; exact hid rfl
          clear hme
          generalize cntTo (hitD k donor) k.tubes m = cc at *
          go_wp2
          go_ret
          exact ⟨ret_int R2.out.symm, R1.out, ((Keeps.refl _ w).below hBe (Nat.le_refl _)).trans hkp⟩

end Go.Proofs.YtbpnllhhmookcaaGreatDoor

/- What tells of the books of package firnref returns: Of. -/
namespace Go.Proofs.YtbpnllhhmookcaaGreatDoor
open Go.RowKit

set_option maxRecDepth 8000 in
set_option maxHeartbeats 2000000 in
theorem tells_of (b : Nat) (vt vp : Value) (k : Bk) (c : Nat → Int) (w : World) (h : BkAt w b vt vp k) (hk : c 0 = 14) :
    Calls Tryz.prog 78 #[.pointer (some ⟨b, 0, none⟩), .agg #[.int .i64 (c 0), .int .i64 (c 1), .int .i64 (c 2), .int .i64 (c 3), .int .i64 (c 4), .int .i64 (c 5), .int .i64 (c 6), .int .i64 (c 7), .int .i64 (c 8)]] w fun e w' => ∃ v, e = .returned v ∧ IntsIn w' v (askL k.tubes (markD k.tubes (c 3))) ∧ Below w.heap.size w w' := by
  obtain ⟨i0, hi, hz0, hz1, hz2⟩ := info_parts Tryz.infoInt
  have hC0 := Has.new w 31 c
  have hb0 := (Below.refl w.heap.size w).alloc (Nat.le_refl _) (.cells #[.int .i64 (c 0), .int .i64 (c 1), .int .i64 (c 2), .int .i64 (c 3), .int .i64 (c 4), .int .i64 (c 5), .int .i64 (c 6), .int .i64 (c 7), .int .i64 (c 8)] 31)
  have hK0 := h.below hb0
  have hfew := h.few.1
  obtain ⟨oa, cap, rfl, _⟩ := h.tubes.form
  rw [hk] at hC0 hb0 hK0 ⊢
  go_enter Tryz.func78, Tryz.ntmps78
  go_wp2_with (go_at_call 69; refine (find_any b _ _ k _ _ hK0).mono ?_; rintro e w' ⟨rfl, rfl⟩)
  have hz1' : w.heap.size < (w.alloc (.cells #[.int .i64 14, .int .i64 (c 1), .int .i64 (c 2), .int .i64 (c 3), .int .i64 (c 4), .int .i64 (c 5), .int .i64 (c 6), .int .i64 (c 7), .int .i64 (c 8)] 31)).heap.size := by simp
  generalize w.alloc (.cells #[.int .i64 14, .int .i64 (c 1), .int .i64 (c 2), .int .i64 (c 3), .int .i64 (c 4), .int .i64 (c 5), .int .i64 (c 6), .int .i64 (c 7), .int .i64 (c 8)] 31) = w1 at *
  have HK := hid hK0
  have hct := hK0.ct
  have hbl := hK0.lt
  have c3 := hC0.1 3 (by omega)
  clear hC0 hK0
  go_wp2_with fail
  go_loopg [5, 9] k.tubes.length (fun gk v i wr => ∃ m : Nat, m + gk = k.tubes.length ∧ i = .int .i64 m ∧ wr.ownsRow w1.heap.size 3 1 v (askTo k.tubes (markD k.tubes (c 3)) m).length (intCells (askTo k.tubes (markD k.tubes (c 3)) m)) ∧ Below w1.heap.size w1 wr)
  case atStart => exact ⟨0, by omega, rfl, World.ownsRow_nil _ _ _ _, Below.refl _ _⟩
  case round =>
    obtain ⟨m, hm', rfl, hown, hbel⟩ := hrel
    have HM := hid hm'
    have hmle : m ≤ k.tubes.length := by omega
    clear hm'
    have hsz := hbel.size
    have hctr := (hbel.cell (p := ⟨b, 10, none⟩) hbl).trans hct
    have c3r := (hbel.cell (p := ⟨w.heap.size, 3, none⟩) hz1').trans c3
    by_cases hlt : m < k.tubes.length
    · obtain ⟨g, rfl, hn, hcap, hgl, t0, t1, _⟩ := HK.out.tube (m := m) hlt
      have HT0 := hid t0
      have t1r := (hbel.cell (p := ⟨g, m * 11 + 1, none⟩) hgl).trans t1
      have hlt' : (m : Int) < (k.tubes.length : Int) := by omega
      have hmb : m < (markD k.tubes (c 3)).length := by simpa [markD] using hlt
      have hal := askTo_len k.tubes (markD k.tubes (c 3)) m
      have hme : (markD k.tubes (c 3))[m] = (k.tubes[m] 1 == c 3) := by simp [markD]
      clear t0 t1 hn
      by_cases hbm : k.tubes[m] 1 = c 3
      · have HS := hid (askTo_in hlt hmb (by rw [hme]; simpa using hbm))
        rw [hbm] at t1r
        clear hme hbm
        generalize k.tubes[m] 0 = id at *
        generalize askTo k.tubes (markD k.tubes (c 3)) m = cur at *
        go_wp2_with fail
        go_quiet (fail)
        have hbel2 := below_drewN hbel nq
        have hown2 : (wr.drewN nq).ownsRow w1.heap.size 3 1 u5 cur.length (intCells cur) := hown
        clear hctr c3r t1r hown hbel hsz
        generalize wr.drewN nq = wr at *
        have hown := hown2
        have hbel := hbel2
        have hsz := hbel.size
        have hctr := (hbel.cell (p := ⟨b, 10, none⟩) hbl).trans hct
        have t0r := (hbel.cell (p := ⟨g, m * 11, none⟩) hgl).trans HT0.out
        go_wp2_with (at_builtin; refine wpList_append_own _ rfl _ _ 36 rfl w1.heap.size 3 i0 (.int .i64 0) 1 8 Tryz.underlying36 hi hz0 hz1 hz2 rfl (by decide) _ _ _ rfl (hown.alloc _) ⟨wr.heap.size, 0, none⟩ 1 1 [.int .i64 id] rfl rfl (app_cell wr _) (by intro u hu; simp at hu; subst hu; rfl) (by unfold maxLen; omega) (by omega) (by simp; omega) ?_; intro v' w2 hown' hgrow' _)
        go_roundg (k.tubes.length - (m + 1))
        case measure => have := HM.out; omega
        case rel =>
          refine ⟨m + 1, by have := HM.out; omega, by go_num, ?_, ?_⟩
          · rw [HS.out]; simpa [intCells] using hown'
          · exact (hbel.alloc (by omega) _).grown hgrow' (by simp; omega) (fun k hk => (hown.lt k hk).1)
      · have HS := hid (askTo_out (ts := k.tubes) hmb (by rw [hme]; simpa using hbm))
        have hz : (k.tubes[m] 1 == c 3) = false := by simpa using hbm
        clear hme hbm
        generalize k.tubes[m] 1 = q at *
        go_wp2_with fail
        go_quiet (fail)
        go_wp2
        go_roundg (k.tubes.length - (m + 1))
        case measure => have := HM.out; omega
        case rel => exact ⟨m + 1, by have := HM.out; omega, by go_num, by rw [HS.out]; exact hown, below_drewN hbel _⟩
    · have hme : m = k.tubes.length := by omega
      have HA := hid (show askL k.tubes (markD k.tubes (c 3)) = askTo k.tubes (markD k.tubes (c 3)) m by rw [hme]; rfl)
      clear hme
      go_wp2
      go_ret
      exact ⟨_, rfl, by rw [HA.out]; exact own_intsIn hown rfl, hb0.trans (hbel.mono (by omega))⟩

end Go.Proofs.YtbpnllhhmookcaaGreatDoor

/- What tells of the books of package firnref returns: Up, Down. -/
namespace Go.Proofs.YtbpnllhhmookcaaGreatDoor
open Go.RowKit

def markOne (n i : Nat) : List Bool := (List.replicate n false).set i true

theorem make_marks {w1 w2 : World} {base n i s : Nat} (hown : w2.ownsRow base 4 1 (.slice (some ⟨w1.heap.size, 0, none⟩) n n) n (madeCells (Value.cells (.bool false)) (n * 1)).toList) (hgrow : w1.grownBy w2 none) (hs : w1.heap.size = s) (hi : i < n) :
    Marks (w2.setCell ⟨s, i, none⟩ (.bool true)) (.slice (some ⟨s, 0, none⟩) n n) (markOne n i) ∧ Below s w1 (w2.setCell ⟨s, i, none⟩ (.bool true)) ∧ Below s w1 w2 ∧ w2.cell? ⟨s, i, none⟩ = some (.bool false) ∧ ∀ j, w2.frozen? ⟨s, j, none⟩ = false := by
  subst hs
  have hO := own_marks hown
  have hir : i < (List.replicate n false).length := by simpa using hi
  have hB2 : Below w1.heap.size w1 w2 := Below.grown (Below.refl _ _) hgrow (Nat.le_refl _) (fun k hk => by cases hk)
  obtain ⟨hci, hfz⟩ := hO.at hir
  refine ⟨hO.set (g := w1.heap.size) rfl hir true, hB2.setCell (by simp) _, hB2, ?_, hfz⟩
  rw [hci, List.getElem_replicate]

set_option maxRecDepth 8000 in
set_option maxHeartbeats 2000000 in
theorem tells_way (b : Nat) (vt vp : Value) (k : Bk) (c : Nat → Int) (down : Bool) (i : Nat) (w : World) (h : BkAt w b vt vp k) (hw : Wired k) (hk : c 0 = if down then 16 else 15) (hf : findI k.tubes (c 1) = i) (hil : i < k.tubes.length) :
    Calls Tryz.prog 78 #[.pointer (some ⟨b, 0, none⟩), .agg #[.int .i64 (c 0), .int .i64 (c 1), .int .i64 (c 2), .int .i64 (c 3), .int .i64 (c 4), .int .i64 (c 5), .int .i64 (c 6), .int .i64 (c 7), .int .i64 (c 8)]] w fun e w' => ∃ v, e = .returned v ∧ IntsIn w' v (askL k.tubes (reachL k (markOne k.tubes.length i) down)) ∧ Below w.heap.size w w' := by
  obtain ⟨i0, hi, hz0, hz1, hz2⟩ := info_parts Tryz.infoBool
  have hC0 := Has.new w 31 c
  have hb0 := (Below.refl w.heap.size w).alloc (Nat.le_refl _) (.cells #[.int .i64 (c 0), .int .i64 (c 1), .int .i64 (c 2), .int .i64 (c 3), .int .i64 (c 4), .int .i64 (c 5), .int .i64 (c 6), .int .i64 (c 7), .int .i64 (c 8)] 31)
  have hK0 := h.below hb0
  have hfew := h.few.1
  have HW := hid hw
  obtain ⟨oa, cap, rfl, _⟩ := h.tubes.form
  have hil' : (i : Int) < (k.tubes.length : Int) := by omega
  have hlr := reachL_len k (markOne k.tubes.length i) down
  have HLR := hid hlr
  have hz1' : w.heap.size < (w.alloc (.cells #[.int .i64 (c 0), .int .i64 (c 1), .int .i64 (c 2), .int .i64 (c 3), .int .i64 (c 4), .int .i64 (c 5), .int .i64 (c 6), .int .i64 (c 7), .int .i64 (c 8)] 31)).heap.size := by simp
  clear hw hlr
  cases down
  all_goals
    simp only [Bool.false_eq_true, if_false, if_true] at hk
    rw [hk] at hC0 hb0 hK0 hz1' ⊢
    go_enter Tryz.func78, Tryz.ntmps78
    have hct := hK0.ct
    have hbl := hK0.lt
    have c0 := hC0.1 0 (by omega)
    have c1 := hC0.1 1 (by omega)
    rw [hk] at c0
    have HB0 := hid hb0
    have HLM := hid (show (markOne k.tubes.length i).length = k.tubes.length by simp [markOne])
    have hbw := h.lt
    have HK0 := hid hK0
    clear hb0 hK0 hC0
    go_wp2_with (first
      | (go_at_call 69; refine (find_any b _ _ k _ _ HK0.out).mono ?_; rintro e w' ⟨rfl, rfl⟩; rw [hf])
      | (at_make; refine wpList_make_full _ rfl _ _ 163 rfl w.heap.size 4 i0 (.bool false) 1 Tryz.underlying163 hi hz0 hz1 .i64 .i64 _ _ k.tubes.length rfl rfl rfl rfl (by rw [hz2]; omega) (by unfold maxLen; omega) (by simp) ?_; intro w2 hown2 hgrow2; obtain ⟨hM, hB3, hB2, hci, hfz⟩ := make_marks (s := w.heap.size + 1) hown2 hgrow2 (by simp) hil; have c0r := (hB2.cell (p := ⟨w.heap.size, 0, none⟩) (by simp)).trans c0; have hctr := (hB2.cell (p := ⟨b, 10, none⟩) (by simp; omega)).trans hct; have HO3 := hid hM; have HB3 := hid hB3; have HK3 := hid (HK0.out.below (hB3.mono (by simp))); clear hown2 hgrow2 hM hB3)
      | (go_at_call 93; refine (reach_any b _ _ _ k _ _ _ HK3.out HO3.out HLM.out HW.out).mono ?_; rintro e w4 ⟨vb, rfl, hR, hb4, hfr⟩)
      | (go_at_call 94; refine (asked_any b _ _ _ k _ _ (HK3.out.below hb4) hR HLR.out).mono ?_; rintro e w5 ⟨vr, rfl, hI, hb5⟩))
    go_ret
    have s1 := HB0.out.size
    have s3 := HB3.out.size
    have s4 := hb4.size
    exact ⟨_, rfl, hI, HB0.out.trans ((HB3.out.mono (by omega)).trans ((hb4.mono (Nat.le_trans s1 s3)).trans (hb5.mono (Nat.le_trans (Nat.le_trans s1 s3) s4))))⟩

end Go.Proofs.YtbpnllhhmookcaaGreatDoor

/- What tells of the books of package firnref returns: Show. -/
namespace Go.Proofs.YtbpnllhhmookcaaGreatDoor
open Go.RowKit

/-- What is told of a tube. -/
def showL (t : Nat → Int) : List Int := [t 1, t 2, t 3, t 4, t 5, t 6, t 7, t 8, t 9, t 10]

theorem new_ints (w : World) (zs : List Int) (s : Nat) (hs : w.heap.size = s) : IntsIn (w.alloc (.cells (zs.map fun z => Value.int .i64 z).toArray 3)) (.slice (some ⟨s, 0, none⟩) zs.length zs.length) zs := by
  subst hs
  refine .inl ⟨w.heap.size, zs.length, rfl, by simp, fun i hi => ?_⟩
  rw [World.cell?_alloc_new]
  simp [hi]

set_option maxRecDepth 8000 in
set_option maxHeartbeats 2000000 in
theorem tells_show (b : Nat) (vt vp : Value) (k : Bk) (c : Nat → Int) (i : Nat) (w : World) (h : BkAt w b vt vp k) (hk : c 0 = 12) (hf : findI k.tubes (c 1) = i) (hil : i < k.tubes.length) :
    Calls Tryz.prog 78 #[.pointer (some ⟨b, 0, none⟩), .agg #[.int .i64 (c 0), .int .i64 (c 1), .int .i64 (c 2), .int .i64 (c 3), .int .i64 (c 4), .int .i64 (c 5), .int .i64 (c 6), .int .i64 (c 7), .int .i64 (c 8)]] w fun e w' => ∃ v, e = .returned v ∧ IntsIn w' v (showL k.tubes[i]) ∧ Below w.heap.size w w' := by
  have hb0 := (Below.refl w.heap.size w).alloc (Nat.le_refl _) (.cells #[.int .i64 (c 0), .int .i64 (c 1), .int .i64 (c 2), .int .i64 (c 3), .int .i64 (c 4), .int .i64 (c 5), .int .i64 (c 6), .int .i64 (c 7), .int .i64 (c 8)] 31)
  have hK0 := h.below hb0
  have hfew := h.few.1
  obtain ⟨oa, cap, rfl, _⟩ := h.tubes.form
  have hil' : (i : Int) < (k.tubes.length : Int) := by omega
  rw [hk] at hb0 hK0 ⊢
  obtain ⟨g, rfl, hn, hcap, hgl, t0, t1, t2, t3, t4, t5, t6, t7, t8, t9, t10, hfz⟩ := hK0.tube hil
  have hct := hK0.ct
  have hbl := hK0.lt
  have hbw := h.lt
  clear hn
  go_enter Tryz.func78, Tryz.ntmps78
  generalize k.tubes[i] = t at *
  go_wp2_with (go_at_call 69; refine (find_any b _ _ k _ _ hK0).mono ?_; rintro e w' ⟨rfl, rfl⟩; rw [hf])
  go_ret
  exact ⟨_, rfl, new_ints _ (showL t) _ (by simp), (hb0.alloc (by simp) _).alloc (by simp; omega) _⟩

end Go.Proofs.YtbpnllhhmookcaaGreatDoor

/- What tells of the books of package firnref returns: Content (its words alone; not walked yet). -/
namespace Go.Proofs.YtbpnllhhmookcaaGreatDoor
open Go.RowKit

/-- What lies in a box among the first m tubes. -/
def contTo (ts : List (Nat → Int)) (box : Int) (m : Nat) : List Int := (List.range m).flatMap fun i => if (ts.getD i zeroT) 8 = box then [(ts.getD i zeroT) 0, (ts.getD i zeroT) 9, (ts.getD i zeroT) 10] else []
def contL (ts : List (Nat → Int)) (box : Int) : List Int := contTo ts box ts.length
theorem contTo_in {ts : List (Nat → Int)} {box : Int} {m : Nat} (h : m < ts.length) (e : ts[m] 8 = box) : contTo ts box (m + 1) = contTo ts box m ++ [ts[m] 0, ts[m] 9, ts[m] 10] := by
  unfold contTo
  rw [List.range_succ, List.flatMap_append, List.flatMap_cons, List.flatMap_nil, List.append_nil, getD_T h, if_pos e]
theorem contTo_out {ts : List (Nat → Int)} {box : Int} {m : Nat} (h : m < ts.length) (e : ¬ ts[m] 8 = box) : contTo ts box (m + 1) = contTo ts box m := by
  unfold contTo
  rw [List.range_succ, List.flatMap_append, List.flatMap_cons, List.flatMap_nil, List.append_nil, getD_T h, if_neg e, List.append_nil]
theorem contTo_len (ts : List (Nat → Int)) (box : Int) : ∀ m, (contTo ts box m).length ≤ 3 * m
  | 0 => by simp [contTo]
  | m + 1 => by
    have := contTo_len ts box m
    unfold contTo at *
    rw [List.range_succ, List.flatMap_append, List.length_append, List.flatMap_cons, List.flatMap_nil, List.append_nil]
    split <;> simp only [List.length_cons, List.length_nil] <;> omega
theorem app_cell3 (w : World) (x y z : Int) : ∀ j u, [Value.int .i64 x, .int .i64 y, .int .i64 z][j]? = some u → (w.alloc (.cells #[.int .i64 x, .int .i64 y, .int .i64 z] 3)).cell? ((⟨w.heap.size, 0, none⟩ : Addr).add j) = some u := by
  intro j u hj
  match j, hj with
  | 0, hj => simp at hj; subst hj; simp [Addr.add]
  | 1, hj => simp at hj; subst hj; simp [Addr.add]
  | 2, hj => simp at hj; subst hj; simp [Addr.add]

end Go.Proofs.YtbpnllhhmookcaaGreatDoor

/- What tells of the books of package firnref returns: Content. -/
namespace Go.Proofs.YtbpnllhhmookcaaGreatDoor
open Go.RowKit

theorem far_cell {W W' : World} {o : Obj} {row : Option Nat} {p : Addr} {v : Value} (h : W.cell? p = some v) (hg : (W.alloc o).grownBy W' row) (hne : row ≠ some p.block) : W'.cell? p = some v :=
  hg.cell ((((Below.refl _ W).alloc (Nat.le_refl _) o).cell (World.block_lt_of_cell? W p h)).trans h) (fun e => hne e.symm)

set_option maxRecDepth 8000 in
set_option maxHeartbeats 2000000 in
theorem tells_content (b : Nat) (vt vp : Value) (k : Bk) (c : Nat → Int) (w : World) (h : BkAt w b vt vp k) (hk : c 0 = 13) :
    Calls Tryz.prog 78 #[.pointer (some ⟨b, 0, none⟩), .agg #[.int .i64 (c 0), .int .i64 (c 1), .int .i64 (c 2), .int .i64 (c 3), .int .i64 (c 4), .int .i64 (c 5), .int .i64 (c 6), .int .i64 (c 7), .int .i64 (c 8)]] w fun e w' => ∃ v, e = .returned v ∧ IntsIn w' v (contL k.tubes (c 5)) ∧ Below w.heap.size w w' := by
  obtain ⟨i0, hi, hz0, hz1, hz2⟩ := info_parts Tryz.infoInt
  have hC0 := Has.new w 31 c
  have hb0 := (Below.refl w.heap.size w).alloc (Nat.le_refl _) (.cells #[.int .i64 (c 0), .int .i64 (c 1), .int .i64 (c 2), .int .i64 (c 3), .int .i64 (c 4), .int .i64 (c 5), .int .i64 (c 6), .int .i64 (c 7), .int .i64 (c 8)] 31)
  have hK0 := h.below hb0
  have hfew := h.few.1
  obtain ⟨oa, cap, rfl, _⟩ := h.tubes.form
  rw [hk] at hC0 hb0 hK0 ⊢
  go_enter Tryz.func78, Tryz.ntmps78
  go_wp2_with (go_at_call 69; refine (find_any b _ _ k _ _ hK0).mono ?_; rintro e w' ⟨rfl, rfl⟩)
  have hz1' : w.heap.size < (w.alloc (.cells #[.int .i64 13, .int .i64 (c 1), .int .i64 (c 2), .int .i64 (c 3), .int .i64 (c 4), .int .i64 (c 5), .int .i64 (c 6), .int .i64 (c 7), .int .i64 (c 8)] 31)).heap.size := by simp
  generalize w.alloc (.cells #[.int .i64 13, .int .i64 (c 1), .int .i64 (c 2), .int .i64 (c 3), .int .i64 (c 4), .int .i64 (c 5), .int .i64 (c 6), .int .i64 (c 7), .int .i64 (c 8)] 31) = w1 at *
  have HK := hid hK0
  have hct := hK0.ct
  have hbl := hK0.lt
  have c3 := hC0.1 5 (by omega)
  clear hC0 hK0
  go_wp2_with fail
  go_loopg [5, 8] k.tubes.length (fun gk v i wr => ∃ m : Nat, m + gk = k.tubes.length ∧ i = .int .i64 m ∧ wr.ownsRow w1.heap.size 3 1 v (contTo k.tubes (c 5) m).length (intCells (contTo k.tubes (c 5) m)) ∧ Below w1.heap.size w1 wr)
  case atStart => exact ⟨0, by omega, rfl, World.ownsRow_nil _ _ _ _, Below.refl _ _⟩
  case round =>
    obtain ⟨m, hm', rfl, hown, hbel⟩ := hrel
    have HM := hid hm'
    have hmle : m ≤ k.tubes.length := by omega
    clear hm'
    have hsz := hbel.size
    have hctr := (hbel.cell (p := ⟨b, 10, none⟩) hbl).trans hct
    have c3r := (hbel.cell (p := ⟨w.heap.size, 5, none⟩) hz1').trans c3
    by_cases hlt : m < k.tubes.length
    · obtain ⟨g, rfl, hn, hcap, hgl, t0, _, _, _, _, _, _, _, t1, t9, t10, _⟩ := HK.out.tube (m := m) hlt
      have HT0 := hid (And.intro t0 (And.intro t9 t10))
      have t1r := (hbel.cell (p := ⟨g, m * 11 + 8, none⟩) hgl).trans t1
      have hlt' : (m : Int) < (k.tubes.length : Int) := by omega
      have hal := contTo_len k.tubes (c 5) m
      clear t0 t1 t9 t10 hn
      by_cases hbm : k.tubes[m] 8 = c 5
      · have HS := hid (contTo_in hlt hbm)
        rw [hbm] at t1r
        clear hbm
        generalize k.tubes[m] 0 = id at *
        generalize k.tubes[m] 9 = px at *
        generalize k.tubes[m] 10 = py at *
        generalize contTo k.tubes (c 5) m = cur at *
        go_wp2_with fail
        go_quiet (fail)
        have hbel2 := below_drewN hbel nq
        have hown2 : (wr.drewN nq).ownsRow w1.heap.size 3 1 u5 cur.length (intCells cur) := hown
        clear hctr c3r t1r hown hbel hsz
        generalize wr.drewN nq = wr at *
        have hown := hown2
        have hbel := hbel2
        have hsz := hbel.size
        have hctr := (hbel.cell (p := ⟨b, 10, none⟩) hbl).trans hct
        have t0r := (hbel.cell (p := ⟨g, m * 11, none⟩) hgl).trans HT0.out.1
        have t9r := (hbel.cell (p := ⟨g, m * 11 + 9, none⟩) hgl).trans HT0.out.2.1
        have t10r := (hbel.cell (p := ⟨g, m * 11 + 10, none⟩) hgl).trans HT0.out.2.2
        go_wp2_with fail
        have HFar := hid (fun (x : Nat) (hx : x < w1.heap.size) => show Value.ownBlock u5 ≠ some x from fun e => by have := (hown.lt x e).1; omega)
        have HLt := hid (And.intro hbl hgl)
        have hownd : wr.drew.ownsRow w1.heap.size 3 1 u5 cur.length (intCells cur) := hown
        have hszd : w1.heap.size ≤ wr.drew.heap.size := hsz
        go_region_held3 (fun u => u.cell? ⟨b, 10, none⟩ = some (.slice (some ⟨g, 0, none⟩) k.tubes.length cap) ∧ u.cell? ⟨g, m * 11, none⟩ = some (.int .i64 id) ∧ u.cell? ⟨g, m * 11 + 9, none⟩ = some (.int .i64 px) ∧ u.cell? ⟨g, m * 11 + 10, none⟩ = some (.int .i64 py)) (go_keep) (first
          | (refine step_append_lies _ rfl _ _ 36 rfl w1.heap.size 3 i0 (.int .i64 0) 1 8 Tryz.underlying36 hi hz0 hz1 hz2 rfl (by decide) _ _ _ rfl (hownd.alloc _) ⟨wr.drew.heap.size, 0, none⟩ 3 3 [.int .i64 id, .int .i64 px, .int .i64 py] rfl rfl (app_cell3 wr.drew _ _ _) (by intro u hu; simp at hu; rcases hu with rfl | rfl | rfl <;> rfl) (by omega) (by unfold maxLen; omega) (by omega) (by simp; omega) _ rfl ?_; intro g2 cap2 w2 hown' hgrow' _ _; have hctr := far_cell (W := wr.drew) hctr hgrow' (HFar.out b HLt.out.1); have t0r := far_cell (W := wr.drew) t0r hgrow' (HFar.out g HLt.out.2); have t9r := far_cell (W := wr.drew) t9r hgrow' (HFar.out g HLt.out.2); have t10r := far_cell (W := wr.drew) t10r hgrow' (HFar.out g HLt.out.2)))
        go_wp2_with fail
        go_roundg (k.tubes.length - (m + 1))
        case measure => have := HM.out; omega
        case rel =>
          refine ⟨m + 1, by have := HM.out; omega, by go_num, ?_, ?_⟩
          · rw [HS.out]; simpa [intCells] using hown'
          · exact ((hbel.alloc (by omega) _).drew).grown hgrow' (by simp; omega) (fun k hk => (hown.lt k hk).1)
      · have HS := hid (contTo_out hlt hbm)
        have hz : (k.tubes[m] 8 == c 5) = false := by simpa using hbm
        clear hbm
        generalize k.tubes[m] 8 = q at *
        go_wp2_with fail
        go_quiet (fail)
        go_wp2
        go_roundg (k.tubes.length - (m + 1))
        case measure => have := HM.out; omega
        case rel => exact ⟨m + 1, by have := HM.out; omega, by go_num, by rw [HS.out]; exact hown, below_drewN hbel _⟩
    · have hme : m = k.tubes.length := by omega
      have HA := hid (show contL k.tubes (c 5) = contTo k.tubes (c 5) m by rw [hme]; rfl)
      clear hme
      go_wp2
      go_ret
      exact ⟨_, rfl, by rw [HA.out]; exact own_intsIn hown rfl, hb0.trans (hbel.mono (by omega))⟩

end Go.Proofs.YtbpnllhhmookcaaGreatDoor
