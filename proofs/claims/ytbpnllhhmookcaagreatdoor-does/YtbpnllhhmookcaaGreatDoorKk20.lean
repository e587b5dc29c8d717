/- A group: truths of 1000 numbers; add, numbers. -/
import Derived.Test.YtbpnllhhmookcaaGreatDoorKk19
import Derived.Test.YtbpnllhhmookcaaGreatDoorKk02
import Derived.Test.YtbpnllhhmookcaaGreatDoorKk18
import Derived.OwnWalkIn
import Derived.RangeFuncRecord
namespace Go.Proofs.YtbpnllhhmookcaaGreatDoor
open Go.RowKit

def boolsN (n : Nat) (S : Nat → Bool) : Array Value := ((List.range n).map fun i => Value.bool (S i)).toArray
theorem boolsN_get {n : Nat} {S : Nat → Bool} {i : Nat} (hi : i < n) : (boolsN n S)[i]? = some (.bool (S i)) := by simp [boolsN, hi]
theorem boolsN_congr {n : Nat} {S T : Nat → Bool} (e : ∀ i, i < n → S i = T i) : boolsN n S = boolsN n T :=
  congrArg List.toArray (List.map_congr_left fun i hi => by rw [e i (List.mem_range.1 hi)])
theorem boolsN_set {n : Nat} {S : Nat → Bool} {i : Nat} (x : Bool) : (boolsN n S).set! i (.bool x) = boolsN n (fun j => if j = i then x else S j) := by
  apply Array.toList_inj.1
  apply List.ext_getElem?
  intro j
  simp only [boolsN, Array.set!_eq_setIfInBounds, List.setIfInBounds_toArray]
  by_cases hj : j < n
  · by_cases e : j = i
    · subst e; simp [hj]
    · rw [List.getElem?_set_ne (by omega)]; simp [hj, e]
  · rw [List.getElem?_eq_none (by simp; omega), List.getElem?_eq_none (by simp; omega)]
def GroupAt (w : World) (g : Nat) (S : Nat → Bool) : Prop := w.heap[g]? = some (.cells (boolsN 1000 S) 196 (0, 0))
theorem GroupAt.cell {w : World} {g : Nat} {S : Nat → Bool} (h : GroupAt w g S) {i : Nat} (hi : i < 1000) : w.cell? ⟨g, i, none⟩ = some (.bool (S i)) := by
  have := boolsN_get (S := S) hi
  simp only [World.cell?, show w.heap[g]? = _ from h]
  simpa using this
theorem GroupAt.fz {w : World} {g : Nat} {S : Nat → Bool} (h : GroupAt w g S) (i : Nat) : w.frozen? ⟨g, i, none⟩ = false := by simp [World.frozen?, show w.heap[g]? = _ from h]
theorem GroupAt.lt {w : World} {g : Nat} {S : Nat → Bool} (h : GroupAt w g S) : g < w.heap.size := (Array.getElem?_eq_some_iff.1 h).1
theorem GroupAt.congr {w : World} {g : Nat} {S T : Nat → Bool} (h : GroupAt w g S) (e : ∀ i, i < 1000 → S i = T i) : GroupAt w g T := by
  unfold GroupAt at *; rw [← boolsN_congr e]; exact h
theorem GroupAt.set {w : World} {g : Nat} {S : Nat → Bool} (h : GroupAt w g S) (i : Nat) (x : Bool) : GroupAt (w.setCell ⟨g, i, none⟩ (.bool x)) g (fun j => if j = i then x else S j) := by
  unfold GroupAt
  rw [← boolsN_set]
  exact heap_setCell_same w g i _ _ _ h
theorem GroupAt.keeps {X : Nat → Prop} {w w' : World} {g : Nat} {S : Nat → Bool} (h : GroupAt w g S) (hk : Keeps X w w') (hx : ¬ X g) : GroupAt w' g S := (hk.block g h.lt hx).trans h
theorem GroupAt.below {w w' : World} {g : Nat} {S : Nat → Bool} (h : GroupAt w g S) (hb : Below w.heap.size w w') : GroupAt w' g S := (hb.block g h.lt).trans h

def orL (S : Nat → Bool) (zs : List Nat) : Nat → Bool := fun j => S j || zs.contains j
theorem orL_step (S : Nat → Bool) (zs : List Nat) (z j : Nat) : (if j = z then true else orL S zs j) = orL S (zs ++ [z]) j := by
  unfold orL
  by_cases h : j = z
  · subst h; simp
  · simp [h]
theorem orL_nil (S : Nat → Bool) (j : Nat) : S j = orL S [] j := by simp [orL]

def natsI (zs : List Nat) : List Int := zs.map fun (n : Nat) => (n : Int)

set_option maxHeartbeats 2000000 in
theorem add_any (g : Nat) (S : Nat → Bool) (v : Value) (zs : List Nat) (hz : ∀ z ∈ zs, z < 1000) (hl : zs.length < 9000) (w : World) (hG : GroupAt w g S) (hv : IntsIn w v (natsI zs)) (hne : ∀ k, v.ownBlock = some k → k ≠ g) :
    Calls Tryz.prog 140 #[.pointer (some ⟨g, 0, none⟩), v] w fun e w' => e = .returned (.tuple #[]) ∧ GroupAt w' g (orL S zs) ∧ Keeps (fun k => k = g) w w' := by
  rcases hv with ⟨gb, cap, rfl, hgl, hcs⟩ | ⟨rfl, hnil⟩
  · have hgb : gb ≠ g := hne gb rfl
    have hlen : (natsI zs).length = zs.length := by simp [natsI]
    rw [hlen]
    clear hne
    have HC := hid hcs
    have HZ := hid hz
    clear hcs hz
    go_enter Tryz.func140, Tryz.ntmps140
    go_wp2_with fail
    go_loopg [8] zs.length (fun gk i wr => ∃ m : Nat, m + gk = zs.length ∧ i = .int .i64 m ∧ GroupAt wr g (orL S (zs.take m)) ∧ Keeps (fun k => k = g) w wr)
    case atStart => exact ⟨0, by omega, rfl, hG.congr (fun i _ => by simp [orL]), Keeps.refl _ _⟩
    case round =>
      obtain ⟨m, hm, rfl, hgr, hk⟩ := hrel
      have HM := hid hm
      have hmle : m ≤ zs.length := by omega
      clear hm
      by_cases hlt : m < zs.length
      · have hlt' : (m : Int) < (zs.length : Int) := by omega
        have hcm := (hk.cell (p := ⟨gb, m, none⟩) hgl hgb).trans (HC.out m (by omega))
        have hzm := HZ.out zs[m] (List.getElem_mem hlt)
        have hfz := hgr.fz zs[m]
        have hce := hgr.cell hzm
        simp only [natsI, List.getElem_map] at hcm
        have Hs := hid (hgr.set zs[m] true)
        have HT := hid (List.take_succ_eq_append_getElem hlt)
        generalize zs[m] = z at *
        go_wp2
        go_roundg (gk - 1)
        case measure => have := HM.out; omega
        case rel => exact ⟨m + 1, by have := HM.out; omega, by go_num, Hs.out.congr (fun i _ => by rw [HT.out]; exact orL_step S _ z i), hk.setCell (p := ⟨g, z, none⟩) (.inl rfl) _⟩
      · have hme : m = zs.length := by omega
        have HA := hid (show zs.take m = zs by rw [hme]; simp)
        clear hme
        go_wp2
        go_end0
        exact ⟨rfl, by rw [HA.out] at hgr; exact hgr, hk⟩
  · have : zs = [] := by simpa [natsI] using hnil
    subst this
    go_enter Tryz.func140, Tryz.ntmps140
    go_wp2_with fail
    go_loopw [8] (fun i wr => i = .int .i64 0 ∧ wr = w) (fun _ _ => 0)
    case atStart => exact ⟨rfl, rfl⟩
    case round =>
      obtain ⟨rfl, rfl⟩ := hrel
      go_wp2
      go_end0
      exact ⟨rfl, hG.congr (fun i _ => orL_nil S i), Keeps.refl _ _⟩

/-- The numbers below m that belong to a group. -/
def memTo (S : Nat → Bool) (m : Nat) : List Nat := (List.range m).filter S
def memG (S : Nat → Bool) : List Nat := memTo S 1000
theorem memTo_in {S : Nat → Bool} {m : Nat} (h : S m = true) : memTo S (m + 1) = memTo S m ++ [m] := by simp [memTo, List.range_succ, h]
theorem memTo_out {S : Nat → Bool} {m : Nat} (h : S m = false) : memTo S (m + 1) = memTo S m := by simp [memTo, List.range_succ, h]
theorem memTo_len (S : Nat → Bool) (m : Nat) : (memTo S m).length ≤ m := by
  have := List.length_filter_le S (List.range m)
  simpa [memTo] using this

set_option maxRecDepth 8000 in
set_option maxHeartbeats 2000000 in
theorem numbers_any (g : Nat) (S : Nat → Bool) (w : World) (hG : GroupAt w g S) :
    Calls Tryz.prog 151 #[.pointer (some ⟨g, 0, none⟩)] w fun e w' => ∃ v, e = .returned v ∧ w'.ownsRow w.heap.size 3 1 v (memG S).length (intCells (natsI (memG S))) ∧ Below w.heap.size w w' := by
  obtain ⟨i0, hi, hz0, hz1, hz2⟩ := info_parts Tryz.infoInt
  have hgl := hG.lt
  have HG := hid hG
  clear hG
  go_enter Tryz.func151, Tryz.ntmps151
  go_wp2_with fail
  go_loopg [3, 7] 1000 (fun gk v i wr => ∃ m : Nat, m + gk = 1000 ∧ i = .int .i64 m ∧ wr.ownsRow w.heap.size 3 1 v (memTo S m).length (intCells (natsI (memTo S m))) ∧ Below w.heap.size w wr)
  case atStart => exact ⟨0, by omega, rfl, World.ownsRow_nil _ _ _ _, Below.refl _ _⟩
  case round =>
    obtain ⟨m, hm, rfl, hown, hbel⟩ := hrel
    have HM := hid hm
    have hmle : m ≤ 1000 := by omega
    clear hm
    have hsz := hbel.size
    by_cases hlt : m < 1000
    · have hgr := (hbel.cell (p := ⟨g, m, none⟩) hgl).trans (HG.out.cell hlt)
      have hal := memTo_len S m
      have hlt' : (m : Int) < 1000 := by omega
      cases hbm : S m with
      | true =>
        have HS := hid (memTo_in hbm)
        rw [hbm] at hgr
        generalize memTo S m = cur at *
        go_wp2_with fail
        go_region
        go_wp2_with (at_builtin; refine wpList_append_own _ rfl _ _ 36 rfl w.heap.size 3 i0 (.int .i64 0) 1 8 Tryz.underlying36 hi hz0 hz1 hz2 rfl (by decide) _ _ _ rfl (hown.alloc _) ⟨wr.heap.size, 0, none⟩ 1 1 [.int .i64 m] rfl rfl (app_cell wr _) (by intro u hu; simp at hu; subst hu; rfl) (by unfold maxLen; omega) (by omega) (by simp; omega) ?_; intro v' w2 hown' hgrow' _)
        go_roundg (gk - 1)
        case measure => have := HM.out; omega
        case rel =>
          refine ⟨m + 1, by have := HM.out; omega, by go_num, ?_, ?_⟩
          · rw [HS.out]; simpa [intCells, natsI] using hown'
          · exact ((hbel.alloc (by omega) _).drew).grown hgrow' (by simp; omega) (fun k hk => (hown.lt k hk).1)
      | false =>
        have HS := hid (memTo_out hbm)
        rw [hbm] at hgr
        go_wp2_with fail
        go_region
        go_wp2_with fail
        go_roundg (gk - 1)
        case measure => have := HM.out; omega
        case rel => exact ⟨m + 1, by have := HM.out; omega, by go_num, by rw [HS.out]; exact hown, hbel.drew⟩
    · have hme : m = 1000 := by omega
      have HA := hid (show memG S = memTo S m by rw [hme]; rfl)
      have hge : (1000 : Int) ≤ (m : Int) := by omega
      clear hme hlt hmle
      go_wp2
      go_ret
      exact ⟨_, rfl, by rw [HA.out]; exact hown, hbel⟩

end Go.Proofs.YtbpnllhhmookcaaGreatDoor

/- of: a donor's tubes. -/
namespace Go.Proofs.YtbpnllhhmookcaaGreatDoor
open Go.RowKit Go.Shelf

attribute [local go_sem] Oper.semAt_some run_store_cplx

theorem own_row {W W' : World} {row : Option Nat} {B base : Nat} {e : TypeId} {size : Nat} {v : Value} {n : Nat} {xs : List Value} (h : W.ownsRow base e size v n xs) (hg : W.grownBy W' row) (hr : ∀ r, row = some r → B ≤ r ∧ ∃ o : Obj, W.heap[r]? = some o ∧ o.isCells = false) : W'.ownsRow base e size v n xs := by
  refine ownsRow_block h (fun g hv => hg.block g (h.lt g hv).2 (fun e => ?_))
  obtain ⟨o, ho, hc⟩ := (hr g e.symm).2
  rcases h.2 with ⟨rfl, _⟩ | ⟨g', cap, cur, rfl, _, hg', _⟩
  · cases hv
  · injection hv with hv; subst hv; rw [hg'] at ho; cases ho; cases hc
theorem row_keeps {S : Nat → Prop} {W W' : World} {base : Nat} {e : TypeId} {size : Nat} {v : Value} {n : Nat} {xs : List Value} (h : W.ownsRow base e size v n xs) (hk : Keeps S W W') (hs : ∀ g, v.ownBlock = some g → ¬ S g) : W'.ownsRow base e size v n xs :=
  ownsRow_block h (fun g hg => hk.block g (h.lt g hg).2 (hs g hg))
theorem row_base {W : World} {base base' : Nat} {e : TypeId} {size : Nat} {v : Value} {n : Nat} {xs : List Value} (h : W.ownsRow base e size v n xs) (hb : base' ≤ base) : W.ownsRow base' e size v n xs := by
  refine ⟨h.1, ?_⟩
  rcases h.2 with hn | ⟨g, cap, cur, rfl, h1, rest⟩
  · exact .inl hn
  · exact .inr ⟨g, cap, cur, rfl, Nat.le_trans hb h1, rest⟩

def ofN (donor : Int) (l : List TN) : List Int := (l.filter fun t => decide ((t.2.donor : Int) = donor)).map fun t => (t.1 : Int)
theorem ofN_in {donor : Int} {pre : List TN} {x : TN} (h : (x.2.donor : Int) = donor) : ofN donor (pre ++ [x]) = ofN donor pre ++ [(x.1 : Int)] := by simp [ofN, h]
theorem ofN_out {donor : Int} {pre : List TN} {x : TN} (h : ¬ (x.2.donor : Int) = donor) : ofN donor (pre ++ [x]) = ofN donor pre := by simp [ofN, h]
theorem ofN_len (donor : Int) (l : List TN) : (ofN donor l).length ≤ l.length := by simp [ofN]; exact List.length_filter_le _ _

theorem of_end {w V : World} {D : Nat} {v : Value} {zs : List Int} {t0 t1 t2 t3 t5 t6 t7 t8 t9 t10 t11 t12 t13 t14 t15 t16 t17 t18 t19 t20 : Value} (hD : V.heap[D]? = some (.deferred (some []))) (hrow : V.ownsRow w.heap.size 3 1 v zs.length (intCells zs)) (hbel : Below w.heap.size w V) (hd : w.heap.size + 1 < D) :
    bodyPostM Fence.wide 0 Tryz.prog Tryz.f113 (fun e w' => ∃ v, e = .returned v ∧ w'.ownsRow w.heap.size 3 1 v zs.length (intCells zs) ∧ Below w.heap.size w w') .ret
      { tmps := #[t0, t1, t2, t3, v, t5, t6, t7, t8, t9, t10, t11, t12, t13, t14, t15, t16, t17, t18, t19, t20], defers := [{ target := .collected D, args := #[] }] } V := by
  refine ⟨by simp, .inl ⟨_, _, rfl, run_takeDeferred hD, ?_⟩⟩
  refine ⟨v, by simp [results, Tryz.results113, go_sem], v, rfl, ?_, ?_⟩
  · exact own_row (B := 0) hrow (grownBy_putObj' V D _) (fun r e => by cases e; exact ⟨Nat.zero_le _, _, hD, rfl⟩)
  · exact hbel.trans ((Below.refl _ V).grown (grownBy_putObj' V D _) (by have := hbel.size; omega) (fun k e => by cases e; omega))

set_option maxRecDepth 8000 in
set_option maxHeartbeats 16000000 in
theorem ofD_any (n₀ b : Nat) (donor : Int) (l : List KV) (ts : List TN) (hok : ∀ t ∈ ts, t.2.Ok ∧ t.1 < 1024) (hts : sel (tubeK 1) (tubeK 999) l = ts.map kvT) (hl : ts.length < 9000) (w : World) (hT : TxAt n₀ w b l) :
    Calls Tryz.prog 113 #[.pointer (some ⟨b, 0, none⟩), .int .i64 donor] w fun e w' => ∃ v, e = .returned v ∧ w'.ownsRow w.heap.size 3 1 v (ofN donor ts).length (intCells (ofN donor ts)) ∧ Below w.heap.size w w' := by
  obtain ⟨i0, hi, hz0, hz1, hz2⟩ := info_parts Tryz.infoInt
  have hn0 : n₀ ≤ w.heap.size := by obtain ⟨⟨r, hB, hI⟩, hf⟩ := hT; exact hI.2.1
  have hb1 : Below w.heap.size w ((w.alloc (.cells #[.int .i64 donor] 3)).alloc (.cells #[.slice none 0 0] 36)) := ((Below.refl _ w).alloc (Nat.le_refl _) _).alloc (by simp) _
  have HTu := hid (tubes_any n₀ b l ts hok hts _ (hT.below hb1))
  have HB := hid ((Boxed.new w 3 (.int .i64 donor)).alloc (.cells #[.slice none 0 0] 36))
  have HB2 := hid (Boxed.new (w.alloc (.cells #[.int .i64 donor] 3)) 36 (.slice none 0 0))
  have Hs := hid (show ((w.alloc (.cells #[.int .i64 donor] 3)).alloc (.cells #[.slice none 0 0] 36)).heap.size = w.heap.size + 2 by simp)
  have Hb1 := hid hb1
  clear hb1 hT
  refine calls_marks Tryz.func113 rfl ?_
  simp only [Tryz.ntmps113, List.size_toArray, List.length_cons, List.length_nil, Nat.reduceAdd, Nat.reduceSub, Array.replicate_succ, Array.replicate_zero, List.push_toArray, List.append_toArray, List.nil_append, List.cons_append]
  go_wp2_with (go_at_call 141; refine HTu.out.mono ?_; clear HTu; rintro e w2 ⟨bx, rfl, hG, hb2⟩)
  have hb1 := Hb1.out
  have hbx := HB.out
  have hbr := HB2.out
  have hs := Hs.out
  have hsa : (w.alloc (.cells #[.int .i64 donor] 3)).heap.size = w.heap.size + 1 := by simp
  rw [hsa] at hbr
  clear Hb1 HB Hs HB2
  generalize (w.alloc (.cells #[.int .i64 donor] 3)).alloc (.cells #[.slice none 0 0] 36) = w1 at *
  have hb12 : Below w.heap.size w w2 := hb1.trans (hb2.mono hb1.size)
  have h2 := hb2.size
  have hbx2 := boxed_below hbx hb2
  have hbr2 := boxed_below hbr hb2
  refine (wpIn_wide (n := 0)).1 ?_
  refine rangeM_law (gf := 167) (lb := #[.pointer (some ⟨bx, 0, none⟩)]) rfl (enters_of Tryz.func167 (by kernel_rfl) rfl) (hG (fun _ => False) w2 (fun k => k = w.heap.size + 1) (Keeps.refl _ _) (fun _ h => h.elim) (fun k h => by omega)) (Below.refl _ _) (fun k h => by omega) (fun _ => rfl)
    (fun M pre V => Boxed V w.heap.size 3 (.int .i64 donor) ∧ (∃ v, Boxed V (w.heap.size + 1) 36 v ∧ V.ownsRow M 3 1 v (ofN donor pre).length (intCells (ofN donor pre))) ∧ Below w.heap.size w V)
    (fun _ _ _ _ => False)
    (fun _ s A B row hs hg hr => by
      obtain ⟨h1, ⟨v, h2, h3⟩, h4⟩ := hs
      exact ⟨own_boxed h1 hg hr, ⟨v, own_boxed h2 hg hr, own_row h3 hg hr⟩, own_below h4 (Nat.le_refl _) hb12.size hg hr⟩)
    (fun _ c s A B row hs hg hr => hs.elim)
    (fun _ _ => ⟨hbx2, ⟨_, hbr2, World.ownsRow_nil _ _ _ _⟩, hb12⟩)
    (fun x a' V => ∃ r, RecBox V r x.2.cells ∧ a' = { tmps := #[.pointer (some ⟨b, 0, none⟩), .int .i64 donor, undef, .pointer (some ⟨w.heap.size, 0, none⟩), .slice none 0 0, .pointer (some ⟨w.heap.size + 1, 0, none⟩), .int .i64 x.1, .pointer (some ⟨r, 0, none⟩), .pointer (some ⟨b, 0, none⟩), .func (.func 167) #[] #[.pointer (some ⟨bx, 0, none⟩)], .int .i64 x.1, x.2.val, undef, undef, undef, undef, undef, undef, undef, undef, undef], defers := [] })
    (fun x a' _ A B row hs hg hr => by
      obtain ⟨b, h2, h3⟩ := hs
      exact ⟨b, own_recBox h2 hg hr, h3⟩) ?assign ?body ?done ?stop
  case assign =>
    intro y M pre x V K hM1 hM2 _ hi hK
    simp only [encT, PT.val, PT.cells, pl]
    gi_wp2
    have hbV : Below V.heap.size V (V.alloc (.cells #[.complex .f64 (fl x.2.x) (fl x.2.y), .int .i64 x.2.box, .int .i64 x.2.donor, .int .i64 x.2.status, .int .i64 x.2.thaws, .int .i64 x.2.began, .int .i64 x.2.left, .int .i64 x.2.used, .int .i64 x.2.lost] 182)) := (Below.refl _ _).alloc (Nat.le_refl _) _
    obtain ⟨i1, ⟨v, i2, i3⟩, i5⟩ := hi
    exact hK _ _ ((Keeps.refl _ V).below hbV (Nat.le_refl _)) ⟨boxed_below i1 hbV, ⟨v, boxed_below i2 hbV, i3.alloc _⟩, i5.trans (hbV.mono i5.size)⟩ ⟨V.heap.size, World.alloc_heap_new V _, rfl⟩
  case body =>
    rintro y M pre x a' V hy1 hy2 hM1 hM2 hp ⟨hdon, ⟨v, hres, hrow⟩, hbel⟩ ⟨r, hr, rfl⟩
    have hc2 := hdon.cell
    have hc3 := hres.cell
    have hlp : pre.length + 1 ≤ ts.length := by have := hp.length_le; simpa using this
    have hol := ofN_len donor pre
    simp only [PT.cells, pl] at hr
    have d2 := hr.cell 2
    simp only [List.getElem?_toArray, List.getElem?_cons_zero, List.getElem?_cons_succ] at d2
    by_cases hd : (x.2.donor : Int) = donor
    · rw [hd] at d2
      have hb3 : ∀ w3, (V.alloc (.cells #[.int .i64 x.1] 3)).grownBy w3 v.ownBlock → Boxed w3 (w.heap.size + 1) 36 v := fun w3 hg =>
        (hg.block _ (by have := hres.lt; simp; omega) (fun e => by have := (hrow.lt _ e.symm).1; omega)).trans (boxed_below hres ((Below.refl _ _).alloc (Nat.le_refl _) _))
      have HB3 := hid hb3
      clear hb3
      gi_wp2_with (gi_at_builtin; refine wpListIn_append_own _ rfl _ _ 36 rfl M 3 i0 (.int .i64 0) 1 8 Tryz.underlying36 hi hz0 hz1 hz2 rfl (by decide) _ _ _ rfl (hrow.alloc _) ⟨V.heap.size, 0, none⟩ 1 1 [.int .i64 x.1] rfl rfl (app_cell V _) (by intro u hu; simp at hu; subst hu; rfl) (by unfold maxLen; omega) (by omega) (by simp; omega) ?_; intro v' w3 hown' hgrow' _; obtain ⟨g3, cap3, rfl⟩ := own_form hown'; have hb3 := HB3.out w3 hgrow'; have hc4 := hb3.cell; have hf4 := hb3.frozen)
      have hk3 : Keeps (fun k => k = w.heap.size + 1 ∨ M ≤ k) V (w3.setCell ⟨w.heap.size + 1, 0, none⟩ (.slice (some ⟨g3, 0, none⟩) ((ofN donor pre).length + 1) cap3)) := (((Keeps.refl _ V).alloc _).grown hgrow' (fun k e => .inl (.inr (hrow.lt k e).1))).setCell (p := ⟨w.heap.size + 1, 0, none⟩) (.inl (.inl rfl)) _
      refine ⟨hk3, keeps_same hk3 (by omega) hdon, ⟨_, hb3.set _, ?_⟩, hbel.trans (hk3.toBelow (fun k h => by omega) hbel.size)⟩
      rw [ofN_in hd]
      refine ownsRow_block (w := w3) ?_ (fun g hg => Below.heap_setCell w3 _ _ g (by have := (hown'.lt g hg).1; show g ≠ w.heap.size + 1; omega))
      simpa [intCells] using hown'
    · gi_wp2
      exact ⟨Keeps.refl _ _, hdon, ⟨v, hres, by rw [ofN_out hd]; exact hrow⟩, hbel⟩
  case done =>
    rintro M V hM ⟨hdon, ⟨v, hres, hrow⟩, hbel⟩ hD
    have hc3 := hres.cell
    go_wp2_with fail
    exact of_end hD (row_base hrow (by omega)) hbel (by omega)
  case stop =>
    rintro M c pre V hM hp h hD
    exact h.elim

end Go.Proofs.YtbpnllhhmookcaaGreatDoor

/- kin: all that a tube leads to by a way. -/
namespace Go.Proofs.YtbpnllhhmookcaaGreatDoor
open Go.RowKit

theorem zero_group : Tryz.zeroCells196 = boolsN 1000 (fun _ => false) := by kernel_rfl
theorem group_new (w : World) : GroupAt (w.alloc (.cells Tryz.zeroCells196 196)) w.heap.size (fun _ => false) := by
  unfold GroupAt
  rw [← zero_group]; exact World.alloc_heap_new w _

theorem one_ints (w : World) (z : Nat) : IntsIn (w.alloc (.cells #[.int .i64 z] 3)) (.slice (some ⟨w.heap.size, 0, none⟩) 1 1) (natsI [z]) := by
  refine .inl ⟨w.heap.size, 1, rfl, by simp, fun i hi => ?_⟩
  have : i = 0 := by simp [natsI] at hi; omega
  subst this
  have := app_cell w z 0 (.int .i64 z) rfl
  rw [addr_add] at this
  exact this

/-- A group without one number. -/
def kinS (S : Nat → Bool) (t : Nat) : Nat → Bool := fun j => if j = t then false else S j
def single (t : Nat) : Nat → Bool := orL (fun _ => false) [t]

set_option maxHeartbeats 4000000 in
theorem kin_any (n f : Nat) (first : Array Value) (T : (Nat → Bool) → Nat → Bool) (w : World) (hn : n < 1000)
    (eg : ∀ args w, (callFunc f args).run Tryz.prog w = .ok (.enter f args) w)
    (hsp : ∀ u, Keeps (fun _ => False) w u → ∀ g S, GroupAt u g S → w.heap.size ≤ g → Calls Tryz.prog f (first ++ #[.pointer (some ⟨g, 0, none⟩)]) u fun e u' => e = .returned (.tuple #[]) ∧ GroupAt u' g (T S) ∧ Keeps (fun k => k = g) u u') :
    Calls Tryz.prog 114 #[.int .i64 n, .func (.func f) first #[]] w fun e w' => ∃ v, e = .returned v ∧ w'.ownsRow w.heap.size 3 1 v (memG (kinS (T (single n)) n)).length (intCells (natsI (memG (kinS (T (single n)) n)))) ∧ Below w.heap.size w w' := by
  have hg0 := group_new w
  have hb1 : Below w.heap.size w (w.alloc (.cells Tryz.zeroCells196 196)) := (Below.refl _ w).alloc (Nat.le_refl _) _
  have hs1 : (w.alloc (.cells Tryz.zeroCells196 196)).heap.size = w.heap.size + 1 := by simp
  have hb2 : Below w.heap.size w ((w.alloc (.cells Tryz.zeroCells196 196)).alloc (.cells #[.int .i64 n] 3)) := hb1.alloc (by omega) _
  have hg2 : GroupAt ((w.alloc (.cells Tryz.zeroCells196 196)).alloc (.cells #[.int .i64 n] 3)) w.heap.size (fun _ => false) := hg0.below ((Below.refl _ _).alloc (Nat.le_refl _) _)
  have hi2 := one_ints (w.alloc (.cells Tryz.zeroCells196 196)) n
  rw [hs1] at hi2
  have HA := hid (add_any w.heap.size (fun _ => false) (.slice (some ⟨w.heap.size + 1, 0, none⟩) 1 1) [n] (fun z hz => by simp at hz; omega) (by simp) _ hg2 hi2 (fun k hk => by simp [Value.ownBlock] at hk; omega))
  have HB := hid hb2
  have HSp := hid hsp
  clear hsp hg0 hb1 hs1 hg2 hi2 hb2
  go_enter Tryz.func114, Tryz.ntmps114
  go_wp2_with (go_at_call 140; refine HA.out.mono ?_; clear HA; rintro e w1 ⟨rfl, hg1, hk1⟩)
  have hB1 : Below w.heap.size w w1 := HB.out.trans (hk1.toBelow (B := w.heap.size) (fun k hk => by omega) HB.out.size)
  refine (HSp.out w1 ((Keeps.refl _ w).below hB1 (Nat.le_refl _)) w.heap.size (single n) hg1 (Nat.le_refl _)).mono ?_
  clear HSp
  rintro e w2 ⟨rfl, hg2, hk2⟩
  have hB2 : Below w.heap.size w w2 := hB1.trans (hk2.toBelow (B := w.heap.size) (fun k hk => by omega) hB1.size)
  have hce := hg2.cell hn
  have hfz := hg2.fz n
  have Hs := hid (hg2.set n false)
  have hnz : (n : Int) < 1000 := by omega
  have HB2 := hid hB2
  have HN := hid (numbers_any w.heap.size (kinS (T (single n)) n) _ Hs.out)
  clear hg2 hk2 hg1 hk1 hB1 hB2 HB
  go_wp2_with (go_at_call 151; refine HN.out.mono ?_; clear HN; rintro e w3 ⟨v, rfl, hrow, hb3⟩)
  go_ret
  have hB := (HB2.out.setCell (p := ⟨w.heap.size, n, none⟩) (Nat.le_refl _) (.bool false))
  exact ⟨v, rfl, ⟨hrow.1, by
    rcases hrow.2 with h | ⟨g, cap, cur, rfl, h1, rest⟩
    · exact .inl h
    · exact .inr ⟨g, cap, cur, rfl, Nat.le_trans hB.size h1, rest⟩⟩, hB.trans (hb3.mono hB.size)⟩

end Go.Proofs.YtbpnllhhmookcaaGreatDoor
