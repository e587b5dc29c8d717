/- occupant. -/
import Derived.Test.YtbpnllhhmookcaaGreatDoorKk16
import Derived.Test.YtbpnllhhmookcaaGreatDoorKk17
import Derived.Test.YtbpnllhhmookcaaGreatDoorKk13
namespace Go.Proofs.YtbpnllhhmookcaaGreatDoor
open Go.RowKit Go.Shelf

attribute [local go_sem] Oper.semAt_some run_store_cplx

theorem fl_ord {a b : Nat} (ha : a < 5) (hb : b < 5) : decide (FloatKind.f64.format.order (fl a) (fl b) = some Ordering.eq) = decide (a = b) := by
  rcases lt5 ha with rfl | rfl | rfl | rfl | rfl <;> rcases lt5 hb with rfl | rfl | rfl | rfl | rfl <;> kernel_rfl
theorem fl_ord' {a b : Nat} (ha : a < 5) (hb : b < 5) : (FloatKind.f64.format.order (fl a) (fl b) = some Ordering.eq) ↔ a = b := by
  have := fl_ord ha hb
  rwa [decide_eq_decide] at this

def atPl (px py : Nat) (t : TN) : Bool := decide (t.2.x = px ∧ t.2.y = py)
/-- The tube in a place of a box; 0, if there is none. -/
def occN (px py : Nat) (l : List TN) : Nat := match l.find? (atPl px py) with | some t => t.1 | none => 0

theorem occN_at {px py : Nat} {pre ts : List TN} {t : TN} (h : (pre ++ [t]) <+: ts) (hp : ∀ u ∈ pre, atPl px py u = false) (ht : atPl px py t = true) : occN px py ts = t.1 := by
  obtain ⟨r, rfl⟩ := h
  have : (pre ++ [t] ++ r).find? (atPl px py) = some t := by
    rw [List.append_assoc, List.find?_append, List.find?_eq_none.2 (fun u hu => by simp [hp u hu])]
    simp [ht]
  simp only [occN, this]
theorem occN_none {px py : Nat} {ts : List TN} (hp : ∀ u ∈ ts, atPl px py u = false) : occN px py ts = 0 := by
  have : ts.find? (atPl px py) = none := List.find?_eq_none.2 (fun u hu => by simp [hp u hu])
  simp only [occN, this]

theorem occ_end {w V : World} {D : Nat} {v : Int} {t0 t1 t2 t3 t4 t5 t7 t8 t9 t10 t11 t12 t13 t14 t15 t16 t17 t18 : Value} (hD : V.heap[D]? = some (.deferred (some []))) (hb : Boxed V (w.heap.size + 1) 3 (.int .i64 v)) (hbel : Below w.heap.size w V) (hd : w.heap.size + 1 < D) :
    bodyPostM Fence.wide 0 Tryz.prog Tryz.f125 (fun e w' => e = .returned (.int .i64 v) ∧ Below w.heap.size w w') .ret
      { tmps := #[t0, t1, t2, t3, t4, t5, .pointer (some ⟨w.heap.size + 1, 0, none⟩), t7, t8, t9, t10, t11, t12, t13, t14, t15, t16, t17, t18], defers := [{ target := .collected D, args := #[] }] } V := by
  have hc : ∀ o, (V.putObj D o).cell? ⟨w.heap.size + 1, 0, none⟩ = some (.int .i64 v) := fun o => (show Boxed (V.putObj D o) (w.heap.size + 1) 3 (.int .i64 v) from (World.putObj_heap_other (by omega)).trans hb).cell
  refine ⟨by simp, .inl ⟨_, _, rfl, run_takeDeferred hD, ?_⟩⟩
  refine ⟨.int .i64 v, by simp [results, Tryz.results125, go_sem, hc], rfl, ?_⟩
  exact hbel.trans ((Below.refl _ V).grown (grownBy_putObj' V D _) (by have := hbel.size; omega) (fun k e => by cases e; omega))

set_option maxRecDepth 8000 in
set_option maxHeartbeats 16000000 in
theorem occupant_any (n₀ b : Nat) (box : Int) (px py : Nat) (hpx : px < 5) (hpy : py < 5) (l : List KV) (ts : List TN) (hok : ∀ t ∈ ts, t.2.Ok ∧ t.1 < 1024) (hts : sel (tubeK 1) (tubeK 999) l = ts.map kvT) (w : World) (hT : TxAt n₀ w b l) :
    Calls Tryz.prog 125 #[.pointer (some ⟨b, 0, none⟩), .int .i64 box, pl px py] w fun e w' => e = .returned (.int .i64 (occN px py (ts.filter (inBox box)))) ∧ Below w.heap.size w w' := by
  have hn0 : n₀ ≤ w.heap.size := by obtain ⟨⟨r, hB, hI⟩, hf⟩ := hT; exact hI.2.1
  have hb1 : Below w.heap.size w ((w.alloc (.cells #[pl px py] 180)).alloc (.cells #[.int .i64 0] 3)) := ((Below.refl _ w).alloc (Nat.le_refl _) _).alloc (by simp) _
  have HTu := hid (in_any n₀ b box l ts hok hts _ (hT.below hb1))
  have HB := hid ((Boxed.new w 180 (pl px py)).alloc (.cells #[.int .i64 0] 3))
  have HB2 := hid (Boxed.new (w.alloc (.cells #[pl px py] 180)) 3 (.int .i64 0))
  have Hs := hid (show ((w.alloc (.cells #[pl px py] 180)).alloc (.cells #[.int .i64 0] 3)).heap.size = w.heap.size + 2 by simp)
  have Hb1 := hid hb1
  clear hb1 hT
  simp only [pl] at HTu HB HB2 Hs Hb1 ⊢
  refine calls_marks Tryz.func125 rfl ?_
  simp only [Tryz.ntmps125, List.size_toArray, List.length_cons, List.length_nil, Nat.reduceAdd, Nat.reduceSub, Array.replicate_succ, Array.replicate_zero, List.push_toArray, List.append_toArray, List.nil_append, List.cons_append]
  go_wp2_with (go_at_call 143; refine HTu.out.mono ?_; clear HTu; rintro e w2 ⟨lb, rfl, hG, hb2⟩)
  have hb1 := Hb1.out
  have hbx := HB.out
  have hbr := HB2.out
  have hs := Hs.out
  have hsa : (w.alloc (.cells #[.complex .f64 (fl px) (fl py)] 180)).heap.size = w.heap.size + 1 := by simp
  rw [hsa] at hbr
  clear Hb1 HB Hs HB2
  generalize (w.alloc (.cells #[.complex .f64 (fl px) (fl py)] 180)).alloc (.cells #[.int .i64 0] 3) = w1 at *
  have hb12 : Below w.heap.size w w2 := hb1.trans (hb2.mono hb1.size)
  have h2 := hb2.size
  have hbx2 := boxed_below hbx hb2
  have hbr2 := boxed_below hbr hb2
  refine (wpIn_wide (n := 0)).1 ?_
  refine rangeM_law (gf := 168) (lb := lb) rfl (enters_of Tryz.func168 (by kernel_rfl) rfl) (hG (fun _ => False) w2 (fun k => k = w.heap.size + 1) (Keeps.refl _ _) (fun _ h => h.elim) (fun k h => by omega)) (Below.refl _ _) (fun k h => by omega) (fun _ => rfl)
    (fun _ pre V => pre <+: ts.filter (inBox box) ∧ (∀ u ∈ pre, atPl px py u = false) ∧ Boxed V w.heap.size 180 (.complex .f64 (fl px) (fl py)) ∧ Boxed V (w.heap.size + 1) 3 (.int .i64 0) ∧ Below w.heap.size w V)
    (fun _ c pre V => c = .ret ∧ Boxed V (w.heap.size + 1) 3 (.int .i64 (occN px py (ts.filter (inBox box)))) ∧ Below w.heap.size w V)
    (fun _ s A B row hs hg hr => by
      obtain ⟨h1, h2, h3, h4, h5⟩ := hs
      exact ⟨h1, h2, own_boxed h3 hg hr, own_boxed h4 hg hr, own_below h5 (Nat.le_refl _) hb12.size hg hr⟩)
    (fun _ c s A B row hs hg hr => by
      obtain ⟨h1, h2, h3⟩ := hs
      exact ⟨h1, own_boxed h2 hg hr, own_below h3 (Nat.le_refl _) hb12.size hg hr⟩)
    (fun _ _ => ⟨List.nil_prefix, by simp, hbx2, hbr2, hb12⟩)
    (fun x a' V => ∃ r, RecBox V r x.2.cells ∧ a' = { tmps := #[.pointer (some ⟨b, 0, none⟩), .int .i64 box, .complex .f64 (fl px) (fl py), undef, undef, .pointer (some ⟨w.heap.size, 0, none⟩), .pointer (some ⟨w.heap.size + 1, 0, none⟩), .int .i64 x.1, .pointer (some ⟨r, 0, none⟩), .pointer (some ⟨b, 0, none⟩), .int .i64 box, .func (.func 168) #[] lb, .int .i64 x.1, x.2.val, undef, undef, undef, undef, undef], defers := [] })
    (fun x a' _ A B row hs hg hr => by
      obtain ⟨b, h2, h3⟩ := hs
      exact ⟨b, own_recBox h2 hg hr, h3⟩) ?assign ?body ?done ?stop
  case assign =>
    intro y M pre x V K hM1 hM2 _ hi hK
    simp only [encT, PT.val, PT.cells, pl]
    gi_wp2
    have hbV : Below V.heap.size V (V.alloc (.cells #[.complex .f64 (fl x.2.x) (fl x.2.y), .int .i64 x.2.box, .int .i64 x.2.donor, .int .i64 x.2.status, .int .i64 x.2.thaws, .int .i64 x.2.began, .int .i64 x.2.left, .int .i64 x.2.used, .int .i64 x.2.lost] 182)) := (Below.refl _ _).alloc (Nat.le_refl _) _
    obtain ⟨i1, i2, i3, i4, i5⟩ := hi
    exact hK _ _ ((Keeps.refl _ V).below hbV (Nat.le_refl _)) ⟨i1, i2, boxed_below i3 hbV, boxed_below i4 hbV, i5.trans (hbV.mono i5.size)⟩ ⟨V.heap.size, World.alloc_heap_new V _, rfl⟩
  case body =>
    rintro y M pre x a' V hy1 hy2 hM1 hM2 hp ⟨hpre, hno, hbox, hres, hbel⟩ ⟨r, hr, rfl⟩
    have hxm : x ∈ ts.filter (inBox box) := hp.subset (by simp)
    have hxo := (hok x (List.mem_filter.1 hxm).1).1
    have hc2 := hbox.cell
    have hc3 := hres.cell
    have hf3 := hres.frozen
    have o1 := fl_ord' hxo.x hpx
    have o2 := fl_ord' hxo.y hpy
    simp only [PT.cells, pl] at hr
    have d0 := hr.cell 0
    simp only [List.getElem?_toArray, List.getElem?_cons_zero] at d0
    gi_wp2
    · rename_i hh
      have hat : atPl px py x = true := by
        simp only [beq_iff_eq, o1, o2] at hh
        simp [atPl, hh]
      exact ⟨(Keeps.refl (fun k => k = w.heap.size + 1 ∨ M ≤ k) V).setCell (p := ⟨w.heap.size + 1, 0, none⟩) (.inl (.inl rfl)) _, rfl, by rw [occN_at hp hno hat]; exact hres.set _, hbel.setCell (p := ⟨w.heap.size + 1, 0, none⟩) (by show w.heap.size ≤ w.heap.size + 1; omega) _⟩
    · rename_i hh
      have hat : atPl px py x = false := by
        simp only [beq_eq_false_iff_ne, ne_eq, o1, o2] at hh
        simp only [atPl, decide_eq_false_iff_not]; omega
      exact ⟨Keeps.refl _ _, hp, fun u hu => by rcases List.mem_append.1 hu with h | h; exact hno u h; (rw [List.mem_singleton.1 h]; exact hat), hbox, hres, hbel⟩
  case done =>
    rintro M V hM ⟨hpre, hno, hbox, hres, hbel⟩ hD
    have hc3 := hres.cell
    have hf3 := hres.frozen
    go_wp2_with fail
    rw [occN_none hno]
    have hD' : (V.setCell ⟨w.heap.size + 1, 0, none⟩ (.int .i64 0)).heap[w2.heap.size]? = some (.deferred (some [])) := (((Keeps.refl (fun k => k = w.heap.size + 1) V).setCell (p := ⟨w.heap.size + 1, 0, none⟩) (.inl rfl) _).block w2.heap.size (Array.getElem?_eq_some_iff.1 hD).1 (by omega)).trans hD
    have hbx' := hres.set (.int .i64 0)
    have hbel' := hbel.setCell (p := ⟨w.heap.size + 1, 0, none⟩) (by show w.heap.size ≤ w.heap.size + 1; omega) (.int .i64 0)
    exact occ_end hD' hbx' hbel' (by omega)
  case stop =>
    rintro M c pre V hM hp ⟨rfl, hres, hbel⟩ hD
    refine (wpIn_wide (n := 0)).2 ?_
    go_wp2_with fail
    exact occ_end hD hres hbel (by omega)

end Go.Proofs.YtbpnllhhmookcaaGreatDoor

/- What a transaction reads, of a ledger: side, tube, poured, occupant, of; what it writes. -/
namespace Go.Proofs.YtbpnllhhmookcaaGreatDoor
open Go.RowKit Go.Shelf

theorem has_keeps {S : Nat → Prop} {w w' : World} {b : Nat} {c : Nat → Int} (h : Has w b c) (hk : Keeps S w w') (hl : b < w.heap.size) (hs : ¬ S b) : Has w' b c :=
  ⟨fun i hi => (hk.cell (p := ⟨b, i, none⟩) hl hs).trans (h.1 i hi), fun i => (hk.frozen (p := ⟨b, i, none⟩) hl hs).trans (h.2 i)⟩
def PT.nil : PT := ⟨0, 0, 0, 0, 0, 0, 0, 0, 0, 0⟩
namespace Led
def sideN (L : Led) (n : Nat) : Nat := (L.box n).getD 0
def tubeD (L : Led) (n : Nat) : PT := (L.tube n).getD PT.nil
def pouredN (L : Led) (a b : Nat) : Nat := (L.pour a b).getD 0

theorem tubeD_ok {L : Led} (h : L.Ok) (n : Nat) : (L.tubeD n).Ok := by
  unfold tubeD
  cases e : L.tube n with
  | none => exact ⟨by decide, by decide, by decide, by decide, by decide, by decide, by decide, by decide, by decide, by decide⟩
  | some q => exact (h.t1 _ ((tube_mem h).1 e)).2.2.ok
theorem sideN_lt {L : Led} (h : L.Ok) (n : Nat) : L.sideN n < 6 := by
  unfold sideN
  cases e : L.box n with
  | none => decide
  | some s => have := (h.b1 _ ((box_mem h).1 e)).2.2.2; simp only at this; show s < 6; omega
theorem pouredN_lt {L : Led} (h : L.Ok) (a b : Nat) : L.pouredN a b ≤ 1000000 := by
  unfold pouredN
  cases e : L.pour a b with
  | none => decide
  | some s => exact (h.p1 _ ((pour_mem h).1 e)).2.2.2.2
end Led

/-- A transaction has a ledger's entries. -/
structure TxL (n₀ : Nat) (w : World) (b : Nat) (L : Led) : Prop where
  tx : TxAt n₀ w b L.kvs
  ok : L.Ok
  few : L.kvs.length < 7000

theorem TxL.below {n₀ b : Nat} {L : Led} {w w' : World} (h : TxL n₀ w b L) (hb : Below w.heap.size w w') : TxL n₀ w' b L := ⟨h.tx.below hb, h.ok, h.few⟩
theorem TxL.toks {n₀ b : Nat} {L : Led} {w : World} (h : TxL n₀ w b L) : ∀ t ∈ L.ts, t.2.Ok ∧ t.1 < 1024 := fun t ht => ⟨(h.ok.t1 t ht).2.2.ok, by have := (h.ok.t1 t ht).2.1; omega⟩
theorem TxL.poks {n₀ b : Nat} {L : Led} {w : World} (h : TxL n₀ w b L) : ∀ t ∈ L.ps, t.1 < 1000 ∧ t.2.1 < 1000 := fun t ht => by have := h.ok.p1 t ht; omega
theorem TxL.fewT {n₀ b : Nat} {L : Led} {w : World} (h : TxL n₀ w b L) : L.ts.length < 7000 := by have := h.few; rw [Led.len] at this; omega
theorem TxL.fewP {n₀ b : Nat} {L : Led} {w : World} (h : TxL n₀ w b L) : L.ps.length < 7000 := by have := h.few; rw [Led.len] at this; omega

theorem side_led (n₀ b n : Nat) (L : Led) (w : World) (h : TxL n₀ w b L) (hn : n < 1000) :
    Calls Tryz.prog 123 #[.pointer (some ⟨b, 0, none⟩), .int .i64 n] w fun e w' => e = .returned (.int .i64 (L.sideN n)) ∧ Below w.heap.size w w' := by
  have hg := Led.get_box h.ok (n := n) (by omega)
  unfold Led.sideN
  cases e : L.box n with
  | none => rw [e] at hg; exact side_none n₀ b n L.kvs w h.tx (by omega) hg
  | some s =>
    rw [e] at hg
    have hs := (h.ok.b1 _ ((Led.box_mem h.ok).1 e)).2.2.2
    have := side_some n₀ b n L.kvs ⟨#[UInt8.ofNat s]⟩ (by show 0 < 1; omega) w h.tx (by omega) hg
    have e2 : ((⟨#[UInt8.ofNat s]⟩ : ByteArray)[0]'(by show 0 < 1; omega)).toNat = s := ofNat_lt (by simp only at hs; omega)
    rw [e2] at this
    exact this

theorem tube_led (n₀ b n : Nat) (L : Led) (w : World) (h : TxL n₀ w b L) (hn : n < 1000) :
    Calls Tryz.prog 120 #[.pointer (some ⟨b, 0, none⟩), .int .i64 n] w fun e w' => e = .returned (.tuple #[(L.tubeD n).val, .bool (L.tube n).isSome]) ∧ Below w.heap.size w w' := by
  have hg := Led.get_tube h.ok (n := n) (by omega)
  have hok := Led.tubeD_ok h.ok n
  unfold Led.tubeD at hok ⊢
  cases e : L.tube n with
  | none => rw [e] at hg; exact tube_none n₀ b n L.kvs w h.tx (by omega) hg
  | some q => rw [e] at hg hok; exact tube_some n₀ b n L.kvs q hok w h.tx (by omega) hg

theorem poured_led (n₀ b x y : Nat) (L : Led) (w : World) (h : TxL n₀ w b L) (hx : x < 1000) (hy : y < 1000) :
    Calls Tryz.prog 122 #[.pointer (some ⟨b, 0, none⟩), .int .i64 x, .int .i64 y] w fun e w' => e = .returned (.int .i64 (L.pouredN x y)) ∧ Below w.heap.size w w' := by
  have hg := Led.get_pour h.ok (a := x) (b := y) (by omega) (by omega)
  have hl := Led.pouredN_lt h.ok x y
  unfold Led.pouredN at hl ⊢
  cases e : L.pour x y with
  | none => rw [e] at hg; exact poured_none n₀ b x y L.kvs w h.tx (by omega) (by omega) hg
  | some v => rw [e] at hg hl; exact poured_some n₀ b x y v L.kvs (by simp only [Option.getD_some] at hl; omega) w h.tx (by omega) (by omega) hg

theorem occupant_led (n₀ b : Nat) (box : Int) (px py : Nat) (hpx : px < 5) (hpy : py < 5) (L : Led) (w : World) (h : TxL n₀ w b L) :
    Calls Tryz.prog 125 #[.pointer (some ⟨b, 0, none⟩), .int .i64 box, pl px py] w fun e w' => e = .returned (.int .i64 (occN px py (L.ts.filter (inBox box)))) ∧ Below w.heap.size w w' :=
  occupant_any n₀ b box px py hpx hpy L.kvs L.ts h.toks (Led.sel_ts h.ok) w h.tx

/-! What it writes. -/
def PutL (b : Nat) (L : Led) (w : World) (e : Ending) (w' : World) : Prop := e = .returned (.tuple #[]) ∧ TxL w'.heap.size w' b L ∧ Keeps (fun g => g = b) w w'
theorem PutL.from {b : Nat} {L : Led} {w w1 w' : World} {e : Ending} (h : PutL b L w1 e w') (hb : Below w.heap.size w w1) : PutL b L w e w' := ⟨h.1, h.2.1, (below_toKeeps hb _).trans h.2.2⟩

theorem ins_len {α : Type} {p q : α → Bool} {x : α} (hpq : ∀ a, p a = true → q a = false) : ∀ l : List α, (l.filter p ++ x :: l.filter q).length ≤ l.length + 1
  | [] => by simp
  | a :: l => by
    have ih := ins_len (x := x) hpq l
    simp only [List.length_append, List.length_cons, List.filter_cons] at ih ⊢
    cases hp : p a with
    | true => rw [hpq a hp]; simp; omega
    | false => cases hq : q a <;> simp <;> omega
theorem insB_len (l : List BN) (n s : Nat) : (insB l n s).length ≤ l.length + 1 := ins_len (fun a h => by simp only [decide_eq_true_eq] at h; simp only [decide_eq_false_iff_not]; omega) l
theorem insT_len (l : List TN) (n : Nat) (q : PT) : (insT l n q).length ≤ l.length + 1 := ins_len (fun a h => by simp only [decide_eq_true_eq] at h; simp only [decide_eq_false_iff_not]; omega) l
theorem insP_len (l : List PN) (a b v : Nat) : (insP l a b v).length ≤ l.length + 1 := ins_len (fun a h => by simp only [decide_eq_true_eq] at h; simp only [decide_eq_false_iff_not]; omega) l

theorem put_led {b : Nat} {L' : Led} {l : List KV} {w w' : World} {e : Ending} (h : PutEnds b 157 l w e w') (hl : l = L'.kvs) (hok : L'.Ok) (hf : L'.kvs.length < 7000) : PutL b L' w e w' := by
  subst hl; exact ⟨h.1, ⟨h.2.1, hok, hf⟩, h.2.2⟩

theorem setSide_led (n₀ b n s : Nat) (L : Led) (w : World) (h : TxL n₀ w b L) (hn : 1 ≤ n ∧ n ≤ 9) (hs : 1 ≤ s ∧ s ≤ 5) (hf : L.kvs.length + 1 < 7000) :
    Calls Tryz.prog 100 #[.pointer (some ⟨b, 0, none⟩), .int .i64 n, .int .i64 s] w (PutL b { L with bs := insB L.bs n s } w) :=
  (setSide_any n₀ b n s L.kvs (by omega) w h.tx (by omega) (by omega)).mono fun e w' hp => put_led hp (Led.ins_box h.ok n s (by omega)) (h.ok.insB hn hs) (by have := insB_len L.bs n s; rw [Led.len] at hf ⊢; simp only; omega)
theorem setTube_led (n₀ b n : Nat) (q : PT) (hq : q.Good) (L : Led) (w : World) (h : TxL n₀ w b L) (hn : 1 ≤ n ∧ n ≤ 999) (hf : L.kvs.length + 1 < 7000) :
    Calls Tryz.prog 130 #[.pointer (some ⟨b, 0, none⟩), .int .i64 n, q.val] w (PutL b { L with ts := insT L.ts n q } w) :=
  (setTube_any n₀ b n L.kvs q hq.ok w h.tx (by omega) (by omega)).mono fun e w' hp => put_led hp (Led.ins_tube h.ok n q (by omega)) (h.ok.insT hn hq) (by have := insT_len L.ts n q; rw [Led.len] at hf ⊢; simp only; omega)
theorem setPoured_led (n₀ b x y v : Nat) (L : Led) (w : World) (h : TxL n₀ w b L) (hx : 1 ≤ x ∧ x < y ∧ y ≤ 999) (hv : 1 ≤ v ∧ v ≤ 1000000) (hf : L.kvs.length + 1 < 7000) :
    Calls Tryz.prog 135 #[.pointer (some ⟨b, 0, none⟩), .int .i64 x, .int .i64 y, .int .i64 v] w (PutL b { L with ps := insP L.ps x y v } w) :=
  (setPoured_any n₀ b x y v L.kvs (by omega) w h.tx (by omega) (by omega) (by omega)).mono fun e w' hp => put_led hp (Led.ins_pour h.ok x y v (by omega) (by omega)) (h.ok.insP hx hv) (by have := insP_len L.ps x y v; rw [Led.len] at hf ⊢; simp only; omega)
theorem change_led (n₀ b n f : Nat) (cap : Array Value) (q q' : PT) (hq : q'.Good) (L : Led) (w : World) (h : TxL n₀ w b L) (hn : 1 ≤ n ∧ n ≤ 999) (hf : L.kvs.length + 1 < 7000) (ht : L.tube n = some q)
    (eg : ∀ args w, (callFunc f args).run Tryz.prog w = .ok (.enter f args) w) (hF : Turns f cap w.heap.size w q q') :
    Calls Tryz.prog 131 #[.pointer (some ⟨b, 0, none⟩), .int .i64 n, .func (.func f) #[] cap] w (PutL b { L with ts := insT L.ts n q' } w) :=
  (change_any n₀ b n f cap L.kvs q q' ((h.ok.t1 _ ((Led.tube_mem h.ok).1 ht)).2.2.ok) hq.ok w h.tx (by omega) (by omega) (by rw [Led.get_tube h.ok (by omega), ht]; rfl) eg hF).mono fun e w' hp => put_led hp (Led.ins_tube h.ok n q' (by omega)) (h.ok.insT hn hq) (by have := insT_len L.ts n q'; rw [Led.len] at hf ⊢; simp only; omega)

end Go.Proofs.YtbpnllhhmookcaaGreatDoor
