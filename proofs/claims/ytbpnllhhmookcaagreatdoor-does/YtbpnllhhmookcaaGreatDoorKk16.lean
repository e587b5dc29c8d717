/- tubes. -/
import Derived.Test.YtbpnllhhmookcaaGreatDoorKk15
import Derived.Laws.EntriesVeiled
namespace Go.Proofs.YtbpnllhhmookcaaGreatDoor
open Go.RowKit Go.Shelf

attribute [local go_sem] Oper.semAt_some

/-- What an iterator that a call has answered gives, whatever blocks the rounds turn that are no nodes, also where such blocks from before the call are turned behind it. -/
def GivesT {α : Type} (P : Program) (g : Nat) (lb : Array Value) (encs : α → Array Value) (n₀ N : Nat) (xs : List α) (w : World) : Prop :=
  ∀ (Y : Nat → Prop) u X, Keeps Y w u → (∀ k, Y k → n₀ ≤ k ∧ k < N) → (∀ k, X k → n₀ ≤ k) → GivesM P g lb encs X xs u

theorem range_givesT (n₀ : Nat) (root : Option Addr) (n fr tt : Int) (l : List KV) (w : World) (hT : TreeIs n₀ w root l) :
    Calls Tryz.prog 166 #[.agg #[.pointer root, .int .i64 n], .int .u32 fr, .int .u32 tt] w fun e w' =>
      ∃ lb, e = .returned (.func (.func 177) #[] lb) ∧ GivesT Tryz.prog 177 lb encKV n₀ w.heap.size (sel fr tt l) w' ∧ Below w.heap.size w w' := range_givesM n₀ root n fr tt l w hT

theorem tubes_closeA (n₀ : Nat) {lb : Array Value} (ts : List TN) (hok : ∀ t ∈ ts, t.2.Ok ∧ t.1 < 1024) {w w2 : World} (hn : n₀ ≤ w.heap.size) (hG : GivesT Tryz.prog 177 lb encKV n₀ w.heap.size (ts.map kvT) w2) (hb : Below w.heap.size w w2) :
    ∃ bx, Ending.returned (.func (.func 167) #[] #[.pointer (some ⟨w2.heap.size, 0, none⟩)]) = .returned (.func (.func 167) #[] #[.pointer (some ⟨bx, 0, none⟩)]) ∧ GivesT Tryz.prog 167 #[.pointer (some ⟨bx, 0, none⟩)] encT n₀ w.heap.size ts (w2.alloc (.cells #[.func (.func 177) #[] lb] 233)) ∧ Below w.heap.size w (w2.alloc (.cells #[.func (.func 177) #[] lb] 233)) := by
  have h1 : Below w2.heap.size w2 (w2.alloc (.cells #[.func (.func 177) #[] lb] 233)) := (Below.refl _ _).alloc (Nat.le_refl _) _
  have hs := hb.size
  refine ⟨_, rfl, fun Y u X hk hY hX => ?_, hb.trans (h1.mono hs)⟩
  have hku := hk.size
  have hsz : (w2.alloc (.cells #[.func (.func 177) #[] lb] 233)).heap.size = w2.heap.size + 1 := by simp
  exact tubes1_givesM X n₀ _ hX lb ts hok u (by omega) (by omega) ((hk.cell (p := ⟨w2.heap.size, 0, none⟩) (by show w2.heap.size < _; omega) (fun h => by have h' := (hY _ h).2; simp at h'; omega)).trans (Boxed.new w2 _ _).cell)
    (fun X' hX' => hG Y u X' (((Keeps.refl _ w2).alloc _).trans hk) hY hX')

theorem tubes_closeB (n₀ : Nat) {lb : Array Value} (ts : List TN) (hok : ∀ t ∈ ts, t.2.Ok ∧ t.1 < 1024) {w w2 : World} {v : Value} (hn : n₀ ≤ w.heap.size) (hG : GivesT Tryz.prog 177 lb encKV n₀ (w.alloc (.cells #[.nilFunc] 233)).drew.heap.size (ts.map kvT) w2) (hbx : Boxed w2 w.heap.size 233 v) (hb : Below w.heap.size w w2) :
    ∃ bx, Ending.returned (.func (.func 167) #[] #[.pointer (some ⟨w.heap.size, 0, none⟩)]) = .returned (.func (.func 167) #[] #[.pointer (some ⟨bx, 0, none⟩)]) ∧ GivesT Tryz.prog 167 #[.pointer (some ⟨bx, 0, none⟩)] encT n₀ w.heap.size ts (w2.setCell ⟨w.heap.size, 0, none⟩ (.func (.func 177) #[] lb)) ∧ Below w.heap.size w (w2.setCell ⟨w.heap.size, 0, none⟩ (.func (.func 177) #[] lb)) := by
  have hs := hb.size
  have hl := hbx.lt
  have hsz : (w.alloc (.cells #[.nilFunc] 233)).drew.heap.size = w.heap.size + 1 := by show (w.alloc _).heap.size = _; simp
  rw [hsz] at hG
  have hk0 : Keeps (fun g => g = w.heap.size) w2 (w2.setCell ⟨w.heap.size, 0, none⟩ (.func (.func 177) #[] lb)) := (Keeps.refl (fun g => g = w.heap.size) w2).setCell (p := ⟨w.heap.size, 0, none⟩) (.inl rfl) _
  have hk0s := hk0.size
  refine ⟨_, rfl, fun Y u X hk hY hX => ?_, hb.setCell (p := ⟨w.heap.size, 0, none⟩) (Nat.le_refl _) _⟩
  have hku := hk.size
  exact tubes1_givesM X n₀ _ hX lb ts hok u (by omega) (by omega) ((hk.cell (p := ⟨w.heap.size, 0, none⟩) (by show w.heap.size < _; omega) (fun h => by have h' := (hY _ h).2; simp at h')).trans (hbx.set _).cell)
    (fun X' hX' => hG (fun k => Y k ∨ k = w.heap.size) u X' ((hk0.mono (fun k _ h => .inr h)).trans (hk.mono (fun k _ h => .inl h))) (fun k h => by rcases h with h | h; (have := hY k h; omega); omega) hX')

set_option maxRecDepth 8000 in
set_option maxHeartbeats 16000000 in
theorem tubes_any (n₀ b : Nat) (l : List KV) (ts : List TN) (hok : ∀ t ∈ ts, t.2.Ok ∧ t.1 < 1024) (hts : sel (tubeK 1) (tubeK 999) l = ts.map kvT) (w : World) (hT : TxAt n₀ w b l) :
    Calls Tryz.prog 141 #[.pointer (some ⟨b, 0, none⟩)] w fun e w' => ∃ bx, e = .returned (.func (.func 167) #[] #[.pointer (some ⟨bx, 0, none⟩)]) ∧ GivesT Tryz.prog 167 #[.pointer (some ⟨bx, 0, none⟩)] encT n₀ w.heap.size ts w' ∧ Below w.heap.size w w' := by
  have hmf : ∀ (fn : Fn) (first cap : Array Value) (w : World), (Instr.makeFunc fn first cap).run Tryz.prog w = .ok (.func fn first cap) w := fun _ _ _ _ => rfl
  obtain ⟨⟨r, hB, hI⟩, hf⟩ := hT
  have hn0 := hI.2.1
  have c0 := hB.c0
  have c1 := hB.c1
  have k1 := tubeKey_any 1 (by omega)
  have k9 := tubeKey_any 999 (by omega)
  have HR := hid (fun u (hu : Below w.heap.size w u) => hts ▸ range_givesT n₀ r l.length (tubeK 1) (tubeK 999) l u (hI.below (hu.mono hn0)))
  have hD1 : Below w.heap.size w w.drew := (Below.refl _ w).drew
  have hba : Below w.heap.size w (w.alloc (.cells #[.nilFunc] 233)) := (Below.refl _ w).alloc (Nat.le_refl _) _
  have hD2 := hba.drew
  have a0 := (hba.cell (p := ⟨b, 0, none⟩) hB.lt).trans c0
  have a1 := (hba.cell (p := ⟨b, 1, none⟩) hB.lt).trans c1
  have HBx := hid (Boxed.new w 233 .nilFunc)
  clear hI hB
  go_enter Tryz.func141, Tryz.ntmps141
  go_wp2_with fail
  go_region_with (first
    | (go_at_call_of 159 (Value.int IntKind.i64 999); refine (k9 _).mono ?_; rintro e w' ⟨rfl, rfl⟩)
    | (go_at_call 159; refine (k1 _).mono ?_; rintro e w' ⟨rfl, rfl⟩)
    | (go_at_call 166; refine (HR.out _ ?_).mono ?_; (first | exact hD1 | exact hD2); rintro e w2 ⟨lb, rfl, hG, hb2⟩; (try (have hbx := boxed_below (W := (w.alloc (.cells #[.nilFunc] 233)).drew) HBx.out hb2; have g0 := hbx.cell; have g1 := hbx.frozen))))
  all_goals go_wp2_with fail
  all_goals go_ret
  all_goals first
    | exact tubes_closeA n₀ ts hok hn0 hG ((Below.refl w.heap.size w).drew.trans hb2)
    | exact tubes_closeB n₀ ts hok hn0 hG hbx (hD2.trans (hb2.mono hD2.size))

end Go.Proofs.YtbpnllhhmookcaaGreatDoor

/- in's closure. -/
namespace Go.Proofs.YtbpnllhhmookcaaGreatDoor
open Go.RowKit Go.Shelf

attribute [local go_sem] Oper.semAt_some run_store_cplx

theorem own_recBox {W W' : World} {row : Option Nat} {b B' : Nat} {c : Array Value} (h : RecBox W b c) (hg : W.grownBy W' row) (hr : ∀ r, row = some r → B' ≤ r ∧ ∃ o : Obj, W.heap[r]? = some o ∧ o.isCells = false) : RecBox W' b c := by
  refine (hg.block b h.lt (fun e => ?_)).trans h
  obtain ⟨_, o, ho, hc⟩ := hr b e.symm
  rw [show W.heap[b]? = _ from h] at ho
  cases ho
  cases hc

def inBox (box : Int) (t : TN) : Bool := decide (t.2.box = box)

set_option maxRecDepth 8000 in
set_option maxHeartbeats 2000000 in
theorem in1_givesM (X : Nat → Prop) (n₀ ba bb : Nat) (hXn : ∀ k, X k → n₀ ≤ k) (hXb : ¬ X bb) (box : Int) (gf : Nat) (eg : ∀ args w, (callFunc gf args).run Tryz.prog w = .ok (.enter gf args) w) (lb : Array Value) (ts : List TN) (w : World) (hn : n₀ ≤ w.heap.size) (hba : ba < w.heap.size) (hc : w.cell? ⟨ba, 0, none⟩ = some (.func (.func gf) #[] lb))
    (hbb : Boxed w bb 3 (.int .i64 box))
    (hG : ∀ X : Nat → Prop, (∀ k, X k → n₀ ≤ k) → GivesM Tryz.prog gf lb encT X ts w) :
    GivesM Tryz.prog 168 #[.pointer (some ⟨ba, 0, none⟩), .pointer (some ⟨bb, 0, none⟩)] encT X (ts.filter (inBox box)) w := by
  intro l J Jx W hW hlw hl hX hJ hJx hY h0
  have c1 := (hW.cell (p := ⟨ba, 0, none⟩) hba).trans hc
  have hsW := hW.size
  have hmx := Tryz.mixed
  have hb1 : Below W.heap.size W (W.alloc (.cells #[.func (.yield l) #[] #[]] 235)) := (Below.refl _ _).alloc (Nat.le_refl _) _
  have hB1 := Boxed.new W 235 (.func (.yield l) #[] #[])
  have hbW : Boxed W bb 3 (.int .i64 box) := boxed_below hbb hW
  have hlb := hbW.lt
  have hlb0 := hbb.lt
  have hbW1 : Boxed (W.alloc (.cells #[.func (.yield l) #[] #[]] 235)) bb 3 (.int .i64 box) := boxed_below hbW hb1
  have c1' := (hb1.cell (p := ⟨ba, 0, none⟩) (by show ba < _; omega)).trans c1
  have HB := hid hB1
  have Hb := hid hb1
  have HbW := hid hbW1
  clear hB1 hb1 c1 hc hbW1 hbW hbb
  refine calls_marks Tryz.func168 rfl ?_
  simp only [Tryz.ntmps168, List.size_toArray, List.length_cons, List.length_nil, Nat.reduceAdd, Nat.reduceSub, Array.replicate_succ, Array.replicate_zero, List.push_toArray, List.append_toArray, List.nil_append, List.cons_append]
  go_wp2_with fail
  have hB1 := HB.out
  have hb1 := Hb.out
  have hbW1 := HbW.out
  have hs1 : (W.alloc (.cells #[.func (.yield l) #[] #[]] 235)).heap.size = W.heap.size + 1 := by simp
  clear HB Hb c1' HbW
  generalize W.alloc (.cells #[.func (.yield l) #[] #[]] 235) = W1 at *
  refine (wpIn_wide (n := 0)).1 ?_
  refine rangeM_law (gf := gf) (lb := lb) rfl eg (hG (fun k => X k ∨ k = l) (fun k h => by rcases h with h | h; exact hXn k h; omega)) (hW.trans (hb1.mono hsW)) (fun k h => by rcases h with h | h; (have := hX k h; omega); omega) (fun _ => rfl)
    (fun M pre V => pre <+: ts ∧ J M (pre.filter (inBox box)) V ∧ Boxed V W.heap.size 235 (.func (.yield l) #[] #[]) ∧ Boxed V bb 3 (.int .i64 box))
    (fun M c pre' V => c = .ret ∧ ∃ pre, pre <+: ts.filter (inBox box) ∧ Jx M pre V)
    (fun M s A B row hs hg hr => by
      obtain ⟨b, c, d, e⟩ := hs
      exact ⟨b, hJ M _ A B row c hg (fun r e => ⟨by have := (hr r e).1; omega, (hr r e).2⟩), own_boxed d hg hr, own_boxed e hg hr⟩)
    (fun M c s A B row hs hg hr => by
      obtain ⟨a, pre, b, d⟩ := hs
      exact ⟨a, pre, b, hJx M pre A B row d hg (fun r e => ⟨by have := (hr r e).1; omega, (hr r e).2⟩)⟩)
    (fun M hM => ⟨List.nil_prefix, hJ M [] W W1 none (h0 M (by omega)) (below_grown hb1) (fun r e => by cases e), hB1, hbW1⟩)
    (fun x a' V => ∃ b, W.heap.size < b ∧ RecBox V b x.2.cells ∧ a' = { tmps := #[.func (.yield l) #[] #[], .pointer (some ⟨ba, 0, none⟩), .pointer (some ⟨bb, 0, none⟩), .pointer (some ⟨W.heap.size, 0, none⟩), .int .i64 x.1, .pointer (some ⟨b, 0, none⟩), .func (.func gf) #[] lb, .int .i64 x.1, x.2.val, undef, undef, undef, undef, undef, undef, undef, undef, undef, undef, undef], defers := [] })
    (fun x a' _ A B row hs hg hr => by
      obtain ⟨b, h1, h2, h3⟩ := hs
      exact ⟨b, h1, own_recBox h2 hg hr, h3⟩) ?assign ?body ?done ?stop
  case assign =>
    intro y M pre x V K hM1 hM2 _ hi hK
    simp only [encT, PT.val, PT.cells, pl]
    gi_wp2
    have hbV : Below V.heap.size V (V.alloc (.cells #[.complex .f64 (fl x.2.x) (fl x.2.y), .int .i64 x.2.box, .int .i64 x.2.donor, .int .i64 x.2.status, .int .i64 x.2.thaws, .int .i64 x.2.began, .int .i64 x.2.left, .int .i64 x.2.used, .int .i64 x.2.lost] 182)) := (Below.refl _ _).alloc (Nat.le_refl _) _
    exact hK _ _ ((Keeps.refl _ V).below hbV (Nat.le_refl _)) ⟨hi.1, hJ M _ V _ none hi.2.1 (below_grown hbV) (fun r e => by cases e), boxed_below hi.2.2.1 hbV, boxed_below hi.2.2.2 hbV⟩ ⟨V.heap.size, hi.2.2.1.lt, World.alloc_heap_new V _, rfl⟩
  case body =>
    rintro y M pre x a' V hy1 hy2 hM1 hM2 hp ⟨hpre, hj, hbox, hbox2⟩ ⟨b, hb, hr, rfl⟩
    have hc2 := hbox.cell
    have hc3 := hbox2.cell
    simp only [PT.cells, pl] at hr
    have d0 := hr.cell 0
    have d1 := hr.cell 1
    have d2 := hr.cell 2
    have d3 := hr.cell 3
    have d4 := hr.cell 4
    have d5 := hr.cell 5
    have d6 := hr.cell 6
    have d7 := hr.cell 7
    have d8 := hr.cell 8
    simp only [List.getElem?_toArray, List.getElem?_cons_zero, List.getElem?_cons_succ] at d0 d1 d2 d3 d4 d5 d6 d7 d8
    by_cases hbx : (x.2.box : Int) = box
    · have hfx : inBox box x = true := by simp [inBox, hbx]
      have hfp : (pre ++ [x]).filter (inBox box) = pre.filter (inBox box) ++ [x] := by simp [List.filter_append, hfx]
      have hpt : (pre.filter (inBox box) ++ [x]) <+: ts.filter (inBox box) := by rw [← hfp]; exact hp.filter _
      obtain ⟨fn, tmps, assign, body, hyy, hR⟩ := hY M _ x V (by omega) hM2 hpt hj
      simp only [encT, PT.val, PT.cells, pl, hbx] at hyy
      gi_wp2
      refine ⟨rfl, hR.mono ?_⟩
      clear hR hyy
      rintro e V3 (⟨rfl, hj3, hk3⟩ | ⟨rfl, hx3, hk3⟩)
      · gi_wp2
        exact ⟨(hk3.mono (fun k _ h => by rcases h with h | h | h; exact .inl (.inl h); exact .inl (.inr h); exact .inr h)), hp.trans (List.prefix_refl _), by rw [hfp]; exact hj3, keeps_same hk3 (fun h => by rcases h with h | h | h; (have := hX _ h; omega); omega; omega) hbox, keeps_same hk3 (fun h => by rcases h with h | h | h; exact hXb h; omega; omega) hbox2⟩
      · gi_wp2
        exact ⟨(hk3.mono (fun k _ h => by rcases h with h | h | h; exact .inl (.inl h); exact .inl (.inr h); exact .inr h)), rfl, _, hpt, hx3⟩
    · have hfx : inBox box x = false := by simp [inBox, hbx]
      have hfp : (pre ++ [x]).filter (inBox box) = pre.filter (inBox box) := by simp [List.filter_append, hfx]
      have hbq : ((x.2.box : Int) == box) = false := by simp [hbx]
      gi_wp2
      repeat (refine And.intro (fun (f : FuncId) (e : none = some f) => nomatch e) ?_; gi_wp2)
      exact ⟨Keeps.refl _ _, hp, by rw [hfp]; exact hj, hbox, hbox2⟩
  case done =>
    rintro M V hM ⟨hpre, hj, hbox, hbox2⟩ hD
    go_wp2_with fail
    refine ⟨by simp, .inl ⟨_, _, rfl, run_takeDeferred (by first | exact hD | (rw [← hs1]; exact hD)), ?_⟩⟩
    refine ⟨.tuple #[], by simp [results, Tryz.results168, go_sem], ⟨_, rfl⟩, M, by omega, .inl ?_⟩
    exact (hJ M).putObj _ hj (by omega) (by first | exact hD | (rw [← hs1]; exact hD)) rfl
  case stop =>
    rintro M c pre V hM hp ⟨rfl, q, hq, hx⟩ hD
    refine (wpIn_wide (n := 0)).2 ?_
    go_wp2_with fail
    refine ⟨by simp, .inl ⟨_, _, rfl, run_takeDeferred (by first | exact hD | (rw [← hs1]; exact hD)), ?_⟩⟩
    refine ⟨.tuple #[], by simp [results, Tryz.results168, go_sem], ⟨_, rfl⟩, M, by omega, .inr ⟨q, hq, ?_⟩⟩
    exact (hJx M).putObj _ hx (by omega) (by first | exact hD | (rw [← hs1]; exact hD)) rfl

end Go.Proofs.YtbpnllhhmookcaaGreatDoor

/- in. -/
namespace Go.Proofs.YtbpnllhhmookcaaGreatDoor
open Go.RowKit Go.Shelf

attribute [local go_sem] Oper.semAt_some

/-- What an iterator that a call has answered gives, whatever blocks the rounds turn that are no nodes and that the call has not made, also where such blocks from before the call are turned behind it. -/
def GivesI {α : Type} (P : Program) (g : Nat) (lb : Array Value) (encs : α → Array Value) (n₀ N : Nat) (xs : List α) (w : World) : Prop :=
  ∀ (Y : Nat → Prop) u X, Keeps Y w u → (∀ k, Y k → n₀ ≤ k ∧ k < N) → (∀ k, X k → n₀ ≤ k ∧ (k < N ∨ w.heap.size ≤ k)) → GivesM P g lb encs X xs u

set_option maxRecDepth 8000 in
set_option maxHeartbeats 16000000 in
theorem in_any (n₀ b : Nat) (box : Int) (l : List KV) (ts : List TN) (hok : ∀ t ∈ ts, t.2.Ok ∧ t.1 < 1024) (hts : sel (tubeK 1) (tubeK 999) l = ts.map kvT) (w : World) (hT : TxAt n₀ w b l) :
    Calls Tryz.prog 143 #[.pointer (some ⟨b, 0, none⟩), .int .i64 box] w fun e w' => ∃ lb, e = .returned (.func (.func 168) #[] lb) ∧ GivesI Tryz.prog 168 lb encT n₀ w.heap.size (ts.filter (inBox box)) w' ∧ Below w.heap.size w w' := by
  have hmf : ∀ (fn : Fn) (first cap : Array Value) (w : World), (Instr.makeFunc fn first cap).run Tryz.prog w = .ok (.func fn first cap) w := fun _ _ _ _ => rfl
  have hn0 : n₀ ≤ w.heap.size := by obtain ⟨⟨r, hB, hI⟩, hf⟩ := hT; exact hI.2.1
  have hb1 : Below w.heap.size w (w.alloc (.cells #[.int .i64 box] 3)) := (Below.refl _ w).alloc (Nat.le_refl _) _
  have HTu := hid (tubes_any n₀ b l ts hok hts (w.alloc (.cells #[.int .i64 box] 3)) (hT.below hb1))
  have HB := hid (Boxed.new w 3 (.int .i64 box))
  have Hs := hid (show (w.alloc (.cells #[.int .i64 box] 3)).heap.size = w.heap.size + 1 by simp)
  have Hb1 := hid hb1
  clear hb1 hT
  go_enter Tryz.func143, Tryz.ntmps143
  go_wp2_with (go_at_call 141; refine HTu.out.mono ?_; clear HTu; rintro e w2 ⟨bx, rfl, hG, hb2⟩)
  go_ret
  have hb1 := Hb1.out
  have hbx := HB.out
  have hs := Hs.out
  clear Hb1 HB Hs
  generalize w.alloc (.cells #[.int .i64 box] 3) = w1 at *
  have hb12 : Below w.heap.size w w2 := hb1.trans (hb2.mono hb1.size)
  have h2 := hb2.size
  have hb3 : Below w2.heap.size w2 (w2.alloc (.cells #[.func (.func 167) #[] #[.pointer (some ⟨bx, 0, none⟩)]] 200)) := (Below.refl _ _).alloc (Nat.le_refl _) _
  refine ⟨_, rfl, fun Y u X hk hY hX => ?_, hb12.trans (hb3.mono hb12.size)⟩
  have hku := hk.size
  have hsz : (w2.alloc (.cells #[.func (.func 167) #[] #[.pointer (some ⟨bx, 0, none⟩)]] 200)).heap.size = w2.heap.size + 1 := by simp
  refine in1_givesM X n₀ _ _ (fun k h => (hX k h).1) (fun h => by have := (hX _ h).2; omega) box _ (enters_of Tryz.func167 (by kernel_rfl) rfl) _ ts u (by omega) (by omega) ((hk.cell (p := ⟨w2.heap.size, 0, none⟩) (by show w2.heap.size < _; omega) (fun h => by have h' := (hY _ h).2; simp at h'; omega)).trans (Boxed.new w2 _ _).cell) (keeps_same hk (fun h => by have h' := (hY _ h).2; omega) (boxed_below (boxed_below hbx hb2) hb3))
    (fun X' hX' => hG Y u X' (((Keeps.refl _ w2).alloc _).trans hk) (fun k h => by have := hY k h; omega) hX')

end Go.Proofs.YtbpnllhhmookcaaGreatDoor

/- pairs. -/
namespace Go.Proofs.YtbpnllhhmookcaaGreatDoor
open Go.RowKit Go.Shelf

attribute [local go_sem] Oper.semAt_some

/-- A pair: from, to, and the volume. -/
abbrev PN := Nat × Nat × Nat
def kvP (t : PN) : KV := (pourK t.1 t.2.1, ⟨(vol t.2.2).toArray⟩)
def encP (t : PN) : Array Value := #[.int .i64 t.1, .int .i64 t.2.1]

theorem pour_low (a b : Nat) (ha : a < 1024) (hb : b < 1024) : bits BinOp.and IntKind.u32 (3145728 + (a : Int) * 1024 + (b : Int)) 1023 = (b : Int) := by
  have h := bits_mask .u32 31 (by decide) (fun n h0 h1 => wraps32 n h0 (by omega)) 10 (by decide) (3145728 + (a : Int) * 1024 + (b : Int)) (by omega) (by omega)
  have e : ((2 : Int) ^ 10 - 1) = 1023 := by decide
  have e2 : ((2 : Int) ^ 10) = 1024 := by decide
  rw [e, e2] at h
  rw [h]
  omega

theorem pre_mapP {pre ts : List PN} {x : KV} (h1 : pre <+: ts) (h2 : (pre.map kvP ++ [x]) <+: ts.map kvP) : ∃ t, x = kvP t ∧ (pre ++ [t]) <+: ts := by
  obtain ⟨r, rfl⟩ := h1
  rw [List.map_append] at h2
  have h3 := (List.prefix_append_right_inj (pre.map kvP)).1 h2
  cases r with
  | nil => simp at h3
  | cons t r =>
    simp only [List.map_cons] at h3
    have : x = kvP t := by
      obtain ⟨q, hq⟩ := h3
      simp at hq; exact hq.1
    exact ⟨t, this, ⟨r, by simp⟩⟩

set_option maxRecDepth 8000 in
set_option maxHeartbeats 2000000 in
theorem pairs1_givesM (X : Nat → Prop) (n₀ bx : Nat) (hXn : ∀ k, X k → n₀ ≤ k) (lb : Array Value) (ts : List PN) (hok : ∀ t ∈ ts, t.1 < 1024 ∧ t.2.1 < 1024) (w : World) (hn : n₀ ≤ w.heap.size) (hbx : bx < w.heap.size) (hc : w.cell? ⟨bx, 0, none⟩ = some (.func (.func 177) #[] lb))
    (hG : ∀ X : Nat → Prop, (∀ k, X k → n₀ ≤ k) → GivesM Tryz.prog 177 lb encKV X (ts.map kvP) w) :
    GivesM Tryz.prog 170 #[.pointer (some ⟨bx, 0, none⟩)] encP X ts w := by
  intro l J Jx W hW hlw hl hX hJ hJx hY h0
  have c1 := (hW.cell (p := ⟨bx, 0, none⟩) hbx).trans hc
  have hsW := hW.size
  have hmx := Tryz.mixed
  have hb1 : Below W.heap.size W (W.alloc (.cells #[.func (.yield l) #[] #[]] 236)) := (Below.refl _ _).alloc (Nat.le_refl _) _
  have hB1 := Boxed.new W 236 (.func (.yield l) #[] #[])
  have c1' := (hb1.cell (p := ⟨bx, 0, none⟩) (by show bx < _; omega)).trans c1
  have HB := hid hB1
  have Hb := hid hb1
  clear hB1 hb1 c1 hc
  refine calls_marks Tryz.func170 rfl ?_
  simp only [Tryz.ntmps170, List.size_toArray, List.length_cons, List.length_nil, Nat.reduceAdd, Nat.reduceSub, Array.replicate_succ, Array.replicate_zero, List.push_toArray, List.append_toArray, List.nil_append, List.cons_append]
  go_wp2_with fail
  have hB1 := HB.out
  have hb1 := Hb.out
  have hs1 : (W.alloc (.cells #[.func (.yield l) #[] #[]] 236)).heap.size = W.heap.size + 1 := by simp
  clear HB Hb c1'
  generalize W.alloc (.cells #[.func (.yield l) #[] #[]] 236) = W1 at *
  refine (wpIn_wide (n := 0)).1 ?_
  refine rangeM_law (gf := 177) (lb := lb) rfl (enters_of Tryz.func177 (by kernel_rfl) rfl) (hG (fun k => X k ∨ k = l) (fun k h => by rcases h with h | h; exact hXn k h; omega)) (hW.trans (hb1.mono hsW)) (fun k h => by rcases h with h | h; (have := hX k h; omega); omega) (fun _ => rfl)
    (fun M pre' V => ∃ pre, pre' = pre.map kvP ∧ pre <+: ts ∧ J M pre V ∧ Boxed V W.heap.size 236 (.func (.yield l) #[] #[]))
    (fun M c pre' V => c = .ret ∧ ∃ pre, pre <+: ts ∧ Jx M pre V)
    (fun M s A B row hs hg hr => by
      obtain ⟨pre, a, b, c, d⟩ := hs
      exact ⟨pre, a, b, hJ M pre A B row c hg (fun r e => ⟨by have := (hr r e).1; omega, (hr r e).2⟩), own_boxed d hg hr⟩)
    (fun M c s A B row hs hg hr => by
      obtain ⟨a, pre, b, d⟩ := hs
      exact ⟨a, pre, b, hJx M pre A B row d hg (fun r e => ⟨by have := (hr r e).1; omega, (hr r e).2⟩)⟩)
    (fun M hM => ⟨[], rfl, List.nil_prefix, hJ M [] W W1 none (h0 M (by omega)) (below_grown hb1) (fun r e => by cases e), hB1⟩)
    (fun x a' _ => a' = { tmps := #[.func (.yield l) #[] #[], .pointer (some ⟨bx, 0, none⟩), .pointer (some ⟨W.heap.size, 0, none⟩), .int .u32 x.1, undef, undef, .func (.func 177) #[] lb, .int .u32 x.1, .string x.2, undef, undef, undef, undef, undef, undef, undef, undef, undef, undef, undef, undef], defers := [] })
    (fun _ _ _ _ _ _ hs _ _ => hs) ?assign ?body ?done ?stop
  case assign =>
    intro y M pre x V K hM1 hM2 _ hi hK
    simp only [encKV]
    gi_wp2
    exact hK _ _ (Keeps.refl _ _) hi rfl
  case body =>
    rintro y M pre' x a' V hy1 hy2 hM1 hM2 hp ⟨pre, rfl, hpre, hj, hbox⟩ rfl
    obtain ⟨t, rfl, hpt⟩ := pre_mapP hpre hp
    have htm : t ∈ ts := hpt.subset (by simp)
    have hc2 := hbox.cell
    obtain ⟨hl1, hl2⟩ := hok t htm
    have hlI1 : (t.1 : Int) < 1024 := by omega
    have hlI2 : (t.2.1 : Int) < 1024 := by omega
    obtain ⟨fn, tmps, assign, body, hyy, hR⟩ := hY M pre t V (by omega) hM2 hpt hj
    simp only [encP] at hyy
    have Hq1 := hid <| show (3145728 + (t.1 : Int) * 1024 + (t.2.1 : Int) - 3145728) / 1024 = (t.1 : Int) by omega
    have Hq2 := hid (pour_low t.1 t.2.1 hl1 hl2)
    have Hq3 := hid (show wrap64 (t.2.1 : Int) = (t.2.1 : Int) by first | exact wrap64_of (by omega) (by omega) | (unfold wrap64; omega))
    have Hyy := hid hyy
    clear hyy
    simp only [kvP, pourK]
    have HKV := hid (show kvP t = (3145728 + (t.1 : Int) * 1024 + (t.2.1 : Int), ⟨(vol t.2.2).toArray⟩) from rfl)
    generalize (⟨(vol t.2.2).toArray⟩ : ByteArray) = tx at *
    gi_wp2
    simp only [Hq1.out, Hq2.out, Hq3.out, Hyy.out]
    gi_wp2
    refine ⟨rfl, hR.mono ?_⟩
    clear hR Hyy
    rintro e V3 (⟨rfl, hj3, hk3⟩ | ⟨rfl, hx3, hk3⟩)
    · gi_wp2
      exact ⟨(hk3.mono (fun k _ h => by rcases h with h | h | h; exact .inl (.inl h); exact .inl (.inr h); exact .inr h)), pre ++ [t], by rw [List.map_append, List.map_singleton, HKV.out], hpt, hj3, keeps_same hk3 (fun h => by rcases h with h | h | h; (have := hX _ h; omega); omega; omega) hbox⟩
    · gi_wp2
      exact ⟨(hk3.mono (fun k _ h => by rcases h with h | h | h; exact .inl (.inl h); exact .inl (.inr h); exact .inr h)), rfl, pre ++ [t], hpt, hx3⟩
  case done =>
    rintro M V hM ⟨pre, he, hpre, hj, hbox⟩ hD
    have hpt : pre = ts := by
      have := congrArg List.length he
      simp at this
      exact hpre.eq_of_length this.symm
    subst hpt
    go_wp2_with fail
    refine ⟨by simp, .inl ⟨_, _, rfl, run_takeDeferred (by first | exact hD | (rw [← hs1]; exact hD)), ?_⟩⟩
    refine ⟨.tuple #[], by simp [results, Tryz.results170, go_sem], ⟨_, rfl⟩, M, by omega, .inl ?_⟩
    exact (hJ M).putObj _ hj (by omega) (by first | exact hD | (rw [← hs1]; exact hD)) rfl
  case stop =>
    rintro M c pre V hM hp ⟨rfl, q, hq, hx⟩ hD
    refine (wpIn_wide (n := 0)).2 ?_
    go_wp2_with fail
    refine ⟨by simp, .inl ⟨_, _, rfl, run_takeDeferred (by first | exact hD | (rw [← hs1]; exact hD)), ?_⟩⟩
    refine ⟨.tuple #[], by simp [results, Tryz.results170, go_sem], ⟨_, rfl⟩, M, by omega, .inr ⟨q, hq, ?_⟩⟩
    exact (hJx M).putObj _ hx (by omega) (by first | exact hD | (rw [← hs1]; exact hD)) rfl

end Go.Proofs.YtbpnllhhmookcaaGreatDoor
