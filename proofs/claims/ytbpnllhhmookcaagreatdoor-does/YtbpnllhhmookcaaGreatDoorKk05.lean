/- Range, and Get. -/
import Derived.Test.YtbpnllhhmookcaaGreatDoorKk04
import Derived.Lib.AppendZeros
namespace Go.Proofs.YtbpnllhhmookcaaGreatDoor
open Go.RowKit Go.Shelf

attribute [local go_sem] Oper.semAt_some

/-- A tree's root: nothing, or a node that has something. -/
def TreeIs (n₀ : Nat) (W : World) (root : Option Addr) (l : List KV) : Prop :=
  RiseK l ∧ n₀ ≤ W.heap.size ∧ ((root = none ∧ l = []) ∨ ∃ ht b, root = some ⟨b, 0, none⟩ ∧ NodeAt n₀ W ht b l)
theorem TreeIs.below {n₀ : Nat} {A B : World} {r : Option Addr} {l : List KV} (h : TreeIs n₀ A r l) (hb : Below n₀ A B) : TreeIs n₀ B r l :=
  ⟨h.1, Nat.le_trans h.2.1 hb.size, h.2.2.imp id fun ⟨ht, b, e, hn⟩ => ⟨ht, b, e, hn.below hb⟩⟩
theorem TreeIs.mono {n₀ n₁ : Nat} {A : World} {r : Option Addr} {l : List KV} (h : TreeIs n₀ A r l) (hn : n₀ ≤ n₁) (hs : n₁ ≤ A.heap.size) : TreeIs n₁ A r l :=
  ⟨h.1, hs, h.2.2.imp id fun ⟨ht, b, e, hN⟩ => ⟨ht, b, e, hN.mono hn hs⟩⟩

theorem range_any (root : Option Addr) (n fr tt : Int) (w : World) :
    Calls Tryz.prog 166 #[.agg #[.pointer root, .int .i64 n], .int .u32 fr, .int .u32 tt] w fun e w' =>
      e = .returned (.func (.func 177) #[] #[.pointer (some ⟨w.heap.size, 0, none⟩), .pointer (some ⟨w.heap.size + 1, 0, none⟩), .pointer (some ⟨w.heap.size + 2, 0, none⟩)]) ∧
      w' = ((w.alloc (.cells #[.pointer root, .int .i64 n] 103)).alloc (.cells #[.int .u32 fr] 151)).alloc (.cells #[.int .u32 tt] 151) := by
  have hmf : ∀ (fn : Fn) (first cap : Array Value) (w : World), (Instr.makeFunc fn first cap).run Tryz.prog w = .ok (.func fn first cap) w := fun _ _ _ _ => rfl
  go_enter Tryz.func166, Tryz.ntmps166
  go_wp2
  go_ret
  exact ⟨rfl, rfl⟩

theorem range1_gives (n₀ bt bf bo : Nat) (root : Option Addr) (fr tt : Int) (l : List KV) (w : World) (hT : TreeIs n₀ w root l)
    (h1 : bt < w.heap.size) (h2 : bf < w.heap.size) (h3 : bo < w.heap.size) (c1 : w.cell? ⟨bt, 0, none⟩ = some (.pointer root)) (c2 : w.cell? ⟨bf, 0, none⟩ = some (.int .u32 fr)) (c3 : w.cell? ⟨bo, 0, none⟩ = some (.int .u32 tt)) :
    Gives Tryz.prog 177 #[.pointer (some ⟨bt, 0, none⟩), .pointer (some ⟨bf, 0, none⟩), .pointer (some ⟨bo, 0, none⟩)] encKV n₀ (sel fr tt l) w := by
  intro y J Jx W hW hy hJ hJx hY h0
  have hT' := hT.below (hW.mono hT.2.1)
  have c1' := (hW.cell (p := ⟨bt, 0, none⟩) h1).trans c1
  have c2' := (hW.cell (p := ⟨bf, 0, none⟩) h2).trans c2
  have c3' := (hW.cell (p := ⟨bo, 0, none⟩) h3).trans c3
  have hR : Rounds y n₀ (sel fr tt l) J Jx := fun q x W1 hq hj => YieldAt.mono (hY q x W1 hq hj) fun e W' h => h.imp (fun ⟨a, b, c, _⟩ => ⟨a, b, c⟩) (fun ⟨a, b, _⟩ => ⟨a, b⟩)
  clear c1 c2 c3 hT
  obtain ⟨hrk, hns, (⟨rfl, rfl⟩ | ⟨ht, b, rfl, hN⟩)⟩ := hT'
  · go_enter Tryz.func177, Tryz.ntmps177
    go_wp2
    go_end0
    exact ⟨⟨_, rfl⟩, .inl h0⟩
  · have hw := walk_any y n₀ _ fr tt _ J Jx hJ hR ht b l [] W hN hns hrk (List.prefix_refl _) h0
    clear hR hY hN
    go_enter Tryz.func177, Tryz.ntmps177
    go_wp2_with (go_at_call 178; refine hw.mono ?_; clear hw; rintro e w2 (⟨rfl, hJ2, _⟩ | ⟨rfl, hJ2, _⟩ | ⟨rfl, q, hq, hx⟩))
    · go_end0
      exact ⟨⟨_, rfl⟩, .inl hJ2⟩
    · go_end0
      exact ⟨⟨_, rfl⟩, .inl hJ2⟩
    · go_end0
      exact ⟨⟨_, rfl⟩, .inr ⟨q, hq, hx⟩⟩

end Go.Proofs.YtbpnllhhmookcaaGreatDoor

/- Get. -/
namespace Go.Proofs.YtbpnllhhmookcaaGreatDoor
open Go.RowKit Go.Shelf

attribute [local go_sem] Oper.semAt_some

/-- Range, by what it gives. -/
theorem range_gives (n₀ : Nat) (root : Option Addr) (n fr tt : Int) (l : List KV) (w : World) (hT : TreeIs n₀ w root l) :
    Calls Tryz.prog 166 #[.agg #[.pointer root, .int .i64 n], .int .u32 fr, .int .u32 tt] w fun e w' =>
      ∃ lb, e = .returned (.func (.func 177) #[] lb) ∧ Gives Tryz.prog 177 lb encKV n₀ (sel fr tt l) w' ∧ Below w.heap.size w w' := by
  refine (range_any root n fr tt w).mono ?_
  rintro e w' ⟨rfl, rfl⟩
  have hb : Below w.heap.size w (((w.alloc (.cells #[.pointer root, .int .i64 n] 103)).alloc (.cells #[.int .u32 fr] 151)).alloc (.cells #[.int .u32 tt] 151)) := (((Below.refl _ w).alloc (Nat.le_refl _) _).alloc (by simp) _).alloc (by simp; omega) _
  refine ⟨_, rfl, range1_gives n₀ _ _ _ root fr tt l _ (hT.below (hb.mono hT.2.1)) (by simp; omega) (by simp) (by simp) ?_ ?_ ?_, hb⟩
  · have := (Below.heap_alloc _ (.cells #[.int .u32 tt] 151) w.heap.size (by simp; omega)).trans ((Below.heap_alloc _ (.cells #[.int .u32 fr] 151) w.heap.size (by simp)).trans (World.alloc_heap_new w (.cells #[.pointer root, .int .i64 n] 103)))
    simp only [World.cell?, this]; rfl
  · have := (Boxed.new (w.alloc (.cells #[.pointer root, .int .i64 n] 103)) 151 (.int .u32 fr)).alloc (.cells #[.int .u32 tt] 151)
    simpa using this.cell
  · have := (Boxed.new ((w.alloc (.cells #[.pointer root, .int .i64 n] 103)).alloc (.cells #[.int .u32 fr] 151)) 151 (.int .u32 tt))
    simpa using this.cell

/-- What was put under a key. -/
def getK (l : List KV) (k : Int) : Option ByteArray := ((sel k k l).head?).map Prod.snd

theorem own_boxed {W W' : World} {row : Option Nat} {B B' : Nat} {t : TypeId} {v : Value} (h : Boxed W B t v) (hg : W.grownBy W' row) (hr : ∀ r, row = some r → B' ≤ r ∧ ∃ o : Obj, W.heap[r]? = some o ∧ o.isCells = false) : Boxed W' B t v :=
  boxed_own B t (fun _ : Unit => v) () W W' row h hg (fun r e => (hr r e).2)
theorem own_below {W W' w₀ : World} {row : Option Nat} {n B' : Nat} (h : Below n w₀ W) (hn : n ≤ w₀.heap.size) (hB : n ≤ B') (hg : W.grownBy W' row) (hr : ∀ r, row = some r → B' ≤ r ∧ ∃ o : Obj, W.heap[r]? = some o ∧ o.isCells = false) : Below n w₀ W' :=
  ownFrom_below (β := Unit) hn hB () W W' row h hg hr
theorem boxed_below {W W' : World} {B : Nat} {t : TypeId} {v : Value} (h : Boxed W B t v) (hb : Below W.heap.size W W') : Boxed W' B t v := (hb.block B h.lt).trans h
theorem below_putDeferred {n : Nat} {w W : World} {D : Nat} {o : Obj} (h : Below n w W) (hn : n ≤ D) (hD : W.heap[D]? = some o) (o' : Obj) : Below n w (W.putObj D o') :=
  h.trans ((Below.refl n W).grown (grownBy_putObj' W D o') (by have := (Array.getElem?_eq_some_iff.1 hD).1; omega) (fun k e => by cases e; omega))
theorem boxed_put {W : World} {B D : Nat} {t : TypeId} {v : Value} {o : Obj} (h : Boxed W B t v) (hD : W.heap[D]? = some o) (ho : o.isCells = false) (o' : Obj) : Boxed (W.putObj D o') B t v :=
  (World.putObj_heap_other (by rintro rfl; rw [show W.heap[B]? = _ from h] at hD; cases hD; cases ho)).trans h

theorem results_two {fn : Func} {p q : Tmp} {tmps : Array Value} {a b : Nat} {w : World} {v1 v2 : Value} (h : fn.results = #[.cell p 9, .cell q 4]) (ha : tmps[p]?.getD undef = .pointer (some ⟨a, 0, none⟩)) (hb : tmps[q]?.getD undef = .pointer (some ⟨b, 0, none⟩))
    (h1 : w.cell? ⟨a, 0, none⟩ = some v1) (h2 : w.cell? ⟨b, 0, none⟩ = some v2) : (results fn tmps).run Tryz.prog w = .ok (.tuple #[v1, v2]) w := by
  simp only [results, h]
  simp [Sem.run_bind, Result.andThen, ha, hb, h1, h2, go_sem]

set_option maxRecDepth 8000 in
set_option maxHeartbeats 2000000 in
theorem get_any (n₀ : Nat) (root : Option Addr) (n k : Int) (l : List KV) (w : World) (hT : TreeIs n₀ w root l) :
    Calls Tryz.prog 158 #[.agg #[.pointer root, .int .i64 n], .int .u32 k] w fun e w' =>
      e = .returned (.tuple #[.string ((getK l k).getD ⟨#[]⟩), .bool (getK l k).isSome]) ∧ Below w.heap.size w w' := by
  obtain ⟨w1, hw1⟩ : ∃ w1, (((w.alloc (.cells #[.pointer root, .int .i64 n] 103)).alloc (.cells #[.string { data := #[] }] 9)).alloc (.cells #[.bool false] 4)) = w1 := ⟨_, rfl⟩
  have hb1 : Below w.heap.size w w1 := by rw [← hw1]; exact (((Below.refl _ w).alloc (Nat.le_refl _) _).alloc (by simp) _).alloc (by simp; omega) _
  have hB1 : Boxed w1 (w.heap.size + 1) 9 (.string { data := #[] }) := by
    rw [← hw1]; have := (Boxed.new (w.alloc (.cells #[.pointer root, .int .i64 n] 103)) 9 (.string { data := #[] })).alloc (.cells #[.bool false] 4); simpa using this
  have hB2 : Boxed w1 (w.heap.size + 1 + 1) 4 (.bool false) := by
    rw [← hw1]; have := Boxed.new ((w.alloc (.cells #[.pointer root, .int .i64 n] 103)).alloc (.cells #[.string { data := #[] }] 9)) 4 (.bool false); simpa using this
  have hs1 : w1.heap.size = w.heap.size + 3 := by rw [← hw1]; simp
  have hr := range_gives n₀ root n k k l w1 (hT.below (hb1.mono hT.2.1))
  have HW1 := hid hw1
  have HS1 := hid hs1
  have HB := hid (And.intro hB1 hB2)
  have HT := hid hT
  have HB1 := hid hb1
  clear hT hs1 hB1 hB2 hb1 hw1
  refine calls_marks Tryz.func158 rfl ?_
  simp only [Tryz.ntmps158, List.size_toArray, List.length_cons, List.length_nil, Nat.reduceAdd, Nat.reduceSub, Array.replicate_succ, Array.replicate_zero, List.push_toArray, List.append_toArray, List.nil_append, List.cons_append]
  go_wp2_with (go_at_call 166; rw [HW1.out]; refine hr.mono ?_; clear hr; rintro e w' ⟨lb, rfl, hG, hb⟩)
  have hs1 := HS1.out
  have hn0 := HT.out.2.1
  have hbw := HB1.out.trans (hb.mono (by omega))
  have hsz := hb.size
  refine (wpIn_wide (n := 0)).1 ?_
  refine range_law (gf := 177) (lb := lb) rfl (enters_of Tryz.func177 (by kernel_rfl) rfl) hG (Below.refl _ _) (by omega) (fun _ => rfl)
    (fun pre W => pre = [] ∧ Boxed W (w.heap.size + 1) 9 (.string { data := #[] }) ∧ Boxed W (w.heap.size + 1 + 1) 4 (.bool false) ∧ Below w.heap.size w W)
    (fun c pre W => c = .ret ∧ ∃ x, pre = [x] ∧ Boxed W (w.heap.size + 1) 9 (.string x.2) ∧ Boxed W (w.heap.size + 1 + 1) 4 (.bool true) ∧ Below w.heap.size w W)
    (fun s A B row hs hg hr => ⟨hs.1, own_boxed hs.2.1 hg hr, own_boxed hs.2.2.1 hg hr, own_below hs.2.2.2 (Nat.le_refl _) (by omega) hg hr⟩)
    (fun c s A B row hs hg hr => by obtain ⟨h1, x, h2, h3, h4, h5⟩ := hs; exact ⟨h1, x, h2, own_boxed h3 hg hr, own_boxed h4 hg hr, own_below h5 (Nat.le_refl _) (by omega) hg hr⟩)
    ⟨rfl, boxed_below HB.out.1 hb, boxed_below HB.out.2 hb, hbw⟩
    (fun x a' _ => a' = { tmps := #[.agg #[.pointer root, .int .i64 n], .int .u32 k, .pointer (some ⟨w.heap.size, 0, none⟩), undef, .pointer (some ⟨w.heap.size + 1, 0, none⟩), .pointer (some ⟨w.heap.size + 1 + 1, 0, none⟩), undef, .string x.2, .agg #[.pointer root, .int .i64 n], .int .u32 k, .int .u32 k, .func (.func 177) #[] lb, .int .u32 x.1, .string x.2, undef], defers := [] })
    (fun _ _ _ _ _ _ hs _ _ => hs) ?assign ?body ?done ?stop
  case assign =>
    intro y pre x W K _ hi hK
    simp only [encKV]
    gi_wp2
    exact hK _ _ (KeepsFrom.refl _ _) (Below.refl _ _) hi rfl
  case body =>
    rintro y pre x a' W hy1 hy2 hp ⟨rfl, hc1, hc2, hbW⟩ rfl
    have d1 := hc1.cell
    have d2 := hc2.cell
    have f1 := hc1.frozen
    have f2 := hc2.frozen
    gi_wp2
    refine ⟨((KeepsOthers.setCell _ _ _).trans (KeepsOthers.setCell _ _ _)).from _, rfl, x, rfl, (hc1.set _).other (by omega) _, (hc2.other (by omega) _).set _, (hbW.setCell (p := ⟨w.heap.size + 1, 0, none⟩) (by simp) _).setCell (p := ⟨w.heap.size + 1 + 1, 0, none⟩) (by simp; omega) _⟩
  case done =>
    rintro W ⟨he, hc1, hc2, hbW⟩ hD
    have d1 := hc1.cell
    have d2 := hc2.cell
    have f1 := hc1.frozen
    have f2 := hc2.frozen
    have HE := hid he
    clear he
    go_wp2_with fail
    have e1 := ((hc1.set (.string { data := #[] })).other (show w.heap.size + 1 ≠ w.heap.size + 1 + 1 by omega) (.bool false))
    have e2 := ((hc2.other (show w.heap.size + 1 + 1 ≠ w.heap.size + 1 by omega) (.string { data := #[] })).set (.bool false))
    have e3 := (hbW.setCell (p := ⟨w.heap.size + 1, 0, none⟩) (by simp) (.string { data := #[] })).setCell (p := ⟨w.heap.size + 1 + 1, 0, none⟩) (by simp; omega) (.bool false)
    have e4 := ((KeepsOthers.setCell W ⟨w.heap.size + 1, 0, none⟩ (.string { data := #[] })).trans (KeepsOthers.setCell _ ⟨w.heap.size + 1 + 1, 0, none⟩ (.bool false))).same w'.heap.size _ hD rfl
    generalize (W.setCell ⟨w.heap.size + 1, 0, none⟩ (.string { data := #[] })).setCell ⟨w.heap.size + 1 + 1, 0, none⟩ (.bool false) = W2 at *
    refine ⟨by simp, .inl ⟨_, _, rfl, run_takeDeferred e4, ?_⟩⟩
    have g1 := (boxed_put e1 e4 rfl (.deferred none)).cell
    have g2 := (boxed_put e2 e4 rfl (.deferred none)).cell
    refine ⟨_, results_two rfl rfl rfl g1 g2, ?_, below_putDeferred e3 (by omega) e4 _⟩
    simp [getK, HE.out]
  case stop =>
    rintro c pre W hp ⟨rfl, x, rfl, hc1, hc2, hbW⟩ hD
    refine (wpIn_wide (n := 0)).2 ?_
    go_wp2_with fail
    refine ⟨by simp, .inl ⟨_, _, rfl, run_takeDeferred hD, ?_⟩⟩
    have g1 := (boxed_put hc1 hD rfl (.deferred none)).cell
    have g2 := (boxed_put hc2 hD rfl (.deferred none)).cell
    refine ⟨_, results_two rfl rfl rfl g1 g2, ?_, below_putDeferred hbW (by omega) hD _⟩
    obtain ⟨r, hr⟩ := hp
    simp [getK, ← hr]

end Go.Proofs.YtbpnllhhmookcaaGreatDoor

/- Grow and Concat: entries of several slices in one. -/
namespace Go.Proofs.YtbpnllhhmookcaaGreatDoor
open Go.RowKit Go.Shelf

theorem Tryz.infoEntry : (Tryz.prog.info? 226).map (fun i => (i.zero, i.size, i.bytes)) = some (some (.agg #[.int .u32 0, .string { data := #[] }, .pointer none]), 3, 32) := by kernel_rfl

def entCells (es : List Ent) : List Value := es.flatMap Ent.cells
theorem entCells_len (es : List Ent) : (entCells es).length = es.length * 3 := by
  induction es with
  | nil => rfl
  | cons a r ih => simp [entCells, Ent.cells] at *; omega
theorem entCells_append (a b : List Ent) : entCells (a ++ b) = entCells a ++ entCells b := by simp [entCells]
theorem entCells_at : ∀ (es : List Ent) (i f : Nat) (hi : i < es.length), f < 3 → (entCells es)[i * 3 + f]? = (es[i].cells)[f]?
  | a :: r, 0, f, _, hf => by
    have : entCells (a :: r) = a.cells ++ entCells r := by simp [entCells]
    rw [this, List.getElem?_append_left (by simp [Ent.cells]; omega)]
    simp
  | a :: r, i + 1, f, hi, hf => by
    have : entCells (a :: r) = a.cells ++ entCells r := by simp [entCells]
    rw [this, List.getElem?_append_right (by simp [Ent.cells]; omega)]
    have e : (i + 1) * 3 + f - a.cells.length = i * 3 + f := by simp [Ent.cells]; omega
    rw [e, entCells_at r i f (by simpa using hi) hf]
    simp
theorem entCells_one (es : List Ent) : ∀ u ∈ entCells es, u.oneCell' = true := by
  intro u hu
  simp only [entCells, List.mem_flatMap] at hu
  obtain ⟨e, _, he⟩ := hu
  simp only [Ent.cells, List.mem_cons, List.not_mem_nil, or_false] at he
  rcases he with rfl | rfl | rfl <;> rfl
theorem addr_add_o (g o j : Nat) : ((⟨g, o, none⟩ : Addr).add j) = ⟨g, o + j, none⟩ := by unfold Addr.add; split <;> simp_all
/-- A slice's entries as the cells that it has. -/
theorem EntsAt.cells {n₀ : Nat} {W : World} {g o len cap : Nat} {es : List Ent} (h : EntsAt n₀ W (.slice (some ⟨g, o, none⟩) len cap) es) : ∀ j u, (entCells es)[j]? = some u → W.cell? ((⟨g, o, none⟩ : Addr).add j) = some u := by
  intro j u hu
  obtain ⟨g', o', cap', e, h1, h2, h3, h4, h5⟩ := h
  injection e with e1 e2 e3
  injection e1 with e1
  injection e1 with e4 e5
  subst e4; subst e5
  have hj : j < es.length * 3 := by rw [← entCells_len]; exact (List.getElem?_eq_some_iff.1 hu).1
  have hi : j / 3 < es.length := by omega
  have hf : j % 3 < 3 := Nat.mod_lt _ (by omega)
  have ej : j = j / 3 * 3 + j % 3 := by omega
  rw [addr_add_o]
  rw [ej, entCells_at es _ _ hi hf] at hu
  obtain ⟨a, b, c⟩ := h5 (j / 3) hi
  have : j % 3 = 0 ∨ j % 3 = 1 ∨ j % 3 = 2 := by omega
  rcases this with h0 | h0 | h0 <;> rw [h0] at hu <;> simp [Ent.cells] at hu
  · rw [show o + j = o + j / 3 * 3 by omega, a, ← hu]
  · rw [show o + j = o + j / 3 * 3 + 1 by omega, b, ← hu]
  · rw [show o + j = o + j / 3 * 3 + 2 by omega, c, ← hu]
/-- A row of one's own as entries. -/
theorem own_ents {w : World} {base : Nat} {v : Value} {es : List Ent} (h : w.ownsRow base 226 3 v es.length (entCells es)) (hv : v ≠ .slice none 0 0) (hl : es.length < 1000000) : EntsAt w.heap.size w v es := by
  have hc := h
  rcases h.2 with ⟨h1, _⟩ | ⟨g, cap, cur, rfl, h1, hg, hle, _⟩
  · exact absurd h1 hv
  · refine ⟨g, 0, cap, rfl, hle, (Array.getElem?_eq_some_iff.1 hg).1, Nat.le_refl _, hl, fun i hi => ?_⟩
    have c := fun f (hf : f < 3) (u : Value) (hu : (es[i].cells)[f]? = some u) => hc.cells (g := g) rfl (i * 3 + f) u (by rw [entCells_at es i f hi hf]; exact hu)
    have a0 := c 0 (by omega) _ rfl
    have a1 := c 1 (by omega) _ rfl
    have a2 := c 2 (by omega) _ rfl
    rw [addr_add] at a0 a1 a2
    refine ⟨?_, ?_, ?_⟩
    · rw [Nat.zero_add]; exact a0
    · rw [Nat.zero_add]; exact a1
    · rw [Nat.zero_add]; exact a2

set_option maxRecDepth 8000 in
set_option maxHeartbeats 1000000 in
theorem grow_any (n : Nat) (w : World) (h0 : 0 < n) (h1 : n < 1000000) :
    Calls Tryz.prog 184 #[.slice none 0 0, .int .i64 n] w fun e w' => ∃ v, e = .returned v ∧ w'.ownsRow w.heap.size 226 3 v 0 [] ∧ v ≠ .slice none 0 0 ∧ Below w.heap.size w w' := by
  obtain ⟨i0, hi, hz0, hz1, hz2⟩ := info_parts Tryz.infoEntry
  have hr := fun ty => Lib.run_append_nil_zeros w 227 3 ty 226 i0 _ .i64 .i64 Tryz.underlying227 Tryz.underlying3 hi hz0 n h0 (by omega) (by omega) (by rw [hz2]; omega)
  have hg1 := grownCap_ge w n 0 226
  have hg2 := grownCap_le_maxLen w n 0 226 (by unfold maxLen; omega)
  have h0' : (0 : Int) < n := by omega
  go_enter Tryz.func184, Tryz.ntmps184
  go_wp2_with (at_builtin; refine Lib.wpList_append_run _ rfl _ _ _ _ rfl _ _ rfl rfl _ _ (hr _) ?_)
  go_ret
  refine ⟨_, rfl, ⟨rfl, .inr ⟨w.heap.size, _, _, rfl, Nat.le_refl _, World.alloc_heap_new w _, by omega, hg2, ?_, by simp⟩⟩, by simp, ((Below.refl _ w).alloc (Nat.le_refl _) _).drew⟩
  rw [Array.size_append, size_zeroCells, size_zeroCells]
  show n * 3 + (grownCap w n 0 226 - n) * 3 = grownCap w n 0 226 * 3
  omega

/-- Several slices of entries, behind a slice. -/
structure ManyAt (w : World) (gb : Nat) (vs : List (Value × List Ent)) : Prop where
  lt : gb < w.heap.size
  cell : ∀ i (hi : i < vs.length), w.cell? ⟨gb, i, none⟩ = some vs[i].1
  ents : ∀ i (hi : i < vs.length), EntsAt w.heap.size w vs[i].1 vs[i].2
  few : vs.length < 100
  sum : ((vs.map Prod.snd).flatten).length < 100000

def upTo (vs : List (Value × List Ent)) (m : Nat) : List Ent := ((vs.take m).map Prod.snd).flatten
theorem upTo_step (vs : List (Value × List Ent)) (m : Nat) (hm : m < vs.length) : upTo vs (m + 1) = upTo vs m ++ vs[m].2 := by
  unfold upTo; rw [← List.take_append_getElem hm]; simp only [List.map_append, List.flatten_append, List.map_cons, List.map_nil, List.flatten_cons, List.flatten_nil, List.append_nil]
theorem upTo_len (vs : List (Value × List Ent)) (m : Nat) : (upTo vs m).length ≤ ((vs.map Prod.snd).flatten).length := by
  have : ((vs.map Prod.snd).flatten) = upTo vs m ++ ((vs.drop m).map Prod.snd).flatten := by
    unfold upTo; rw [← List.flatten_append, ← List.map_append, List.take_append_drop]
  rw [this]; simp
theorem upTo_all (vs : List (Value × List Ent)) : upTo vs vs.length = (vs.map Prod.snd).flatten := by unfold upTo; rw [List.take_length]

end Go.Proofs.YtbpnllhhmookcaaGreatDoor

/- Concat. -/
namespace Go.Proofs.YtbpnllhhmookcaaGreatDoor
open Go.RowKit Go.Shelf

set_option maxRecDepth 8000 in
set_option maxHeartbeats 2000000 in
theorem concat_any (gb : Nat) (vs : List (Value × List Ent)) (w : World) (es : List Ent) (hM : ManyAt w gb vs) (hes : (vs.map Prod.snd).flatten = es) (hpos : 0 < es.length) :
    Calls Tryz.prog 176 #[.slice (some ⟨gb, 0, none⟩) vs.length vs.length] w fun e w' => ∃ v, e = .returned v ∧ EntsAt w'.heap.size w' v es ∧ Below w.heap.size w w' := by
  have HM := hid hM
  have hfew := hM.few
  have hglt := hM.lt
  obtain ⟨i0, hi, hz0, hz1, hz2⟩ := info_parts Tryz.infoEntry
  have HP := hid hpos
  have hsum := hM.sum
  rw [hes] at hsum
  have HES := hid hes
  have HS := hid hsum
  have HU := hid (fun m => hes ▸ upTo_len vs m)
  have HA := hid (hes ▸ upTo_all vs)
  clear hM hpos hsum hes
  go_enter Tryz.func176, Tryz.ntmps176
  go_wp2_with fail
  go_loopg [3, 11] vs.length (fun gk s i wr => ∃ m : Nat, m + gk = vs.length ∧ i = .int .i64 m ∧ s = .int .i64 (upTo vs m).length ∧ wr = w)
  case atStart => exact ⟨0, by omega, rfl, rfl, rfl⟩
  case round =>
    obtain ⟨m, hm, rfl, rfl, hw⟩ := hrel
    have hw' := hw.symm
    clear hw
    subst hw'
    have HMm := hid hm
    clear hm
    by_cases hlt : m < vs.length
    · have hlt' : (m : Int) < (vs.length : Int) := by omega
      have hc := HM.out.cell m hlt
      obtain ⟨g, o, cap, hv, h1, h2, h3, h4, h5⟩ := HM.out.ents m hlt
      rw [hv] at hc
      have hul := HU.out m
      have hul2 := HU.out (m + 1)
      have hst := upTo_step vs m hlt
      have hsl : (upTo vs (m + 1)).length = (upTo vs m).length + (vs[m].2).length := by rw [hst]; simp
      have hs5 := HS.out
      have HSL := hid hsl
      have hb : (upTo vs m).length + (vs[m].2).length < 100000 := by omega
      clear h5 hst hul hul2 hsl hs5 hv
      generalize (vs[m]'hlt).2.length = k at *
      generalize (upTo vs m).length = q at *
      go_wp2_with fail
      go_roundg (vs.length - (m + 1))
      case measure => have := HMm.out; omega
      case rel => exact ⟨m + 1, by have := HMm.out; omega, by go_num, by rw [HSL.out]; go_num, rfl⟩
    · have hme : m = vs.length := by have := HMm.out; omega
      have hlt' : (vs.length : Int) ≤ (m : Int) := by omega
      have hq : (upTo vs m).length = es.length := by rw [hme, HA.out]
      rw [hq]
      have hq1 := HP.out
      have hq2 := HS.out
      clear hq
      go_wp2_with (go_at_call 184; refine (grow_any _ _ HP.out (by have := HS.out; omega)).mono ?_; rintro e w2 ⟨v, rfl, hown, hvn, hbel⟩)
      have HB := hid (show upTo vs 0 = [] from rfl)
      have hvn' := hvn
      go_loopg [6, 27] vs.length (fun gk v i wr => ∃ m : Nat, m + gk = vs.length ∧ i = .int .i64 m ∧ wr.ownsRow w.heap.size 226 3 v (upTo vs m).length (entCells (upTo vs m)) ∧ v ≠ .slice none 0 0 ∧ Below w.heap.size w wr)
      case atStart => exact ⟨0, by omega, rfl, by rw [HB.out]; exact hown, hvn, hbel⟩
      case round =>
        clear hown hvn hbel hvn' hlt' hme hlt HMm
        obtain ⟨m2, hm, rfl, hown, hvn, hbel⟩ := hrel
        have HMm := hid hm
        clear hm
        have hsz := hbel.size
        by_cases hlt : m2 < vs.length
        · have hlt' : (m2 : Int) < (vs.length : Int) := by omega
          have hc := (hbel.cell (p := ⟨gb, m2, none⟩) hglt).trans (HM.out.cell m2 hlt)
          have hE := (HM.out.ents m2 hlt).below hbel
          have hE' := hE
          obtain ⟨g, o, cap, hv, h1, h2, h3, h4, h5⟩ := hE'
          clear h5 h3
          rw [hv] at hc hE
          have HC := hid hE.cells
          have hul2 := HU.out (m2 + 1)
          have hst := upTo_step vs m2 hlt
          have hsl : (upTo vs (m2 + 1)).length = (upTo vs m2).length + (vs[m2].2).length := by rw [hst]; simp
          have hb : (upTo vs m2).length + (vs[m2].2).length < 100000 := by omega
          have HST := hid hst
          clear hst hul2 hsl hv hE
          generalize (vs[m2]'hlt).2 = ei at *
          generalize upTo vs m2 = ej at *
          go_wp2_with (at_builtin; refine wpList_append_own _ rfl _ _ 227 rfl w.heap.size 226 i0 _ 3 32 Tryz.underlying227 hi hz0 hz1 hz2 rfl (by decide) _ _ _ rfl hown ⟨g, o, none⟩ ei.length cap (entCells ei) rfl (entCells_len ei) HC.out (entCells_one ei) (by unfold maxLen; omega) (by omega) hsz ?_; intro v' w3 hown' hgrow' hnil')
          go_roundg (vs.length - (m2 + 1))
          case measure => have := HMm.out; omega
          case rel =>
            refine ⟨m2 + 1, by have := HMm.out; omega, by go_num, ?_, fun h => hvn (hnil'.1 h).1, hbel.grown hgrow' (by omega) (fun k hk => (hown.lt k hk).1)⟩
            rw [HST.out, List.length_append, entCells_append]
            exact hown'
        · have hme : m2 = vs.length := by have := HMm.out; omega
          have hlt' : (vs.length : Int) ≤ (m2 : Int) := by omega
          have hown2 := hown
          rw [hme, HA.out] at hown2
          clear hown
          have HO := hid hown2
          clear hown2 hme
          go_wp2_with fail
          go_ret
          exact ⟨_, rfl, own_ents HO.out hvn (by omega), hbel⟩

end Go.Proofs.YtbpnllhhmookcaaGreatDoor
