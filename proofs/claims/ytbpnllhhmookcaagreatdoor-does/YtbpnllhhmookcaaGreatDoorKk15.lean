/- The same within a round of a range over a function, where the first operations may make memory. -/
import Derived.Test.YtbpnllhhmookcaaGreatDoorKk11
import Derived.Test.YtbpnllhhmookcaaGreatDoorKk00
import Derived.Test.YtbpnllhhmookcaaGreatDoorKk13
import Derived.Test.YtbpnllhhmookcaaGreatDoorKk14
namespace Go.Proofs.YtbpnllhhmookcaaGreatDoor
open Go Go.RowKit

section
variable {P : Program} {ops : Array Oper} {md : Region.Mode} {C : World → Prop} {n y : Nat}

/-- No deferred call among them. -/
def noDefer (ops : Array Oper) : Bool := ops.all fun o => match o.op with
  | .defer _ => false
  | _ => true
theorem noDefer_spec (h : noDefer ops = true) {i : Nat} {o : Oper} (ho : ops[i]? = some o) : ∀ c, o.op ≠ .defer c := by
  intro c hc
  have := Array.all_eq_true.1 h i (Array.getElem?_eq_some_iff.1 ho).1
  rw [(Array.getElem?_eq_some_iff.1 ho).2, hc] at this
  simp at this

theorem wpIn_of_quiet {o : Oper} {a : Act} {K : Act → Prop} {K' : Act → World → Prop} {Q' : Exit → Act → World → Prop} {w : World} (hd : ∀ c, o.op ≠ .defer c) (hw : C w) (h : ∀ a w', C w' → K a → K' a w') (hh : o.quiet P a C K) : o.wpIn (Fence.wide.inRound y) 0 P a w K' Q' := by
  obtain ⟨v, h1, h2⟩ := hh
  have h3 := h1 w hw
  unfold Oper.quietAt at h3
  refine ⟨fun _ _ => trivial, ?_⟩
  rw [show (Fence.wide.inRound y).round = some y from rfl, Oper.semAt_some y a.eval o hd]
  generalize (execOp a.eval o).run P w = r at *
  cases r with
  | ok n w' =>
    cases n <;> simp only [Oper.quietUpon] at h3
    case value u =>
      obtain ⟨e1, e2⟩ := h3
      rw [e1, e2]
      exact h _ _ hw h2
    case skip =>
      obtain ⟨e1, e2⟩ := h3
      rw [e1]
      subst e2
      exact h _ _ hw h2
    case enter f args =>
      obtain ⟨e1, hc⟩ := h3
      rw [e1]
      exact ⟨fun h => by simp [Fence.wide, Fence.inRound] at h, CallsIn.inRound y (callsIn_wide.2 (hc.mono fun e w'' ⟨he, hw''⟩ => by subst he; exact h _ _ hw'' h2))⟩
  | halt x w' => simp only [Oper.quietUpon] at h3

theorem wpOpIn_of_qOp {i : Nat} {a : Act} {K : Act → Prop} {K' : Act → World → Prop} {Q' : Exit → Act → World → Prop} {w : World} (hd : noDefer ops = true) (hC : C w) (h : ∀ a w', C w' → K a → K' a w') (hh : qOp P ops C i K a) : wpOpIn (Fence.wide.inRound y) 0 P ops Q' i K' a w := by
  unfold qOp at hh
  unfold wpOpIn
  split
  · rename_i ho; simp only [ho] at hh; exact h _ _ hC hh
  · rename_i o ho
    simp only [ho] at hh
    split
    · rename_i hw; simp only [hw, if_true] at hh; exact wpIn_of_quiet (noDefer_spec hd ho) hC h hh
    · rename_i hw; simp only [hw] at hh; exact ⟨fun _ _ => trivial, h _ _ hC hh⟩

theorem wpAnyIn_of_T {Q : Array Bool → Act → Prop} {Q' : Exit → Act → World → Prop} {m : Nat} (hd : noDefer ops = true) (hQ : ∀ listed a w, C w → Q listed a → wpAnyIn (Fence.wide.inRound y) 0 P md ops Q' m listed a w) : ∀ (fuel : Nat) (listed : Array Bool) (a : Act) (w : World), C w →
    anyT P md ops C n Q fuel listed a → wpAnyIn (Fence.wide.inRound y) 0 P md ops Q' (m + fuel) listed a w
  | 0, _, _, _, hw, h => hQ _ _ _ hw h.2
  | fuel + 1, _, _, _, hw, h => ⟨fun h0 => absurd h0 h.1, fun i hi => wpOpIn_of_qOp hd hw (fun a' w' hw' => wpAnyIn_of_T hd hQ fuel _ a' w' hw') (h.2 i hi)⟩

theorem anyIn_of_list {Q : Exit → Act → World → Prop} : ∀ (tl : List Oper) (k : Nat) (listed : Array Bool) (a : Act) (w : World), chainT md ops tl.length k listed = true → (∀ j, j < tl.length → tl[j]? = ops[k + j]?) → wpListIn (Fence.wide.inRound y) 0 P ops Q tl a w → wpAnyIn (Fence.wide.inRound y) 0 P md ops Q tl.length listed a w
  | [], _, _, _, _, hB, _, h => ⟨by simpa [chainT] using hB, h⟩
  | o :: tl, k, listed, a, w, hB, hl, h => by
    simp only [List.length_cons, chainT, Bool.and_eq_true, beq_iff_eq] at hB
    have h0 : ops[k]? = some o := by simpa using (hl 0 (by simp)).symm
    refine wpAnyIn_all hB.1 (by simp) ?_
    intro i hi
    rw [List.mem_singleton] at hi
    subst hi
    have next : ∀ a w, wpListIn (Fence.wide.inRound y) 0 P ops Q tl a w → wpAnyIn (Fence.wide.inRound y) 0 P md ops Q tl.length (listed.setIfInBounds i true) a w := fun a w h =>
      anyIn_of_list tl (i + 1) _ a w hB.2 (fun j hj => by have := hl (j + 1) (by simpa using hj); simpa [Nat.add_assoc, Nat.add_comm 1 j] using this) h
    unfold wpOpIn
    simp only [h0]
    unfold wpListIn at h
    split
    · rename_i hw; simp only [hw, if_true] at h; exact Oper.wpIn_mono next h
    · rename_i hw; simp only [hw] at h; exact ⟨h.1, next _ _ h.2⟩

/-- A region within a round: the first k operations walked once, in the text's order, in whatever world of that kind; then the others, one behind the other. -/
theorem wpIn_region_then (k : Nat) {id : Nat} {Q : Exit → Act → World → Prop} {a : Act} {w : World} {l : List Oper} (hm : P.follows .mixedOrders = true) (hC : C { w with drawn := w.drawn + 1 }) (hk : k ≤ l.length) (hd : noDefer l.toArray = true) (hs : Region.noSelect l.toArray = true) (hT : tailsB .any l.toArray k = true)
    (hB : lexT .any l.toArray k k 0 (Array.replicate l.length false) = true) (hCh : chainT .any l.toArray (l.length - k) k (lstT k 0 (Array.replicate l.length false)) = true)
    (h : wpQuiet P l.toArray C (fun a' => ∀ w', C w' → wpListIn (Fence.wide.inRound y) 0 P l.toArray Q (l.drop k) a' w') (l.take k) a) :
    (Code.region id l.toArray true).wpIn (Fence.wide.inRound y) 0 P Q a w := by
  refine wpIn_region_any hm ?_
  have e1 : (l.take k).length = k := by rw [List.length_take]; omega
  have e2 : (l.drop k).length = l.length - k := by rw [List.length_drop]
  have h1 := anyT_lex (P := P) (md := .any) (C := C) (n := k) (ops := l.toArray) (Q := fun listed a' => ∀ w', C w' → wpAnyIn (Fence.wide.inRound y) 0 P .any l.toArray Q (l.length - k) listed a' w') (tails_of hT) hs (l.take k) 0 (Array.replicate l.length false) a
    (by intro j o _ hj; exfalso; simp [Array.getElem?_replicate] at hj; split at hj <;> simp at hj)
    (fun j hj => by rw [e1] at hj; simp [hj]) (by rw [e1]; exact hB)
    (wpQuiet_mono (fun a' h' w' hw' => by
      have := anyIn_of_list (md := .any) (ops := l.toArray) (Q := Q) (l.drop k) k (lstT k 0 (Array.replicate l.length false)) a' w' (by rw [e2]; exact hCh) (fun j hj => by simp) (h' w' hw')
      rw [e1]
      rwa [e2] at this) _ _ h)
  rw [e1] at h1
  have h2 := wpAnyIn_of_T (y := y) (Q' := Q) (m := l.length - k) hd (fun listed a w hw hq => hq w hw) k _ a { w with drawn := w.drawn + 1 } hC h1
  have e : l.length - k + k = l.toArray.size := by simp; omega
  rw [e] at h2
  simpa using h2

end
end Go.Proofs.YtbpnllhhmookcaaGreatDoor

/- Range, by what it gives to iterators above it; tubes. -/
namespace Go.Proofs.YtbpnllhhmookcaaGreatDoor
open Go.RowKit Go.Shelf

attribute [local go_sem] Oper.semAt_some

theorem range1_givesM (X : Nat → Prop) (n₀ bt bf bo : Nat) (hXn : ∀ k, X k → n₀ ≤ k) (root : Option Addr) (fr tt : Int) (l : List KV) (w : World) (hT : TreeIs n₀ w root l)
    (h1 : bt < w.heap.size) (h2 : bf < w.heap.size) (h3 : bo < w.heap.size) (c1 : w.cell? ⟨bt, 0, none⟩ = some (.pointer root)) (c2 : w.cell? ⟨bf, 0, none⟩ = some (.int .u32 fr)) (c3 : w.cell? ⟨bo, 0, none⟩ = some (.int .u32 tt)) :
    GivesM Tryz.prog 177 #[.pointer (some ⟨bt, 0, none⟩), .pointer (some ⟨bf, 0, none⟩), .pointer (some ⟨bo, 0, none⟩)] encKV X (sel fr tt l) w := by
  intro y J0 Jx W hW hyl hy _ hJ0 hJx hY h00
  have hn0 := hT.2.1
  have hsW := hW.size
  have hT' := hT.below (hW.mono hT.2.1)
  have c1' := (hW.cell (p := ⟨bt, 0, none⟩) h1).trans c1
  have c2' := (hW.cell (p := ⟨bf, 0, none⟩) h2).trans c2
  have c3' := (hW.cell (p := ⟨bo, 0, none⟩) h3).trans c3
  have hR : Rounds y n₀ (sel fr tt l) (fun pre V => J0 W.heap.size pre V ∧ W.heap.size ≤ V.heap.size) (Jx W.heap.size) := fun q x W1 hq hj => YieldAt.mono (hY _ q x W1 (Nat.le_refl _) hj.2 hq hj.1) fun e W' h => h.imp (fun ⟨a, b, c⟩ => ⟨a, ⟨b, Nat.le_trans hj.2 c.size⟩, c.toBelow (fun k e => by rcases e with e | e | e; exact hXn k e; omega; omega) (by omega)⟩) (fun ⟨a, b, _⟩ => ⟨a, b⟩)
  have hJ : OwnFrom W.heap.size (fun pre V => J0 W.heap.size pre V ∧ W.heap.size ≤ V.heap.size) := fun s A B row hs hg hr => ⟨hJ0 _ s A B row hs.1 hg hr, Nat.le_trans hs.2 hg.size⟩
  have h0 : (fun pre (V : World) => J0 W.heap.size pre V ∧ W.heap.size ≤ V.heap.size) ([] : List KV) W := ⟨h00 _ (Nat.le_refl _), Nat.le_refl _⟩
  clear c1 c2 c3 hT
  obtain ⟨hrk, hns, (⟨rfl, rfl⟩ | ⟨ht, b, rfl, hN⟩)⟩ := hT'
  · go_enter Tryz.func177, Tryz.ntmps177
    go_wp2
    go_end0
    exact ⟨⟨_, rfl⟩, W.heap.size, Nat.le_refl _, .inl h0.1⟩
  · have hw := walk_any y n₀ _ fr tt _ _ _ hJ hR ht b l [] W hN hns hrk (List.prefix_refl _) h0
    clear hR hY hN
    go_enter Tryz.func177, Tryz.ntmps177
    go_wp2_with (go_at_call 178; refine hw.mono ?_; clear hw; rintro e w2 (⟨rfl, hJ2, _⟩ | ⟨rfl, hJ2, _⟩ | ⟨rfl, q, hq, hx⟩))
    · go_end0
      exact ⟨⟨_, rfl⟩, W.heap.size, Nat.le_refl _, .inl hJ2.1⟩
    · go_end0
      exact ⟨⟨_, rfl⟩, W.heap.size, Nat.le_refl _, .inl hJ2.1⟩
    · go_end0
      exact ⟨⟨_, rfl⟩, W.heap.size, Nat.le_refl _, .inr ⟨q, hq, hx⟩⟩

theorem givesM_later {α : Type} {P : Program} {g : Nat} {lb : Array Value} {encs : α → Array Value} {X : Nat → Prop} {xs : List α} {w w' : World} (h : GivesM P g lb encs X xs w) (hb : Below w.heap.size w w') : GivesM P g lb encs X xs w' :=
  fun l J Jx W hW hl => h l J Jx W (hb.trans (hW.mono hb.size)) (Nat.le_trans hb.size hl)

/-- Range: what it gives, whatever blocks the rounds turn that are no nodes, also where such a block from before is turned behind the call. -/
theorem range_givesM (n₀ : Nat) (root : Option Addr) (n fr tt : Int) (l : List KV) (w : World) (hT : TreeIs n₀ w root l) :
    Calls Tryz.prog 166 #[.agg #[.pointer root, .int .i64 n], .int .u32 fr, .int .u32 tt] w fun e w' =>
      ∃ lb, e = .returned (.func (.func 177) #[] lb) ∧ (∀ (Y : Nat → Prop) u X, Keeps Y w' u → (∀ k, Y k → n₀ ≤ k ∧ k < w.heap.size) → (∀ k, X k → n₀ ≤ k) → GivesM Tryz.prog 177 lb encKV X (sel fr tt l) u) ∧ Below w.heap.size w w' := by
  refine (range_any root n fr tt w).mono ?_
  rintro e w' ⟨rfl, hw'⟩
  have hb : Below w.heap.size w w' := by rw [hw']; exact (((Below.refl _ w).alloc (Nat.le_refl _) _).alloc (by simp) _).alloc (by simp; omega) _
  have hs : w'.heap.size = w.heap.size + 3 := by rw [hw']; simp
  have c0 : w'.cell? ⟨w.heap.size, 0, none⟩ = some (.pointer root) := by
    rw [hw']
    have := (Below.heap_alloc _ (.cells #[.int .u32 tt] 151) w.heap.size (by simp; omega)).trans ((Below.heap_alloc _ (.cells #[.int .u32 fr] 151) w.heap.size (by simp)).trans (World.alloc_heap_new w (.cells #[.pointer root, .int .i64 n] 103)))
    simp only [World.cell?, this]; rfl
  have c1 : w'.cell? ⟨w.heap.size + 1, 0, none⟩ = some (.int .u32 fr) := by
    rw [hw']
    have := (Boxed.new (w.alloc (.cells #[.pointer root, .int .i64 n] 103)) 151 (.int .u32 fr)).alloc (.cells #[.int .u32 tt] 151)
    simpa using this.cell
  have c2 : w'.cell? ⟨w.heap.size + 2, 0, none⟩ = some (.int .u32 tt) := by
    rw [hw']
    have := (Boxed.new ((w.alloc (.cells #[.pointer root, .int .i64 n] 103)).alloc (.cells #[.int .u32 fr] 151)) 151 (.int .u32 tt))
    simpa using this.cell
  have hTw := hT.below (hb.mono hT.2.1)
  refine ⟨_, rfl, fun Y u X hk h1 h2 => ?_, hb⟩
  have hn := hT.2.1
  have hku := hk.size
  exact range1_givesM X n₀ _ _ _ h2 root fr tt l _ (hTw.below (hk.toBelow (fun k e => (h1 k e).1) (by omega))) (by omega) (by omega) (by omega)
    ((hk.cell (p := ⟨w.heap.size, 0, none⟩) (by show w.heap.size < _; omega) (fun h => by have h' := (h1 _ h).2; simp at h')).trans c0)
    ((hk.cell (p := ⟨w.heap.size + 1, 0, none⟩) (by show w.heap.size + 1 < _; omega) (fun h => by have h' := (h1 _ h).2; simp at h'; omega)).trans c1)
    ((hk.cell (p := ⟨w.heap.size + 2, 0, none⟩) (by show w.heap.size + 2 < _; omega) (fun h => by have h' := (h1 _ h).2; simp at h'; omega)).trans c2)

/-- A tube under its number. -/
abbrev TN := Nat × PT
def kvT (t : TN) : KV := (tubeK t.1, ⟨t.2.text.toArray⟩)
def encT (t : TN) : Array Value := #[.int .i64 t.1, t.2.val]

theorem pre_map {pre ts : List TN} {x : KV} (h1 : pre <+: ts) (h2 : (pre.map kvT ++ [x]) <+: ts.map kvT) : ∃ t, x = kvT t ∧ (pre ++ [t]) <+: ts := by
  obtain ⟨r, rfl⟩ := h1
  rw [List.map_append] at h2
  have h3 := (List.prefix_append_right_inj (pre.map kvT)).1 h2
  cases r with
  | nil => simp at h3
  | cons t r =>
    simp only [List.map_cons] at h3
    have : x = kvT t := by
      obtain ⟨q, hq⟩ := h3
      simp at hq; exact hq.1
    exact ⟨t, this, ⟨r, by simp⟩⟩

theorem yield_bool {e : Ending} {A B : Prop} (h : (e = .returned (.bool true) ∧ A) ∨ (e = .returned (.bool false) ∧ B)) : ∃ bv, e = .returned (.bool bv) ∧ ((bv = true ∧ A) ∨ (bv = false ∧ B)) := by
  rcases h with ⟨rfl, h⟩ | ⟨rfl, h⟩
  · exact ⟨true, rfl, .inl ⟨rfl, h⟩⟩
  · exact ⟨false, rfl, .inr ⟨rfl, h⟩⟩

theorem Tryz.mixed : Tryz.prog.follows .mixedOrders = true := by kernel_rfl

set_option maxRecDepth 8000 in
set_option maxHeartbeats 2000000 in
theorem tubes1_givesM (X : Nat → Prop) (n₀ bx : Nat) (hXn : ∀ k, X k → n₀ ≤ k) (lb : Array Value) (ts : List TN) (hok : ∀ t ∈ ts, t.2.Ok ∧ t.1 < 1024) (w : World) (hn : n₀ ≤ w.heap.size) (hbx : bx < w.heap.size) (hc : w.cell? ⟨bx, 0, none⟩ = some (.func (.func 177) #[] lb))
    (hG : ∀ X : Nat → Prop, (∀ k, X k → n₀ ≤ k) → GivesM Tryz.prog 177 lb encKV X (ts.map kvT) w) :
    GivesM Tryz.prog 167 #[.pointer (some ⟨bx, 0, none⟩)] encT X ts w := by
  intro l J Jx W hW hlw hl hX hJ hJx hY h0
  have c1 := (hW.cell (p := ⟨bx, 0, none⟩) hbx).trans hc
  have hsW := hW.size
  have hmx := Tryz.mixed
  have hb1 : Below W.heap.size W (W.alloc (.cells #[.func (.yield l) #[] #[]] 235)) := (Below.refl _ _).alloc (Nat.le_refl _) _
  have hB1 := Boxed.new W 235 (.func (.yield l) #[] #[])
  have c1' := (hb1.cell (p := ⟨bx, 0, none⟩) (by show bx < _; omega)).trans c1
  have HB := hid hB1
  have Hb := hid hb1
  clear hB1 hb1 c1 hc
  refine calls_marks Tryz.func167 rfl ?_
  simp only [Tryz.ntmps167, List.size_toArray, List.length_cons, List.length_nil, Nat.reduceAdd, Nat.reduceSub, Array.replicate_succ, Array.replicate_zero, List.push_toArray, List.append_toArray, List.nil_append, List.cons_append]
  go_wp2_with fail
  have hB1 := HB.out
  have hb1 := Hb.out
  have hs1 : (W.alloc (.cells #[.func (.yield l) #[] #[]] 235)).heap.size = W.heap.size + 1 := by simp
  clear HB Hb c1'
  generalize W.alloc (.cells #[.func (.yield l) #[] #[]] 235) = W1 at *
  refine (wpIn_wide (n := 0)).1 ?_
  refine rangeM_law (gf := 177) (lb := lb) rfl (enters_of Tryz.func177 (by kernel_rfl) rfl) (hG (fun k => X k ∨ k = l) (fun k h => by rcases h with h | h; exact hXn k h; omega)) (hW.trans (hb1.mono hsW)) (fun k h => by rcases h with h | h; (have := hX k h; omega); omega) (fun _ => rfl)
    (fun M pre' V => ∃ pre, pre' = pre.map kvT ∧ pre <+: ts ∧ J M pre V ∧ Boxed V W.heap.size 235 (.func (.yield l) #[] #[]))
    (fun M c pre' V => c = .ret ∧ ∃ pre, pre <+: ts ∧ Jx M pre V)
    (fun M s A B row hs hg hr => by
      obtain ⟨pre, a, b, c, d⟩ := hs
      exact ⟨pre, a, b, hJ M pre A B row c hg (fun r e => ⟨by have := (hr r e).1; omega, (hr r e).2⟩), own_boxed d hg hr⟩)
    (fun M c s A B row hs hg hr => by
      obtain ⟨a, pre, b, d⟩ := hs
      exact ⟨a, pre, b, hJx M pre A B row d hg (fun r e => ⟨by have := (hr r e).1; omega, (hr r e).2⟩)⟩)
    (fun M hM => ⟨[], rfl, List.nil_prefix, hJ M [] W W1 none (h0 M (by omega)) (below_grown hb1) (fun r e => by cases e), hB1⟩)
    (fun x a' _ => a' = { tmps := #[.func (.yield l) #[] #[], .pointer (some ⟨bx, 0, none⟩), .pointer (some ⟨W.heap.size, 0, none⟩), .int .u32 x.1, .string x.2, .func (.func 177) #[] lb, .int .u32 x.1, .string x.2, undef, undef, undef, undef, undef, undef, undef, undef], defers := [] })
    (fun _ _ _ _ _ _ hs _ _ => hs) ?assign ?body ?done ?stop
  case assign =>
    intro y M pre x V K hM1 hM2 _ hi hK
    simp only [encKV]
    gi_wp2
    exact hK _ _ (Keeps.refl _ _) hi rfl
  case body =>
    rintro y M pre' x a' V hy1 hy2 hM1 hM2 hp ⟨pre, rfl, hpre, hj, hbox⟩ rfl
    obtain ⟨t, rfl, hpt⟩ := pre_map hpre hp
    have htm : t ∈ ts := hpt.subset (by simp)
    have HRd := hid (readTube_text t.2 (hok t htm).1)
    have hc2 := hbox.cell
    have hlt := (hok t htm).2
    have hltI : (t.1 : Int) < 1024 := by omega
    have hq1 : IntKind.u32.wrap (2097152 + (t.1 : Int) - 2097152) = t.1 := by rw [wraps32 _ (by omega) (by omega)]; omega
    have hq2 : IntKind.i64.wrap (t.1 : Int) = t.1 := wraps63 _ (by omega) (by omega)
    simp only [kvT, tubeK]
    have HKV := hid (show kvT t = (2097152 + (t.1 : Int), ⟨t.2.text.toArray⟩) from rfl)
    generalize (⟨t.2.text.toArray⟩ : ByteArray) = tx at *
    gi_wp2
    refine wpIn_region_then (C := fun u => Below V.heap.size V u) 6 hmx ((Below.refl _ V).drew) (by decide) (by kernel_rfl) (by kernel_rfl) (by kernel_rfl) (by kernel_rfl) (by kernel_rfl) ?_
    simp only [List.take_succ_cons, List.take_zero]
    refine wpQuiet_step fun K hK => ?_
    simp only [Region.wanted, if_true]
    refine ⟨.func (.yield l) #[] #[], fun u hu => ?_, hK _ ?_⟩
    · have hcu := (hu.cell (p := ⟨W.heap.size, 0, none⟩) hbox.lt).trans hc2
      simp [Oper.quietAt, Oper.quietUpon, go_sem, hcu]
    clear hK
    simp only [Act.put, List.setIfInBounds_toArray, List.set_cons_succ, List.set_cons_zero]
    refine wpQuiet_step fun K hK => ?_
    simp only [Region.wanted, if_true]
    refine ⟨.int .u32 (2097152 + (t.1 : Int)), fun u hu => ?_, hK _ ?_⟩
    · simp [Oper.quietAt, Oper.quietUpon, go_sem]
    clear hK
    simp only [Act.put, List.setIfInBounds_toArray, List.set_cons_succ, List.set_cons_zero]
    refine wpQuiet_step fun K hK => ?_
    simp only [Region.wanted, if_true]
    refine ⟨.int .u32 t.1, fun u hu => ?_, hK _ ?_⟩
    · simp [Oper.quietAt, Oper.quietUpon, go_sem, hq1]
    clear hK
    simp only [Act.put, List.setIfInBounds_toArray, List.set_cons_succ, List.set_cons_zero]
    refine wpQuiet_step fun K hK => ?_
    simp only [Region.wanted, if_true]
    refine ⟨.int .i64 t.1, fun u hu => ?_, hK _ ?_⟩
    · simp [Oper.quietAt, Oper.quietUpon, go_sem, hq2]
    clear hK
    simp only [Act.put, List.setIfInBounds_toArray, List.set_cons_succ, List.set_cons_zero]
    refine wpQuiet_step fun K hK => ?_
    simp only [Region.wanted, if_true]
    refine ⟨.string tx, fun u hu => ?_, hK _ ?_⟩
    · simp [Oper.quietAt, Oper.quietUpon, go_sem]
    clear hK
    simp only [Act.put, List.setIfInBounds_toArray, List.set_cons_succ, List.set_cons_zero]
    refine wpQuiet_step fun K hK => ?_
    simp only [Region.wanted, if_true]
    refine ⟨t.2.val, fun u hu => ?_, hK _ ?_⟩
    · have hcl := (HRd.out u).mono (R' := fun e w'' => e = .returned t.2.val ∧ Below V.heap.size V w'') (fun e w'' ⟨he, hb⟩ => ⟨he, hu.trans (hb.mono hu.size)⟩)
      simp only [Oper.quietAt, execOp, resolve, invoke, Sem.run_bind, List.map_toArray, List.map_cons, List.map_nil]
      simp [Oper.quietUpon, go_sem]
      exact hcl
    clear hK
    simp only [Act.put, List.setIfInBounds_toArray, List.set_cons_succ, List.set_cons_zero]
    refine wpQuiet_nil ?_
    intro V2 hbV
    have hbox2 := boxed_below hbox hbV
    obtain ⟨fn, tmps, assign, body, hyy, hR⟩ := hY M pre t V2 (by omega) (by have := hbV.size; omega) hpt (hJ M pre V V2 none hj (below_grown hbV) (fun r e => by cases e))
    simp only [encT] at hyy
    simp only [List.drop_succ_cons, List.drop_zero]
    gi_wp2
    refine ⟨rfl, hR.mono ?_⟩
    clear hR hyy
    rintro e V3 (⟨rfl, hj3, hk3⟩ | ⟨rfl, hx3, hk3⟩)
    · gi_wp2
      exact ⟨((Keeps.refl _ V).below hbV (Nat.le_refl _)).trans (hk3.mono (fun k _ h => by rcases h with h | h | h; exact .inl (.inl h); exact .inl (.inr h); exact .inr h)), pre ++ [t], by rw [List.map_append, List.map_singleton, HKV.out], hpt, hj3, keeps_same hk3 (fun h => by rcases h with h | h | h; (have := hX _ h; omega); omega; omega) hbox2⟩
    · gi_wp2
      exact ⟨((Keeps.refl _ V).below hbV (Nat.le_refl _)).trans (hk3.mono (fun k _ h => by rcases h with h | h | h; exact .inl (.inl h); exact .inl (.inr h); exact .inr h)), rfl, pre ++ [t], hpt, hx3⟩
  case done =>
    rintro M V hM ⟨pre, he, hpre, hj, hbox⟩ hD
    have hpt : pre = ts := by
      have := congrArg List.length he
      simp at this
      exact hpre.eq_of_length this.symm
    subst hpt
    go_wp2_with fail
    refine ⟨by simp, .inl ⟨_, _, rfl, run_takeDeferred (by first | exact hD | (rw [← hs1]; exact hD)), ?_⟩⟩
    refine ⟨.tuple #[], by simp [results, Tryz.results167, go_sem], ⟨_, rfl⟩, M, by omega, .inl ?_⟩
    exact (hJ M).putObj _ hj (by omega) (by first | exact hD | (rw [← hs1]; exact hD)) rfl
  case stop =>
    rintro M c pre V hM hp ⟨rfl, q, hq, hx⟩ hD
    refine (wpIn_wide (n := 0)).2 ?_
    go_wp2_with fail
    refine ⟨by simp, .inl ⟨_, _, rfl, run_takeDeferred (by first | exact hD | (rw [← hs1]; exact hD)), ?_⟩⟩
    refine ⟨.tuple #[], by simp [results, Tryz.results167, go_sem], ⟨_, rfl⟩, M, by omega, .inr ⟨q, hq, ?_⟩⟩
    exact (hJx M).putObj _ hx (by omega) (by first | exact hD | (rw [← hs1]; exact hD)) rfl

end Go.Proofs.YtbpnllhhmookcaaGreatDoor
