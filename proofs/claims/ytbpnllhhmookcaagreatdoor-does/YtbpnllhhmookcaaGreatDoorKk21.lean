/- addBelow: all into which anything was poured from a group. -/
import Derived.Test.YtbpnllhhmookcaaGreatDoorKk19
import Derived.Test.YtbpnllhhmookcaaGreatDoorKk20
import Derived.Test.YtbpnllhhmookcaaGreatDoorKk16
namespace Go.Proofs.YtbpnllhhmookcaaGreatDoor
open Go.RowKit Go.Shelf

attribute [local go_sem] Oper.semAt_some

theorem own_blk {W W' : World} {row : Option Nat} {B k : Nat} {c : Array Value} {t : TypeId} {f : Nat × Nat} (h : W.heap[k]? = some (.cells c t f)) (hg : W.grownBy W' row) (hr : ∀ r, row = some r → B ≤ r ∧ ∃ o : Obj, W.heap[r]? = some o ∧ o.isCells = false) : W'.heap[k]? = some (.cells c t f) := by
  refine (hg.block k (Array.getElem?_eq_some_iff.1 h).1 (fun e => ?_)).trans h
  obtain ⟨o, ho, hc⟩ := (hr k e.symm).2
  rw [h] at ho; cases ho; cases hc
theorem own_keeps {S : Nat → Prop} {w W W' : World} {row : Option Nat} {B : Nat} (h : Keeps S w W) (hB : w.heap.size ≤ B) (hg : W.grownBy W' row) (hr : ∀ r, row = some r → B ≤ r ∧ ∃ o : Obj, W.heap[r]? = some o ∧ o.isCells = false) : Keeps S w W' :=
  h.grown hg (fun k e => .inr (by have := (hr k e).1; omega))

/-- What is below: one pair more. -/
def downF (S : Nat → Bool) (p : PN) : Nat → Bool := if S p.1 then orL S [p.2.1] else S
def downS (S : Nat → Bool) (ps : List PN) : Nat → Bool := ps.foldl downF S
theorem downS_step (S : Nat → Bool) (ps : List PN) (p : PN) : downS S (ps ++ [p]) = downF (downS S ps) p := by simp [downS]

theorem none_end {P : Program} {F : Func} {V : World} {D : Nat} {tmps : Array Value} {R : Ending → World → Prop} (hres : F.results = #[]) (hD : V.heap[D]? = some (.deferred (some []))) (h : R (.returned (.tuple #[])) (V.putObj D (.deferred none))) :
    bodyPostM Fence.wide 0 P F R .normal { tmps := tmps, defers := [{ target := .collected D, args := #[] }] } V := by
  refine ⟨by simp, .inl ⟨_, _, rfl, run_takeDeferred hD, ?_⟩⟩
  refine ⟨.tuple #[], by simp [results, hres, go_sem], h⟩

set_option maxRecDepth 8000 in
set_option maxHeartbeats 16000000 in
theorem addBelow_any (n₀ b g : Nat) (S : Nat → Bool) (l : List KV) (ps : List PN) (hok : ∀ t ∈ ps, t.1 < 1000 ∧ t.2.1 < 1000) (hps : sel (pourK 1 1) (pourK 999 999) l = ps.map kvP) (w : World) (hT : TxAt n₀ w b l) (hG : GroupAt w g S) (hg : n₀ ≤ g) :
    Calls Tryz.prog 116 #[.pointer (some ⟨b, 0, none⟩), .pointer (some ⟨g, 0, none⟩)] w fun e w' => e = .returned (.tuple #[]) ∧ GroupAt w' g (downS S ps) ∧ Keeps (fun k => k = g) w w' := by
  have hn0 : n₀ ≤ w.heap.size := by obtain ⟨⟨r, hB, hI⟩, hf⟩ := hT; exact hI.2.1
  have hgl := hG.lt
  have hb1 : Below w.heap.size w (w.alloc (.cells #[.pointer (some ⟨g, 0, none⟩)] 198)) := (Below.refl _ w).alloc (Nat.le_refl _) _
  have HTu := hid (pairs_any n₀ b l ps (fun t ht => by have := hok t ht; omega) hps _ (hT.below hb1))
  have HB := hid (Boxed.new w 198 (.pointer (some ⟨g, 0, none⟩)))
  have Hs := hid (show (w.alloc (.cells #[.pointer (some ⟨g, 0, none⟩)] 198)).heap.size = w.heap.size + 1 by simp)
  have Hb1 := hid hb1
  have HG := hid hG
  clear hb1 hT hG
  refine calls_marks Tryz.func116 rfl ?_
  simp only [Tryz.ntmps116, List.size_toArray, List.length_cons, List.length_nil, Nat.reduceAdd, Nat.reduceSub, Array.replicate_succ, Array.replicate_zero, List.push_toArray, List.append_toArray, List.nil_append, List.cons_append]
  go_wp2_with (go_at_call 152; refine HTu.out.mono ?_; clear HTu; rintro e w2 ⟨bx, rfl, hGv, hb2⟩)
  have hb1 := Hb1.out
  have hbx := HB.out
  have hs := Hs.out
  have hG := HG.out
  clear Hb1 HB Hs HG
  generalize w.alloc (.cells #[.pointer (some ⟨g, 0, none⟩)] 198) = w1 at *
  have hb12 : Below w.heap.size w w2 := hb1.trans (hb2.mono hb1.size)
  have h2 := hb2.size
  have hbx2 := boxed_below hbx hb2
  have hG2 := hG.below hb12
  have hk2 : Keeps (fun k => k = g) w w2 := below_toKeeps hb12 _
  refine (wpIn_wide (n := 0)).1 ?_
  refine rangeM_law (gf := 170) (lb := #[.pointer (some ⟨bx, 0, none⟩)]) rfl (enters_of Tryz.func170 (by kernel_rfl) rfl) (hGv (fun _ => False) w2 (fun k => k = g) (Keeps.refl _ _) (fun _ h => h.elim) (fun k h => by omega)) (Below.refl _ _) (fun k h => by omega) (fun _ => rfl)
    (fun M pre V => Boxed V w.heap.size 198 (.pointer (some ⟨g, 0, none⟩)) ∧ GroupAt V g (downS S pre) ∧ Keeps (fun k => k = g) w V)
    (fun _ _ _ _ => False)
    (fun _ s A B row hs hg hr => by
      obtain ⟨h1, h2, h3⟩ := hs
      exact ⟨own_boxed h1 hg hr, own_blk h2 hg hr, own_keeps h3 hk2.size hg hr⟩)
    (fun _ c s A B row hs hg hr => hs.elim)
    (fun _ _ => ⟨hbx2, hG2, hk2⟩)
    (fun x a' V => a' = { tmps := #[.pointer (some ⟨b, 0, none⟩), .pointer (some ⟨g, 0, none⟩), undef, .pointer (some ⟨w.heap.size, 0, none⟩), .int .i64 x.1, .int .i64 x.2.1, .pointer (some ⟨b, 0, none⟩), .func (.func 170) #[] #[.pointer (some ⟨bx, 0, none⟩)], .int .i64 x.1, .int .i64 x.2.1, undef, undef, undef, undef, undef, undef, undef, undef, undef], defers := [] })
    (fun x a' _ A B row hs hg hr => hs) ?assign ?body ?done ?stop
  case assign =>
    intro y M pre x V K hM1 hM2 _ hi hK
    simp only [encP]
    gi_wp2
    exact hK _ _ (Keeps.refl _ _) hi rfl
  case body =>
    rintro y M pre x a' V hy1 hy2 hM1 hM2 hp ⟨hbox, hgr, hk⟩ rfl
    have hxm : x ∈ ps := hp.subset (by simp)
    have hx1 := (hok x hxm).1
    have hx2 := (hok x hxm).2
    have hc2 := hbox.cell
    have hc3 := hgr.cell hx1
    have HS := hid (downS_step S pre x)
    cases hb : downS S pre x.1 with
    | false =>
      rw [hb] at hc3
      gi_wp2
      exact ⟨Keeps.refl _ _, hbox, by rw [HS.out, downF, hb]; exact hgr, hk⟩
    | true =>
      rw [hb] at hc3
      have hba : Below V.heap.size V (V.alloc (.cells #[.int .i64 x.2.1] 3)) := (Below.refl _ _).alloc (Nat.le_refl _) _
      have hgrl := hgr.lt
      have HA := hid (add_any g (downS S pre) (.slice (some ⟨V.heap.size, 0, none⟩) 1 1) [x.2.1] (fun z hz => by simp at hz; omega) (by simp) _ (hgr.below hba) (one_ints V x.2.1) (fun k hk => by simp [Value.ownBlock] at hk; omega))
      have Hba := hid hba
      clear hba
      gi_wp2
      refine ⟨trivial, rfl, (CallsIn.inRound _ (callsIn_wide.2 HA.out)).mono ?_⟩
      rintro e w3 ⟨rfl, hg3, hk3⟩
      gi_wp2
      have hka : Keeps (fun k => k = g) V w3 := (below_toKeeps Hba.out _).trans hk3
      exact ⟨hka.mono (fun k _ h => .inl h), hka.block _ hbox.lt (by omega) |>.trans hbox, by rw [HS.out, downF, hb]; exact hg3, hk.trans hka⟩
  case done =>
    rintro M V hM ⟨hbox, hgr, hk⟩ hD
    go_wp2_with fail
    refine none_end (by kernel_rfl) hD ⟨rfl, ?_, ?_⟩
    · exact own_blk (B := 0) hgr (grownBy_putObj' V _ _) (fun r e => by cases e; exact ⟨Nat.zero_le _, _, hD, rfl⟩)
    · exact own_keeps hk hk2.size (grownBy_putObj' V _ _) (fun r e => by cases e; exact ⟨Nat.le_refl _, _, hD, rfl⟩)
  case stop =>
    rintro M c pre V hM hp h hD
    exact h.elim

end Go.Proofs.YtbpnllhhmookcaaGreatDoor

/- slices.Backward over pairs. -/
namespace Go.Proofs.YtbpnllhhmookcaaGreatDoor
open Go.RowKit Go.Shelf

attribute [local go_sem] Oper.semAt_some

def pairV (p : PN) : Value := .agg #[.int .i64 p.1, .int .i64 p.2.1]
def pairCells (l : List PN) : List Value := l.flatMap fun p => [.int .i64 p.1, .int .i64 p.2.1]
theorem pairCells_len (l : List PN) : (pairCells l).length = l.length * 2 := by
  induction l with
  | nil => rfl
  | cons p l ih => simp only [pairCells, List.flatMap_cons, List.length_append, List.length_cons, List.length_nil] at *; omega
theorem pairCells_append (a b : List PN) : pairCells (a ++ b) = pairCells a ++ pairCells b := by simp [pairCells]
theorem pairCells_at : ∀ (l : List PN) (i : Nat) (hi : i < l.length), (pairCells l)[i * 2]? = some (.int .i64 l[i].1) ∧ (pairCells l)[i * 2 + 1]? = some (.int .i64 l[i].2.1)
  | p :: l, 0, _ => by simp [pairCells]
  | p :: l, i + 1, hi => by
    have := pairCells_at l i (by simpa using hi)
    simp only [pairCells, List.flatMap_cons] at *
    refine ⟨?_, ?_⟩
    · rw [List.getElem?_append_right (by simp; omega), show (i + 1) * 2 - [Value.int .i64 (p.1 : Int), Value.int .i64 (p.2.1 : Int)].length = i * 2 by simp; omega]; exact this.1
    · rw [List.getElem?_append_right (by simp; omega), show (i + 1) * 2 + 1 - [Value.int .i64 (p.1 : Int), Value.int .i64 (p.2.1 : Int)].length = i * 2 + 1 by simp; omega]; exact this.2

/-- The pairs from the last one on, each with its index. -/
def backs (ps : List PN) : List (Nat × PN) := (ps.zipIdx.map fun q => (q.2, q.1)).reverse
theorem backs_len (ps : List PN) : (backs ps).length = ps.length := by simp [backs]
theorem backs_at (ps : List PN) {m : Nat} (hm : m < ps.length) : (backs ps)[m]? = some (ps.length - 1 - m, ps[ps.length - 1 - m]) := by
  unfold backs
  rw [List.getElem?_reverse (by simpa using hm)]
  simp only [List.length_map, List.length_zipIdx, List.getElem?_map, List.getElem?_zipIdx]
  rw [List.getElem?_eq_getElem (by omega)]
  simp
theorem backs_map (ps : List PN) : (backs ps).map Prod.snd = ps.reverse := by
  simp only [backs, List.map_reverse, List.map_map]
  congr 1
  have : (Prod.snd ∘ fun q : PN × Nat => (q.2, q.1)) = Prod.fst := rfl
  rw [this]
  simp
theorem backs_take (ps : List PN) {m : Nat} (hm : m < ps.length) : (backs ps).take (m + 1) = (backs ps).take m ++ [(ps.length - 1 - m, ps[ps.length - 1 - m])] := by
  rw [List.take_add_one, backs_at ps hm]; rfl
def encBk (x : Nat × PN) : Array Value := #[.int .i64 x.1, pairV x.2]

set_option maxRecDepth 8000 in
set_option maxHeartbeats 4000000 in
theorem back1_givesM (X : Nat → Prop) (bx : Nat) (v : Value) (ps : List PN) (hl : ps.length < 9000) (w : World) (hbx : bx < w.heap.size) (hc : w.cell? ⟨bx, 0, none⟩ = some v) (hrow : w.ownsRow 0 208 2 v ps.length (pairCells ps)) (hXb : ¬ X bx) (hXr : ∀ g, v.ownBlock = some g → ¬ X g) :
    GivesM Tryz.prog 171 #[.pointer (some ⟨bx, 0, none⟩)] encBk X (backs ps) w := by
  intro l J Jx W hW hlw hlW hX hJ hJx hY h0
  have hsW := hW.size
  have c1 := (hW.cell (p := ⟨bx, 0, none⟩) hbx).trans hc
  have hrW : W.ownsRow 0 208 2 v ps.length (pairCells ps) := ownsRow_block hrow (fun g hg => hW.block g (hrow.lt g hg).2)
  have HR := hid (fun g hg => (hrow.lt g hg).2)
  have HXr := hid hXr
  clear hrow hXr
  obtain ⟨oa, cap, rfl, hform⟩ : ∃ oa cap, v = .slice oa ps.length cap ∧ ∀ i (hi : i < ps.length), ∃ g, oa = some ⟨g, 0, none⟩ ∧ ps.length ≤ cap ∧ g < w.heap.size ∧ ¬ X g ∧ W.cell? ⟨g, i * 2, none⟩ = some (.int .i64 ps[i].1) ∧ W.cell? ⟨g, i * 2 + 1, none⟩ = some (.int .i64 ps[i].2.1) := by
    have hc' := hrW
    rcases hrW.2 with ⟨hv, h0⟩ | ⟨g, cap, cur, rfl, _, hg, hle, _⟩
    · exact ⟨none, 0, by rw [hv, h0], fun i hi => by omega⟩
    · refine ⟨some ⟨g, 0, none⟩, cap, rfl, fun i hi => ⟨g, rfl, hle, HR.out g rfl, HXr.out g rfl, ?_, ?_⟩⟩
      · have := hc'.cells (g := g) rfl (i * 2) _ (pairCells_at ps i hi).1
        rw [addr_add] at this; exact this
      · have := hc'.cells (g := g) rfl (i * 2 + 1) _ (pairCells_at ps i hi).2
        rw [addr_add] at this; exact this
  have HF := hid hform
  have HY := hid hY
  have H0 := hid h0
  clear hform hY h0 HR HXr hrW
  simp only [List.append_toArray, List.cons_append, List.nil_append]
  go_enter Tryz.func171, Tryz.ntmps171
  go_wp2_with fail
  go_loopg [3] ps.length (fun gk i wr => ∃ m : Nat, m + gk = ps.length ∧ i = .int .i64 ((ps.length : Int) - 1 - m) ∧ J W.heap.size ((backs ps).take m) wr ∧ Keeps (fun k => X k ∨ k = l ∨ W.heap.size ≤ k) W wr)
  case atStart => exact ⟨0, by omega, by go_num, H0.out _ (Nat.le_refl _), Keeps.refl _ _⟩
  case round =>
    obtain ⟨m, hm, rfl, hJm, hk⟩ := hrel
    have HM := hid hm
    have hmle : m ≤ ps.length := by omega
    clear hm
    have hc2 := (hk.cell (p := ⟨bx, 0, none⟩) (by show bx < _; omega) (by rintro (h | h | h); exact hXb h; (have h' : bx = l := h; omega); (have h' : W.heap.size ≤ bx := h; omega))).trans c1
    have hks := hk.size
    by_cases hlt : m < ps.length
    · obtain ⟨j, hj⟩ : ∃ j, j = ps.length - 1 - m := ⟨_, rfl⟩
      have hjl : j < ps.length := by omega
      have e1 : (ps.length : Int) - 1 - m = (j : Int) := by omega
      rw [e1]
      obtain ⟨g, rfl, hcap, hgl, hXg, q0, q1⟩ := HF.out j hjl
      have p0 := (hk.cell (p := ⟨g, j * 2, none⟩) (by show g < _; omega) (by rintro (h | h | h); exact hXg h; (have h' : g = l := h; omega); (have h' : W.heap.size ≤ g := h; omega))).trans q0
      have p1 := (hk.cell (p := ⟨g, j * 2 + 1, none⟩) (by show g < _; omega) (by rintro (h | h | h); exact hXg h; (have h' : g = l := h; omega); (have h' : W.heap.size ≤ g := h; omega))).trans q1
      have HT := hid (backs_take ps hlt)
      have HP : Hid ((backs ps).take m ++ [(j, ps[j])] <+: backs ps) := hid (by subst hj; rw [← HT.out]; exact List.take_prefix _ _)
      have HT2 : Hid ((backs ps).take (m + 1) = (backs ps).take m ++ [(j, ps[j])]) := hid (by subst hj; exact HT.out)
      clear HT
      obtain ⟨fn, tmps, assign, body, hy, hR2⟩ := HY.out _ _ (j, ps[j]) wr (Nat.le_refl _) hks HP.out hJm
      simp only [encBk, pairV] at hy
      have Hj := hid hj
      clear hj q0 q1
      generalize ps[j] = pj at *
      have hj0 : (0 : Int) ≤ (j : Int) := by omega
      have hjn : (j : Int) < (ps.length : Int) := by omega
      go_upto_region 3 with fail
      refine (wpIn_wide (n := 0)).1 ?_
      gi_wp2
      refine ⟨rfl, hR2.mono ?_⟩
      clear hR2 hy
      rintro e w2 (⟨rfl, hJ2, hk2⟩ | ⟨rfl, hx2, hk2⟩)
      · gi_wp2
        go_wp2_with fail
        go_roundg (gk - 1)
        case measure => have := HM.out; omega
        case rel => exact ⟨m + 1, by have := HM.out; omega, by have := Hj.out; go_num, by rw [HT2.out]; exact hJ2, hk.trans hk2⟩
      · gi_wp2
        go_wp2_with fail
        refine bodyPost_ret (v := .tuple #[]) (by simp [results, Tryz.results171, go_sem]) rfl ?_
        exact ⟨⟨_, rfl⟩, W.heap.size, Nat.le_refl _, .inr ⟨_, HP.out, hx2⟩⟩
    · have hme : m = ps.length := by omega
      have HA := hid (show backs ps = (backs ps).take m by rw [hme, ← backs_len, List.take_length])
      have hi : (ps.length : Int) - 1 - m = -1 := by omega
      rw [hi]
      clear hme
      go_wp2_with fail
      go_end0
      exact ⟨⟨_, rfl⟩, W.heap.size, Nat.le_refl _, .inl (by rw [HA.out]; exact hJm)⟩

theorem backward_any (oa : Option Addr) (n cap : Nat) (w : World) :
    Calls Tryz.prog 153 #[.slice oa n cap] w fun e w' => e = .returned (.func (.func 171) #[] #[.pointer (some ⟨w.heap.size, 0, none⟩)]) ∧ w' = w.alloc (.cells #[.slice oa n cap] 204) := by
  have hmf : ∀ (fn : Fn) (first cap : Array Value) (w : World), (Instr.makeFunc fn first cap).run Tryz.prog w = .ok (.func fn first cap) w := fun _ _ _ _ => rfl
  go_enter Tryz.func153, Tryz.ntmps153
  go_wp2
  go_ret
  exact ⟨rfl, rfl⟩

end Go.Proofs.YtbpnllhhmookcaaGreatDoor
