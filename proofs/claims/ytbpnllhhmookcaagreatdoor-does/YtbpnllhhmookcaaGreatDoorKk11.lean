/- Records of tubes as texts: volumeText, readVolume. -/
import Derived.Test.YtbpnllhhmookcaaGreatDoorKk10
import Derived.Deep.Quiet
import Derived.BigQuiet
namespace Go.Proofs.YtbpnllhhmookcaaGreatDoor
open Go.RowKit Go.Shelf

/-- A volume's three bytes. -/
def vol (n : Nat) : List UInt8 := [UInt8.ofNat (n / 65536), UInt8.ofNat (n / 256), UInt8.ofNat n]
def volN (l : List UInt8) (j : Nat) : Nat := (l.getD j 0).toNat * 65536 + (l.getD (j + 1) 0).toNat * 256 + (l.getD (j + 2) 0).toNat
theorem volN_vol {n : Nat} (hn : n < 16777216) : volN (vol n) 0 = n := by
  simp [volN, vol, UInt8.toNat_ofNat']; omega
theorem w64 (x : Int) (h0 : 0 ≤ x) (h1 : x < 2 ^ 62) : wrap64 x = x := by unfold wrap64; omega

theorem or3 (a b c : Nat) (ha : a < 256) (hb : b < 256) (hc : c < 256) :
    bits BinOp.or IntKind.i64 (bits BinOp.or IntKind.i64 (wrap64 (wrap64 (a : Int) * 65536)) (wrap64 (wrap64 (b : Int) * 256))) (wrap64 (c : Int)) = ((a * 65536 + b * 256 + c : Nat) : Int) := by
  rw [w64 (a : Int) (by omega) (by omega), w64 (b : Int) (by omega) (by omega), w64 (c : Int) (by omega) (by omega), w64 _ (by omega) (by omega), w64 _ (by omega) (by omega)]
  rw [bits_join .i64 63 (by decide) wraps63 16 ((a : Int) * 65536) ((b : Int) * 256) (by omega) (by omega) (by omega) (by omega) (by omega) (by omega)]
  rw [bits_join .i64 63 (by decide) wraps63 8 ((a : Int) * 65536 + (b : Int) * 256) (c : Int) (by omega) (by omega) (by omega) (by omega) (by omega) (by omega)]
  omega

theorem conv_new (w : World) (l : List UInt8) (arr : Array Value) (h : arr.toList = byteCells l) :
    (convert 68 9 (.slice (some ⟨w.heap.size, 0, none⟩) l.length l.length)).run Tryz.prog (w.alloc (.cells arr 5)) = .ok (.string ⟨l.toArray⟩) (w.alloc (.cells arr 5)) := by
  refine own_conv (l := l) ?_
  intro j hj
  rw [addr_add]
  have hn : (w.alloc (.cells arr 5)).heap[w.heap.size]? = some (.cells arr 5) := World.alloc_heap_new w _
  simp only [World.cell?, hn]
  have : arr[j]? = (byteCells l)[j]? := by rw [← h]; simp
  simp [this, byteCells, hj]

set_option maxRecDepth 8000 in
theorem volText_any (n : Nat) (hn : n < 16777216) (w : World) :
    Calls Tryz.prog 165 #[.int .i64 n] w fun e w' => e = .returned (.string ⟨(vol n).toArray⟩) ∧ Below w.heap.size w w' := by
  have hn' : (n : Int) < 16777216 := by omega
  have hcv := conv_new w (vol n) #[.int .u8 ((n : Int) / 65536), .int .u8 ((n : Int) / 256 % 256), .int .u8 ((n : Int) % 256)] (by
    simp only [byteCells, vol, List.map, UInt8.toNat_ofNat']
    have e1 : ((n / 65536 % 2 ^ 8 : Nat) : Int) = (n : Int) / 65536 := by omega
    have e2 : ((n / 256 % 2 ^ 8 : Nat) : Int) = (n : Int) / 256 % 256 := by omega
    have e3 : ((n % 2 ^ 8 : Nat) : Int) = (n : Int) % 256 := by omega
    rw [e1, e2, e3])
  have hb : Below w.heap.size w (w.alloc (.cells #[.int .u8 ((n : Int) / 65536), .int .u8 ((n : Int) / 256 % 256), .int .u8 ((n : Int) % 256)] 5)) := (Below.refl _ _).alloc (Nat.le_refl _) _
  have HB := hid hb
  clear hb
  simp only [show (vol n).length = 3 from rfl] at hcv
  generalize (vol n).toArray = v at *
  go_enter Tryz.func165, Tryz.ntmps165
  go_wp2
  go_ret
  exact ⟨rfl, HB.out⟩

set_option maxRecDepth 8000 in
theorem readVol_any (s : ByteArray) (hs : 3 ≤ s.size) (w : World) :
    Calls Tryz.prog 162 #[.string s] w fun e w' => e = .returned (.int .i64 (volN s.data.toList 0 : Nat)) ∧ ∃ n, w' = w.drewN n := by
  have g0 : 0 < s.size := by omega
  have g1 : (1 : Int) < (s.size : Int) := by omega
  have g2 : (2 : Int) < (s.size : Int) := by omega
  go_enter Tryz.func162, Tryz.ntmps162
  go_wp2_with fail
  go_quiet (fail)
  go_wp2
  go_ret
  refine ⟨ret_int ?_, _, rfl⟩
  rw [or3 _ _ _ (byte_lt _) (byte_lt _) (byte_lt _)]
  rw [← getD_bytes s 0 (by omega), ← getD_bytes s 1 (by omega), ← getD_bytes s 2 (by omega)]
  rfl

end Go.Proofs.YtbpnllhhmookcaaGreatDoor

/- A region that draws its order, whose first operations only read, and whose others wait for all of those: the first ones walked once, in the text's order; then the others. -/
namespace Go.Proofs.YtbpnllhhmookcaaGreatDoor
open Go

section
variable {P : Program} {ops : Array Oper} {md : Region.Mode} {C : World → Prop} {n : Nat}

/-- Whatever is listed, what it waits for is. -/
def Shut (md : Region.Mode) (ops : Array Oper) (listed : Array Bool) : Prop := ∀ j o, ops[j]? = some o → listed.getD j false = true → ∀ e ∈ o.after, Region.binds md e = true → listed.getD e.on false = true

theorem shut_step {listed : Array Bool} {i : Nat} (h : Shut md ops listed) (hi : i ∈ Region.ready md ops listed) : Shut md ops (listed.setIfInBounds i true) := by
  intro j o ho hj e he hb
  obtain ⟨_, oi, hoi, hall⟩ := mem_ready.1 hi
  by_cases hij : i = j
  · subst hij
    rw [hoi] at ho; cases ho
    exact getD_set_true (hall e he hb)
  · rw [getD_set_ne false hij] at hj
    exact getD_set_true (h j o ho hj e he hb)

/-- As long as one of the first n is left, only such may come up. -/
def Tails (md : Region.Mode) (ops : Array Oper) (n : Nat) : Prop := ∀ listed, Shut md ops listed → (∃ i, i < n ∧ listed.getD i true = false) → ∀ j ∈ Region.ready md ops listed, j < n

def anyT (P : Program) (md : Region.Mode) (ops : Array Oper) (C : World → Prop) (n : Nat) (Q : Array Bool → Act → Prop) : Nat → Array Bool → Act → Prop
  | 0, listed, a => (∀ j ∈ Region.ready md ops listed, ¬ j < n) ∧ Q listed a
  | fuel + 1, listed, a => Region.ready md ops listed ≠ [] ∧ ∀ i ∈ Region.ready md ops listed, qOp P ops C i (anyT P md ops C n Q fuel (listed.setIfInBounds i true)) a

theorem wpAny_of_T {Q : Array Bool → Act → Prop} {Q' : Exit → Act → World → Prop} {m : Nat} (hQ : ∀ listed a w, C w → Q listed a → wpAny P md ops Q' m listed a w) : ∀ (fuel : Nat) (listed : Array Bool) (a : Act) (w : World), C w →
    anyT P md ops C n Q fuel listed a → wpAny P md ops Q' (m + fuel) listed a w
  | 0, _, _, _, hw, h => hQ _ _ _ hw h.2
  | fuel + 1, _, _, _, hw, h => ⟨fun h0 => absurd h0 h.1, fun i hi => wpOp_of_qOp hw (fun a' w' hw' => wpAny_of_T hQ fuel _ a' w' hw') (h.2 i hi)⟩

theorem anyT_first {Q : Array Bool → Act → Prop} (hT : Tails md ops n) {i : Nat} {oi : Oper} {v : Value} (hin : i < n) (hi : ops[i]? = some oi) (hsel : ∀ (j : Nat) (o : Oper) cs b, ops[j]? = some o → o.op ≠ .select cs b) :
    ∀ (fuel : Nat) (listed : Array Bool) (a : Act), Shut md ops listed →
      (∀ j oj, ops[j]? = some oj → j ≠ i → listed.getD j true = false → (∀ e ∈ oj.after, Region.binds md e = true → e.on ≠ i) → oi.apart ops oj = true) →
      i ∈ Region.ready md ops listed → YieldsIn P ops C oi v a →
      anyT P md ops C n Q fuel (listed.setIfInBounds i true) (a.put oi.dst v) → anyT P md ops C n Q (fuel + 1) listed a := by
  intro fuel
  induction fuel with
  | zero =>
    intro listed a hc _ hr hy H
    refine ⟨fun h => (by rw [h] at hr; cases hr), fun j hj => ?_⟩
    by_cases hji : j = i
    · subst hji; exact hy.qOp hi H
    · exact absurd (hT listed hc ⟨i, hin, (mem_ready.1 hr).1⟩ j hj) (H.1 j (ready_mono hj hji))
  | succ fuel ih =>
    intro listed a hc hfree hr hy H
    refine ⟨fun h => (by rw [h] at hr; cases hr), fun j hj => ?_⟩
    by_cases hji : j = i
    · subst hji; exact hy.qOp hi H
    · have h1 := H.2 j (ready_mono hj hji)
      obtain ⟨hjun, oj, hoj, hall⟩ := mem_ready.1 hj
      have hnot : ∀ e ∈ oj.after, Region.binds md e = true → e.on ≠ i := fun e he hb heq => by
        have h1 := hall e he hb
        have h0 := (mem_ready.1 hr).1
        rw [heq] at h1
        rcases Nat.lt_or_ge i listed.size with h' | h'
        · simp [h'] at h0 h1; rw [h0] at h1; cases h1
        · simp [Array.getElem?_eq_none h'] at h1
      have h2 := qOp_put hoj (hfree j oj hoj hji hjun hnot) (fun cs b => hsel i oi cs b hi) (fun cs b => hsel j oj cs b hoj) hy h1
      refine qOp_mono (fun a' h3 => ih (listed.setIfInBounds j true) a' (shut_step hc hj) (fun k ok hk hki hun hno => ?_) (ready_mono hr (Ne.symm hji)) h3.1 ?_) h2
      · refine hfree k ok hk hki ?_ hno
        by_cases hjk : j = k
        · subst hjk; exact hjun
        · rw [getD_set_ne true hjk] at hun; exact hun
      · rw [Array.setIfInBounds_comm _ _ hji]
        exact h3.2

/-- The text's order, of the first n alone. -/
def lexT (md : Region.Mode) (ops : Array Oper) (n : Nat) : Nat → Nat → Array Bool → Bool
  | 0, _, listed => (Region.ready md ops listed).all fun j => decide (n ≤ j)
  | fuel + 1, k, listed => decide (k < n) && (Region.ready md ops listed).contains k && Region.free md ops listed k && lexT md ops n fuel (k + 1) (listed.setIfInBounds k true)
def lstT : Nat → Nat → Array Bool → Array Bool
  | 0, _, listed => listed
  | fuel + 1, k, listed => lstT fuel (k + 1) (listed.setIfInBounds k true)

theorem anyT_lex {Q : Array Bool → Act → Prop} (hT : Tails md ops n) (hs : Region.noSelect ops = true) : ∀ (l : List Oper) (k : Nat) (listed : Array Bool) (a : Act), Shut md ops listed → (∀ j, j < l.length → l[j]? = ops[k + j]?) →
    lexT md ops n l.length k listed = true → wpQuiet P ops C (Q (lstT l.length k listed)) l a → anyT P md ops C n Q l.length listed a
  | [], _, _, _, _, _, hB, h => ⟨fun j hj => by have := List.all_eq_true.1 hB j hj; simp at this; omega, h⟩
  | o :: l, k, listed, a, hc, hl, hB, h => by
    have h0 : ops[k]? = some o := by simpa using (hl 0 (by simp)).symm
    simp only [List.length_cons, lexT, Bool.and_eq_true, decide_eq_true_eq] at hB
    obtain ⟨⟨⟨hk, hr⟩, hf⟩, hB'⟩ := hB
    have hst : qOp P ops C k (wpQuiet P ops C (Q (lstT (o :: l).length k listed)) l) a := by unfold qOp; simp only [h0]; exact h
    obtain ⟨v, hy, hK⟩ := yieldsIn_of_qOp h0 hst
    have hrr : k ∈ Region.ready md ops listed := by simpa using hr
    exact anyT_first hT hk h0 (Region.noSelect_spec hs) l.length listed a hc (Region.free_spec h0 hf) hrr hy
      (anyT_lex hT hs l (k + 1) _ _ (shut_step hc hrr) (fun j hj => by have := hl (j + 1) (by simpa using hj); simpa [Nat.add_assoc, Nat.add_comm 1 j] using this) hB' hK)

/-! What waits for all. -/
def predsT (md : Region.Mode) (ops : Array Oper) (j : Nat) : List Nat := match ops[j]? with
  | some o => (o.after.toList.filter (fun e => Region.binds md e)).map (·.on)
  | none => []
def stepT (md : Region.Mode) (ops : Array Oper) (S : Array Bool) (k : Nat) : Array Bool := if S.getD k false then (predsT md ops k).foldl (fun S p => S.setIfInBounds p true) S else S
def coverT (md : Region.Mode) (ops : Array Oper) (n j : Nat) : Bool :=
  let S := ((List.range ops.size).reverse).foldl (stepT md ops) ((predsT md ops j).foldl (fun S p => S.setIfInBounds p true) (Array.replicate ops.size false))
  (List.range n).all fun i => S.getD i false
def tailsB (md : Region.Mode) (ops : Array Oper) (n : Nat) : Bool := (List.range ops.size).all fun j => decide (j < n) || coverT md ops n j

theorem set_sub {listed S : Array Bool} (h : ∀ p, S.getD p false = true → listed.getD p false = true) : ∀ (l : List Nat), (∀ p ∈ l, listed.getD p false = true) → ∀ (S : Array Bool), (∀ p, S.getD p false = true → listed.getD p false = true) → ∀ p, (l.foldl (fun S p => S.setIfInBounds p true) S).getD p false = true → listed.getD p false = true
  | [], _, _, hS => hS
  | q :: l, hl, S, hS => set_sub h l (fun p hp => hl p (by simp [hp])) _ (fun p hp => by
      by_cases hq : q = p
      · subst hq; exact hl q (by simp)
      · rw [getD_set_ne false hq] at hp; exact hS p hp)

theorem tails_of (hB : tailsB md ops n = true) : Tails md ops n := by
  intro listed hc ⟨i, hi, hun⟩ j hj
  by_cases hjn : j < n
  · exact hjn
  · exfalso
    obtain ⟨_, o, ho, hall⟩ := mem_ready.1 hj
    have hjs : j < ops.size := (Array.getElem?_eq_some_iff.1 ho).1
    have hcov := List.all_eq_true.1 hB j (by simpa using hjs)
    have hcv : coverT md ops n j = true := by simpa [hjn] using hcov
    have hci := List.all_eq_true.1 hcv i (List.mem_range.2 hi)
    have preds : ∀ k, listed.getD k false = true → ∀ p ∈ predsT md ops k, listed.getD p false = true := by
      intro k hk p hp
      unfold predsT at hp
      split at hp
      · rename_i ok hok
        obtain ⟨e, he, rfl⟩ := List.mem_map.1 hp
        obtain ⟨he1, he2⟩ := List.mem_filter.1 he
        exact hc k ok hok hk e (by simpa using he1) (by simpa using he2)
      · simp at hp
    have predsj : ∀ p ∈ predsT md ops j, listed.getD p false = true := by
      intro p hp
      unfold predsT at hp
      rw [ho] at hp
      obtain ⟨e, he, rfl⟩ := List.mem_map.1 hp
      obtain ⟨he1, he2⟩ := List.mem_filter.1 he
      exact hall e (by simpa using he1) (by simpa using he2)
    have base : ∀ p, (Array.replicate ops.size false).getD p false = true → listed.getD p false = true := by
      intro p hp; exfalso; simp [Array.getElem?_replicate] at hp; split at hp <;> simp at hp
    have s0 := set_sub (S := Array.replicate ops.size false) base _ predsj _ base
    have steps : ∀ (l : List Nat) (S : Array Bool), (∀ p, S.getD p false = true → listed.getD p false = true) → ∀ p, (l.foldl (stepT md ops) S).getD p false = true → listed.getD p false = true := by
      intro l
      induction l with
      | nil => intro S hS; exact hS
      | cons k l ih =>
        intro S hS
        refine ih _ ?_
        unfold stepT
        split
        · rename_i hk; exact set_sub hS _ (preds k (hS k hk)) _ hS
        · exact hS
    have hl := steps _ _ s0 i hci
    rcases Nat.lt_or_ge i listed.size with h' | h'
    · simp [h'] at hl hun; rw [hl] at hun; cases hun
    · simp [Array.getElem?_eq_none h'] at hl

/-- The region, by its first operations' walk in the text's order and what is asked behind it of the others. -/
theorem wp_region_tail {id : Nat} {Q : Exit → Act → World → Prop} {a : Act} {w : World} {pre tl : List Oper} (hm : P.follows .mixedOrders = true) (hs : Region.noSelect (pre ++ tl).toArray = true) (hT : tailsB .any (pre ++ tl).toArray pre.length = true)
    (hB : lexT .any (pre ++ tl).toArray pre.length pre.length 0 (Array.replicate (pre ++ tl).length false) = true)
    (h : wpQuiet P (pre ++ tl).toArray (fun w' => ∃ n, w' = w.drewN n) (fun a' => ∀ w', (∃ n, w' = w.drewN n) → wpAny P .any (pre ++ tl).toArray Q tl.length (lstT pre.length 0 (Array.replicate (pre ++ tl).length false)) a' w') pre a) :
    (Code.region id (pre ++ tl).toArray true).wp P Q a w := by
  refine wp_region_any hm ?_
  have h1 := anyT_lex (P := P) (md := .any) (C := fun w' => ∃ n, w' = w.drewN n) (n := pre.length) (ops := (pre ++ tl).toArray) (Q := fun listed a' => ∀ w', (∃ n, w' = w.drewN n) → wpAny P .any (pre ++ tl).toArray Q tl.length listed a' w') (tails_of hT) hs pre 0 (Array.replicate (pre ++ tl).length false) a
    (by intro j o _ hj; exfalso; simp [Array.getElem?_replicate] at hj; split at hj <;> simp at hj)
    (fun j hj => by simp [List.getElem?_append, hj]) hB h
  have h2 := wpAny_of_T (Q' := Q) (m := tl.length) (fun listed a w hw hq => hq w hw) pre.length _ a { w with drawn := w.drawn + 1 } ⟨1, rfl⟩ h1
  have e : tl.length + pre.length = (pre ++ tl).toArray.size := by simp; omega
  rw [e] at h2
  simpa using h2

/-- The same, the first k of a list that is written out. -/
theorem wp_region_tail_lit (k : Nat) {id : Nat} {Q : Exit → Act → World → Prop} {a : Act} {w : World} {l : List Oper} (hm : P.follows .mixedOrders = true) (hk : k ≤ l.length) (hs : Region.noSelect l.toArray = true) (hT : tailsB .any l.toArray k = true)
    (hB : lexT .any l.toArray k k 0 (Array.replicate l.length false) = true)
    (h : wpQuiet P l.toArray (fun w' => ∃ n, w' = w.drewN n) (fun a' => ∀ w', (∃ n, w' = w.drewN n) → wpAny P .any l.toArray Q (l.length - k) (lstT k 0 (Array.replicate l.length false)) a' w') (l.take k) a) :
    (Code.region id l.toArray true).wp P Q a w := by
  have e : l.take k ++ l.drop k = l := List.take_append_drop k l
  have e1 : (l.take k).length = k := by rw [List.length_take]; omega
  have e2 : (l.drop k).length = l.length - k := by rw [List.length_drop]
  have := wp_region_tail (P := P) (id := id) (Q := Q) (a := a) (w := w) (pre := l.take k) (tl := l.drop k) hm (by rw [e]; exact hs) (by rw [e, e1]; exact hT) (by rw [e, e1]; exact hB) (by rw [e, e1, e2]; exact h)
  rwa [e] at this

theorem wpQuiet_mono {Q Q' : Act → Prop} (h : ∀ a, Q a → Q' a) : ∀ (l : List Oper) (a : Act), wpQuiet P ops C Q l a → wpQuiet P ops C Q' l a
  | [], a, hq => h a hq
  | o :: l, a, hq => by
    unfold wpQuiet at *
    split
    · rename_i hw; simp only [hw, if_true] at hq; exact Oper.quiet_mono (fun a' h' => wpQuiet_mono h l a' h') hq
    · rename_i hw; simp only [hw] at hq; exact wpQuiet_mono h l _ hq

/-- The others one behind the other. -/
def chainT (md : Region.Mode) (ops : Array Oper) : Nat → Nat → Array Bool → Bool
  | 0, _, listed => (Region.ready md ops listed).isEmpty
  | fuel + 1, k, listed => (Region.ready md ops listed == [k]) && chainT md ops fuel (k + 1) (listed.setIfInBounds k true)

theorem any_of_list {Q : Exit → Act → World → Prop} : ∀ (tl : List Oper) (k : Nat) (listed : Array Bool) (a : Act) (w : World), chainT md ops tl.length k listed = true → (∀ j, j < tl.length → tl[j]? = ops[k + j]?) → wpList P ops Q tl a w → wpAny P md ops Q tl.length listed a w
  | [], _, _, _, _, hB, _, h => ⟨by simpa [chainT] using hB, h⟩
  | o :: tl, k, listed, a, w, hB, hl, h => by
    simp only [List.length_cons, chainT, Bool.and_eq_true, beq_iff_eq] at hB
    have h0 : ops[k]? = some o := by simpa using (hl 0 (by simp)).symm
    refine wpAny_all hB.1 (by simp) ?_
    intro i hi
    rw [List.mem_singleton] at hi
    subst hi
    have next : ∀ a w, wpList P ops Q tl a w → wpAny P md ops Q tl.length (listed.setIfInBounds i true) a w := fun a w h =>
      any_of_list tl (i + 1) _ a w hB.2 (fun j hj => by have := hl (j + 1) (by simpa using hj); simpa [Nat.add_assoc, Nat.add_comm 1 j] using this) h
    unfold wpOp
    simp only [h0]
    unfold wpList at h
    split
    · rename_i hw; simp only [hw, if_true] at h; exact h.imp (Oper.wp_mono next) id
    · rename_i hw; simp only [hw] at h; exact next _ _ h

/-- The region whose first k operations only read and whose others come one behind the other, behind those. -/
theorem wp_region_then (k : Nat) {id : Nat} {Q : Exit → Act → World → Prop} {a : Act} {w : World} {l : List Oper} (hm : P.follows .mixedOrders = true) (hk : k ≤ l.length) (hs : Region.noSelect l.toArray = true) (hT : tailsB .any l.toArray k = true)
    (hB : lexT .any l.toArray k k 0 (Array.replicate l.length false) = true) (hC : chainT .any l.toArray (l.length - k) k (lstT k 0 (Array.replicate l.length false)) = true)
    (h : wpQuiet P l.toArray (fun w' => ∃ n, w' = w.drewN n) (fun a' => ∀ w', (∃ n, w' = w.drewN n) → wpList P l.toArray Q (l.drop k) a' w') (l.take k) a) :
    (Code.region id l.toArray true).wp P Q a w := by
  refine wp_region_tail_lit k hm hk hs hT hB (wpQuiet_mono (fun a' h' w' hw' => ?_) _ _ h)
  have e2 : (l.drop k).length = l.length - k := by rw [List.length_drop]
  have := any_of_list (md := .any) (ops := l.toArray) (Q := Q) (l.drop k) k (lstT k 0 (Array.replicate l.length false)) a' w' (by rw [e2]; exact hC) (fun j hj => by simp) (h' w' hw')
  rwa [e2] at this

end
end Go.Proofs.YtbpnllhhmookcaaGreatDoor
