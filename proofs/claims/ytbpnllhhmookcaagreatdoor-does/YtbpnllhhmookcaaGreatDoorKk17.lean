/- The ledger as lists: boxes, tubes, what was poured; and the entries of the tree that they are. -/
import Derived.Test.YtbpnllhhmookcaaGreatDoorKk16
import Derived.Test.YtbpnllhhmookcaaGreatDoorKk13
namespace Go.Proofs.YtbpnllhhmookcaaGreatDoor
open Go.RowKit Go.Shelf

abbrev BN := Nat × Nat
def kvB (b : BN) : KV := (boxK b.1, ⟨#[UInt8.ofNat b.2]⟩)

structure Led where
  bs : List BN
  ts : List TN
  ps : List PN

def Led.kvs (L : Led) : List KV := L.bs.map kvB ++ L.ts.map kvT ++ L.ps.map kvP

/-- The numbers of a record are such as the document lets be. -/
structure PT.Good (r : PT) : Prop where
  x : r.x < 5
  y : r.y < 5
  box : r.box ≤ 9
  donor : 1 ≤ r.donor ∧ r.donor ≤ 99
  status : 1 ≤ r.status ∧ r.status ≤ 3
  thaws : r.thaws ≤ 9
  began : r.began ≤ 1000000
  left : r.left ≤ 1000000
  used : r.used ≤ 1000000
  lost : r.lost ≤ 1000000

theorem PT.Good.ok {r : PT} (h : r.Good) : r.Ok := by
  obtain ⟨h1, h2, h3, h4, h5, h6, h7, h8, h9, h10⟩ := h
  exact ⟨h1, h2, by omega, by omega, by omega, by omega, by omega, by omega, by omega, by omega⟩

structure Led.Ok (L : Led) : Prop where
  bs : L.bs.Pairwise fun a b => a.1 < b.1
  ts : L.ts.Pairwise fun a b => a.1 < b.1
  ps : L.ps.Pairwise fun a b => a.1 < b.1 ∨ (a.1 = b.1 ∧ a.2.1 < b.2.1)
  b1 : ∀ b ∈ L.bs, 1 ≤ b.1 ∧ b.1 ≤ 9 ∧ 1 ≤ b.2 ∧ b.2 ≤ 5
  t1 : ∀ t ∈ L.ts, 1 ≤ t.1 ∧ t.1 ≤ 999 ∧ t.2.Good
  p1 : ∀ p ∈ L.ps, 1 ≤ p.1 ∧ p.1 < p.2.1 ∧ p.2.1 ≤ 999 ∧ 1 ≤ p.2.2 ∧ p.2.2 ≤ 1000000

def insB (l : List BN) (n s : Nat) : List BN := l.filter (fun x => decide (x.1 < n)) ++ (n, s) :: l.filter (fun x => decide (n < x.1))
def insT (l : List TN) (n : Nat) (q : PT) : List TN := l.filter (fun x => decide (x.1 < n)) ++ (n, q) :: l.filter (fun x => decide (n < x.1))
def insP (l : List PN) (a b v : Nat) : List PN := l.filter (fun x => decide (x.1 < a ∨ (x.1 = a ∧ x.2.1 < b))) ++ (a, b, v) :: l.filter (fun x => decide (a < x.1 ∨ (a = x.1 ∧ b < x.2.1)))

theorem filt_all {α : Type} {p : α → Bool} {l : List α} (h : ∀ x ∈ l, p x = true) : l.filter p = l := List.filter_eq_self.2 h
theorem filt_no {α : Type} {p : α → Bool} {l : List α} (h : ∀ x ∈ l, p x = false) : l.filter p = [] := List.filter_eq_nil_iff.2 fun x hx => by simp [h x hx]
theorem filt_same {α : Type} {p q : α → Bool} {l : List α} (h : ∀ x ∈ l, p x = q x) : l.filter p = l.filter q := List.filter_congr h

namespace Led
variable {L : Led}

theorem filt (L : Led) (p : KV → Bool) : L.kvs.filter p = (L.bs.filter (fun b => p (kvB b))).map kvB ++ (L.ts.filter (fun t => p (kvT t))).map kvT ++ (L.ps.filter (fun q => p (kvP q))).map kvP := by
  simp only [Led.kvs, List.filter_append, List.filter_map]
  rfl

theorem sel_ts (h : L.Ok) : sel (tubeK 1) (tubeK 999) L.kvs = L.ts.map kvT := by
  unfold sel
  rw [filt, filt_no (l := L.bs) (fun b hb => ?_), filt_all (l := L.ts) (fun t ht => ?_), filt_no (l := L.ps) (fun p hp => ?_)]
  · simp
  · have := h.p1 p hp
    refine decide_eq_false ?_; simp only [kvP, pourK, tubeK]; omega
  · have := h.t1 t ht
    refine decide_eq_true ?_; simp only [kvT, tubeK]; omega
  · have := h.b1 b hb
    refine decide_eq_false ?_; simp only [kvB, boxK, tubeK]; omega

theorem sel_ps (h : L.Ok) : sel (pourK 1 1) (pourK 999 999) L.kvs = L.ps.map kvP := by
  unfold sel
  rw [filt, filt_no (l := L.bs) (fun b hb => ?_), filt_no (l := L.ts) (fun t ht => ?_), filt_all (l := L.ps) (fun p hp => ?_)]
  · simp
  · have := h.p1 p hp
    refine decide_eq_true ?_; simp only [kvP, pourK]; omega
  · have := h.t1 t ht
    refine decide_eq_false ?_; simp only [kvT, tubeK, pourK]; omega
  · have := h.b1 b hb
    refine decide_eq_false ?_; simp only [kvB, boxK, pourK]; omega

theorem rise (h : L.Ok) : RiseK L.kvs := by
  unfold RiseK Led.kvs
  refine List.pairwise_append.2 ⟨List.pairwise_append.2 ⟨List.pairwise_map.2 (h.bs.imp ?_), List.pairwise_map.2 (h.ts.imp ?_), ?_⟩, List.pairwise_map.2 ?_, ?_⟩
  · intro a b hab; simp only [kvB, boxK]; omega
  · intro a b hab; simp only [kvT, tubeK]; omega
  · intro a ha b hb
    obtain ⟨x, hx, rfl⟩ := List.mem_map.1 ha
    obtain ⟨y, hy, rfl⟩ := List.mem_map.1 hb
    have := h.b1 x hx; have := h.t1 y hy
    simp only [kvB, kvT, boxK, tubeK]; omega
  · refine h.ps.imp_of_mem (fun {a b} ha hb hab => ?_)
    have := h.p1 a ha; have := h.p1 b hb
    simp only [kvP, pourK]; omega
  · intro a ha b hb
    obtain ⟨y, hy, rfl⟩ := List.mem_map.1 hb
    have := h.p1 y hy
    rcases List.mem_append.1 ha with ha | ha
    · obtain ⟨x, hx, rfl⟩ := List.mem_map.1 ha
      have := h.b1 x hx
      simp only [kvB, kvP, boxK, pourK]; omega
    · obtain ⟨x, hx, rfl⟩ := List.mem_map.1 ha
      have := h.t1 x hx
      simp only [kvT, kvP, tubeK, pourK]; omega

theorem len (L : Led) : L.kvs.length = L.bs.length + L.ts.length + L.ps.length := by simp only [Led.kvs, List.length_append, List.length_map]

/-! What is got. -/
def box (L : Led) (n : Nat) : Option Nat := ((L.bs.filter fun b => decide (b.1 = n)).head?).map Prod.snd
def tube (L : Led) (n : Nat) : Option PT := ((L.ts.filter fun t => decide (t.1 = n)).head?).map Prod.snd
def pour (L : Led) (a b : Nat) : Option Nat := ((L.ps.filter fun p => decide (p.1 = a ∧ p.2.1 = b)).head?).map fun p => p.2.2

theorem get_box (h : L.Ok) {n : Nat} (hn : n < 1024) : getK L.kvs (boxK n) = (L.box n).map fun s => ⟨#[UInt8.ofNat s]⟩ := by
  unfold getK sel
  rw [filt, filt_same (l := L.bs) (q := fun b => decide (b.1 = n)) (fun b hb => ?_), filt_no (l := L.ts) (fun t ht => ?_), filt_no (l := L.ps) (fun p hp => ?_)]
  · simp only [List.map_nil, List.append_nil, List.head?_map, Led.box, Option.map_map]; rfl
  · have := h.p1 p hp
    refine decide_eq_false ?_; simp only [kvP, pourK, boxK]; omega
  · have := h.t1 t ht
    refine decide_eq_false ?_; simp only [kvT, boxK, tubeK]; omega
  · refine decide_eq_decide.2 ?_; simp only [kvB, boxK]; omega

theorem get_tube (h : L.Ok) {n : Nat} (hn : n < 1024) : getK L.kvs (tubeK n) = (L.tube n).map fun q => ⟨q.text.toArray⟩ := by
  unfold getK sel
  rw [filt, filt_no (l := L.bs) (fun b hb => ?_), filt_same (l := L.ts) (q := fun t => decide (t.1 = n)) (fun t ht => ?_), filt_no (l := L.ps) (fun p hp => ?_)]
  · simp only [List.map_nil, List.append_nil, List.nil_append, List.head?_map, Led.tube, Option.map_map]; rfl
  · have := h.p1 p hp
    refine decide_eq_false ?_; simp only [kvP, pourK, tubeK]; omega
  · refine decide_eq_decide.2 ?_; simp only [kvT, tubeK]; omega
  · have := h.b1 b hb
    refine decide_eq_false ?_; simp only [kvB, boxK, tubeK]; omega

theorem get_pour (h : L.Ok) {a b : Nat} (ha : a < 1024) (hb : b < 1024) : getK L.kvs (pourK a b) = (L.pour a b).map fun v => ⟨(vol v).toArray⟩ := by
  unfold getK sel
  rw [filt, filt_no (l := L.bs) (fun b hb => ?_), filt_no (l := L.ts) (fun t ht => ?_), filt_same (l := L.ps) (q := fun p => decide (p.1 = a ∧ p.2.1 = b)) (fun p hp => ?_)]
  · simp only [List.map_nil, List.append_nil, List.nil_append, List.head?_map, Led.pour, Option.map_map]; rfl
  · have := h.p1 p hp
    refine decide_eq_decide.2 ?_; simp only [kvP, pourK]; omega
  · have := h.t1 t ht
    refine decide_eq_false ?_; simp only [kvT, tubeK, pourK]; omega
  · have := h.b1 b hb
    refine decide_eq_false ?_; simp only [kvB, boxK, pourK]; omega

/-! What is put. -/
theorem ins_box (h : L.Ok) (n s : Nat) (hn : n ≤ 999) : insK L.kvs (boxK n) ⟨#[UInt8.ofNat s]⟩ = ({ L with bs := insB L.bs n s } : Led).kvs := by
  unfold insK
  rw [filt, filt, filt_same (l := L.bs) (q := fun x => decide (x.1 < n)) (fun b hb => ?_), filt_no (l := L.ts) (p := fun t => decide ((kvT t).1 < boxK n)) (fun t ht => ?_), filt_no (l := L.ps) (p := fun t => decide ((kvP t).1 < boxK n)) (fun p hp => ?_),
    filt_same (l := L.bs) (p := fun x => decide (boxK n < (kvB x).1)) (q := fun x => decide (n < x.1)) (fun b hb => ?_), filt_all (l := L.ts) (fun t ht => ?_), filt_all (l := L.ps) (fun p hp => ?_)]
  · simp [Led.kvs, insB, kvB]
  · have := h.p1 p hp
    refine decide_eq_true ?_; simp only [kvP, pourK, boxK]; omega
  · have := h.t1 t ht
    refine decide_eq_true ?_; simp only [kvT, boxK, tubeK]; omega
  · refine decide_eq_decide.2 ?_; simp only [kvB, boxK]; omega
  · have := h.p1 p hp
    refine decide_eq_false ?_; simp only [kvP, pourK, boxK]; omega
  · have := h.t1 t ht
    refine decide_eq_false ?_; simp only [kvT, boxK, tubeK]; omega
  · refine decide_eq_decide.2 ?_; simp only [kvB, boxK]; omega

theorem ins_tube (h : L.Ok) (n : Nat) (q : PT) (hn : n ≤ 999) : insK L.kvs (tubeK n) ⟨q.text.toArray⟩ = ({ L with ts := insT L.ts n q } : Led).kvs := by
  unfold insK
  rw [filt, filt, filt_all (l := L.bs) (fun b hb => ?_), filt_same (l := L.ts) (q := fun x => decide (x.1 < n)) (fun t ht => ?_), filt_no (l := L.ps) (p := fun t => decide ((kvP t).1 < tubeK n)) (fun p hp => ?_),
    filt_no (l := L.bs) (fun b hb => ?_), filt_same (l := L.ts) (p := fun x => decide (tubeK n < (kvT x).1)) (q := fun x => decide (n < x.1)) (fun t ht => ?_), filt_all (l := L.ps) (fun p hp => ?_)]
  · simp [Led.kvs, insT, kvT]
  · have := h.p1 p hp
    refine decide_eq_true ?_; simp only [kvP, pourK, tubeK]; omega
  · refine decide_eq_decide.2 ?_; simp only [kvT, tubeK]; omega
  · have := h.b1 b hb
    refine decide_eq_false ?_; simp only [kvB, boxK, tubeK]; omega
  · have := h.p1 p hp
    refine decide_eq_false ?_; simp only [kvP, pourK, tubeK]; omega
  · refine decide_eq_decide.2 ?_; simp only [kvT, tubeK]; omega
  · have := h.b1 b hb
    refine decide_eq_true ?_; simp only [kvB, boxK, tubeK]; omega

theorem ins_pour (h : L.Ok) (a b v : Nat) (ha : a ≤ 999) (hb : b ≤ 999) : insK L.kvs (pourK a b) ⟨(vol v).toArray⟩ = ({ L with ps := insP L.ps a b v } : Led).kvs := by
  unfold insK
  rw [filt, filt, filt_all (l := L.bs) (fun b hb => ?_), filt_all (l := L.ts) (fun t ht => ?_), filt_same (l := L.ps) (q := fun x => decide (x.1 < a ∨ (x.1 = a ∧ x.2.1 < b))) (fun p hp => ?_),
    filt_no (l := L.bs) (fun b hb => ?_), filt_no (l := L.ts) (fun t ht => ?_), filt_same (l := L.ps) (p := fun x => decide (pourK a b < (kvP x).1)) (q := fun x => decide (a < x.1 ∨ (a = x.1 ∧ b < x.2.1))) (fun p hp => ?_)]
  · simp [Led.kvs, insP, kvP]
  · have := h.p1 p hp
    refine decide_eq_decide.2 ?_; simp only [kvP, pourK]; omega
  · have := h.t1 t ht
    refine decide_eq_false ?_; simp only [kvT, tubeK, pourK]; omega
  · have := h.b1 b hb
    refine decide_eq_false ?_; simp only [kvB, boxK, pourK]; omega
  · have := h.p1 p hp
    refine decide_eq_decide.2 ?_; simp only [kvP, pourK]; omega
  · have := h.t1 t ht
    refine decide_eq_true ?_; simp only [kvT, tubeK, pourK]; omega
  · have := h.b1 b hb
    refine decide_eq_true ?_; simp only [kvB, boxK, pourK]; omega

end Led
end Go.Proofs.YtbpnllhhmookcaaGreatDoor

/- What is put into the ledger's lists keeps them in order; what is got behind it. -/
namespace Go.Proofs.YtbpnllhhmookcaaGreatDoor
open Go.RowKit Go.Shelf

theorem ins_pw {α : Type} {r : α → α → Prop} {l : List α} {x : α} {p q : α → Bool} (hl : l.Pairwise r) (hp : ∀ y ∈ l, p y = true → r y x) (hq : ∀ y ∈ l, q y = true → r x y) (ht : ∀ a ∈ l, ∀ b ∈ l, p a = true → q b = true → r a b) : (l.filter p ++ x :: l.filter q).Pairwise r := by
  refine List.pairwise_append.2 ⟨hl.filter _, List.pairwise_cons.2 ⟨fun y hy => ?_, hl.filter _⟩, fun a ha b hb => ?_⟩
  · have := List.mem_filter.1 hy; exact hq y this.1 this.2
  · have h1 := List.mem_filter.1 ha
    rcases List.mem_cons.1 hb with rfl | hb
    · exact hp a h1.1 h1.2
    · have h2 := List.mem_filter.1 hb; exact ht a h1.1 b h2.1 h1.2 h2.2

theorem mem_insB {l : List BN} {n s : Nat} {x : BN} : x ∈ insB l n s ↔ x = (n, s) ∨ (x ∈ l ∧ x.1 ≠ n) := by
  simp only [insB, List.mem_append, List.mem_filter, List.mem_cons, decide_eq_true_eq]
  constructor
  · rintro (⟨h, h1⟩ | h | ⟨h, h1⟩)
    · exact .inr ⟨h, by omega⟩
    · exact .inl h
    · exact .inr ⟨h, by omega⟩
  · rintro (h | ⟨h, h1⟩)
    · exact .inr (.inl h)
    · rcases Nat.lt_or_gt_of_ne h1 with h2 | h2
      · exact .inl ⟨h, h2⟩
      · exact .inr (.inr ⟨h, h2⟩)
theorem mem_insT {l : List TN} {n : Nat} {q : PT} {x : TN} : x ∈ insT l n q ↔ x = (n, q) ∨ (x ∈ l ∧ x.1 ≠ n) := by
  simp only [insT, List.mem_append, List.mem_filter, List.mem_cons, decide_eq_true_eq]
  constructor
  · rintro (⟨h, h1⟩ | h | ⟨h, h1⟩)
    · exact .inr ⟨h, by omega⟩
    · exact .inl h
    · exact .inr ⟨h, by omega⟩
  · rintro (h | ⟨h, h1⟩)
    · exact .inr (.inl h)
    · rcases Nat.lt_or_gt_of_ne h1 with h2 | h2
      · exact .inl ⟨h, h2⟩
      · exact .inr (.inr ⟨h, h2⟩)
theorem mem_insP {l : List PN} {a b v : Nat} {x : PN} : x ∈ insP l a b v ↔ x = (a, b, v) ∨ (x ∈ l ∧ ¬ (x.1 = a ∧ x.2.1 = b)) := by
  simp only [insP, List.mem_append, List.mem_filter, List.mem_cons, decide_eq_true_eq]
  constructor
  · rintro (⟨h, h1⟩ | h | ⟨h, h1⟩)
    · exact .inr ⟨h, by omega⟩
    · exact .inl h
    · exact .inr ⟨h, by omega⟩
  · rintro (h | ⟨h, h1⟩)
    · exact .inr (.inl h)
    · by_cases h2 : x.1 < a ∨ (x.1 = a ∧ x.2.1 < b)
      · exact .inl ⟨h, h2⟩
      · exact .inr (.inr ⟨h, by omega⟩)

namespace Led
variable {L : Led}

theorem Ok.insB (h : L.Ok) {n s : Nat} (hn : 1 ≤ n ∧ n ≤ 9) (hs : 1 ≤ s ∧ s ≤ 5) : ({ L with bs := insB L.bs n s } : Led).Ok :=
  ⟨ins_pw h.bs (fun y _ hy => by simpa using hy) (fun y _ hy => by simpa using hy) (fun a _ b _ ha hb => by simp only [decide_eq_true_eq] at ha hb; omega), h.ts, h.ps,
    fun b hb => by rcases mem_insB.1 hb with rfl | ⟨hb, _⟩; exact ⟨hn.1, hn.2, hs⟩; exact h.b1 b hb, h.t1, h.p1⟩
theorem Ok.insT (h : L.Ok) {n : Nat} {q : PT} (hn : 1 ≤ n ∧ n ≤ 999) (hq : q.Good) : ({ L with ts := insT L.ts n q } : Led).Ok :=
  ⟨h.bs, ins_pw h.ts (fun y _ hy => by simpa using hy) (fun y _ hy => by simpa using hy) (fun a _ b _ ha hb => by simp only [decide_eq_true_eq] at ha hb; omega), h.ps,
    h.b1, fun b hb => by rcases mem_insT.1 hb with rfl | ⟨hb, _⟩; exact ⟨hn.1, hn.2, hq⟩; exact h.t1 b hb, h.p1⟩
theorem Ok.insP (h : L.Ok) {a b v : Nat} (ha : 1 ≤ a ∧ a < b ∧ b ≤ 999) (hv : 1 ≤ v ∧ v ≤ 1000000) : ({ L with ps := insP L.ps a b v } : Led).Ok :=
  ⟨h.bs, h.ts, ins_pw h.ps (fun y _ hy => by simpa using hy) (fun y _ hy => by simpa using hy) (fun a _ b _ ha hb => by simp only [decide_eq_true_eq] at ha hb; omega),
    h.b1, h.t1, fun x hx => by rcases mem_insP.1 hx with rfl | ⟨hx, _⟩; exact ⟨ha.1, ha.2.1, ha.2.2, hv⟩; exact h.p1 x hx⟩

/-! One list, found by its numbers. -/
theorem head_filter_of {α : Type} {p : α → Bool} {l : List α} {x : α} (hx : x ∈ l) (hp : p x = true) (hu : ∀ y ∈ l, p y = true → y = x) : (l.filter p).head? = some x := by
  have hm : x ∈ l.filter p := List.mem_filter.2 ⟨hx, hp⟩
  cases hf : l.filter p with
  | nil => rw [hf] at hm; cases hm
  | cons y ys =>
    have : y ∈ l.filter p := by rw [hf]; simp
    have := List.mem_filter.1 this
    rw [hu y this.1 this.2]; rfl
theorem head_filter_none {α : Type} {p : α → Bool} {l : List α} (h : ∀ x ∈ l, p x = false) : (l.filter p).head? = none := by rw [filt_no h]; rfl
theorem head_filter_mem {α : Type} {p : α → Bool} {l : List α} {x : α} (h : (l.filter p).head? = some x) : x ∈ l ∧ p x = true := List.mem_filter.1 (List.mem_of_mem_head? h)

theorem pw_uniq {α β : Type} {r : α → α → Prop} {f : α → β} (hr : ∀ a b, r a b → f a ≠ f b) : ∀ {l : List α}, l.Pairwise r → ∀ x ∈ l, ∀ y ∈ l, f x = f y → x = y
  | [], _, _, hx, _, _, _ => by cases hx
  | a :: l, h, x, hx, y, hy, e => by
    obtain ⟨h1, h2⟩ := List.pairwise_cons.1 h
    rcases List.mem_cons.1 hx with ex | hx'
    · rcases List.mem_cons.1 hy with ey | hy'
      · rw [ex, ey]
      · rw [ex] at e; exact absurd e (hr _ _ (h1 y hy'))
    · rcases List.mem_cons.1 hy with ey | hy'
      · rw [ey] at e; exact absurd e.symm (hr _ _ (h1 x hx'))
      · exact pw_uniq hr h2 x hx' y hy' e

theorem box_mem (h : L.Ok) {n s : Nat} : L.box n = some s ↔ (n, s) ∈ L.bs := by
  constructor
  · intro e
    obtain ⟨x, hx, rfl⟩ := Option.map_eq_some_iff.1 e
    obtain ⟨h1, h2⟩ := head_filter_mem hx
    simp only [decide_eq_true_eq] at h2; subst h2; exact h1
  · intro e
    unfold Led.box
    rw [head_filter_of e (by simp) (fun y hy hp => pw_uniq (f := Prod.fst) (fun a b (hab : a.1 < b.1) e => by omega) h.bs y hy _ e (by simpa using hp))]; rfl
theorem tube_mem (h : L.Ok) {n : Nat} {q : PT} : L.tube n = some q ↔ (n, q) ∈ L.ts := by
  constructor
  · intro e
    obtain ⟨x, hx, rfl⟩ := Option.map_eq_some_iff.1 e
    obtain ⟨h1, h2⟩ := head_filter_mem hx
    simp only [decide_eq_true_eq] at h2; subst h2; exact h1
  · intro e
    unfold Led.tube
    rw [head_filter_of e (by simp) (fun y hy hp => pw_uniq (f := Prod.fst) (fun a b (hab : a.1 < b.1) e => by omega) h.ts y hy _ e (by simpa using hp))]; rfl
theorem pour_mem (h : L.Ok) {a b v : Nat} : L.pour a b = some v ↔ (a, b, v) ∈ L.ps := by
  constructor
  · intro e
    obtain ⟨x, hx, rfl⟩ := Option.map_eq_some_iff.1 e
    obtain ⟨h1, h2⟩ := head_filter_mem hx
    simp only [decide_eq_true_eq] at h2
    obtain ⟨rfl, rfl⟩ := h2; exact h1
  · intro e
    unfold Led.pour
    rw [head_filter_of e (by simp) (fun y hy hp => pw_uniq (f := fun p : PN => (p.1, p.2.1)) (fun a b hab e => by have e1 := congrArg Prod.fst e; have e2 := congrArg Prod.snd e; simp only at e1 e2; omega) h.ps y hy _ e (by simpa using hp))]; rfl

theorem head_ins {α β : Type} (key : α → Nat) (val : α → β) (l : List α) (x : α) (m : Nat) :
    (((l.filter (fun a => decide (key a < key x)) ++ x :: l.filter (fun a => decide (key x < key a))).filter fun a => decide (key a = m)).head?).map val = if m = key x then some (val x) else ((l.filter fun a => decide (key a = m)).head?).map val := by
  by_cases e : m = key x
  · subst e
    rw [if_pos rfl, List.filter_append, List.filter_filter, filt_no (l := l) (p := fun a => decide (key a = key x) && decide (key a < key x)) (fun y _ => by
      by_cases h : key y = key x
      · rw [decide_eq_false (p := key y < key x) (by omega), Bool.and_false]
      · rw [decide_eq_false h, Bool.false_and]), List.nil_append, List.filter_cons, if_pos (by simp)]
    rfl
  · rw [if_neg e, List.filter_append, List.filter_cons, if_neg (by simp only [decide_eq_true_eq]; omega), List.filter_filter, List.filter_filter]
    rcases Nat.lt_or_gt_of_ne e with h | h
    · rw [filt_no (l := l) (p := fun a => decide (key a = m) && decide (key x < key a)) (fun y _ => by
        by_cases h2 : key y = m
        · rw [decide_eq_false (p := key x < key y) (by omega), Bool.and_false]
        · rw [decide_eq_false h2, Bool.false_and]), List.append_nil, filt_same (l := l) (q := fun a => decide (key a = m)) (fun y _ => by
        by_cases h2 : key y = m
        · rw [decide_eq_true (p := key y < key x) (by omega), Bool.and_true]
        · rw [decide_eq_false h2, Bool.false_and])]
    · rw [filt_no (l := l) (p := fun a => decide (key a = m) && decide (key a < key x)) (fun y _ => by
        by_cases h2 : key y = m
        · rw [decide_eq_false (p := key y < key x) (by omega), Bool.and_false]
        · rw [decide_eq_false h2, Bool.false_and]), List.nil_append, filt_same (l := l) (q := fun a => decide (key a = m)) (fun y _ => by
        by_cases h2 : key y = m
        · rw [decide_eq_true (p := key x < key y) (by omega), Bool.and_true]
        · rw [decide_eq_false h2, Bool.false_and])]
theorem box_insB (L : Led) (n s m : Nat) : ({ L with bs := Go.Proofs.YtbpnllhhmookcaaGreatDoor.insB L.bs n s } : Led).box m = if m = n then some s else L.box m := head_ins (fun b : BN => b.1) Prod.snd L.bs (n, s) m
theorem tube_insT (L : Led) (n m : Nat) (q : PT) : ({ L with ts := Go.Proofs.YtbpnllhhmookcaaGreatDoor.insT L.ts n q } : Led).tube m = if m = n then some q else L.tube m := head_ins (fun b : TN => b.1) Prod.snd L.ts (n, q) m

end Led
end Go.Proofs.YtbpnllhhmookcaaGreatDoor

/- What a transaction writes: setSide. -/
namespace Go.Proofs.YtbpnllhhmookcaaGreatDoor
open Go.RowKit Go.Shelf

set_option maxRecDepth 8000 in
set_option maxHeartbeats 2000000 in
theorem setSide_any (n₀ b n s : Nat) (l : List KV) (hs : s < 256) (w : World) (hT : TxAt n₀ w b l) (hn : n < 1024) (hL : l.length < 8000) :
    Calls Tryz.prog 100 #[.pointer (some ⟨b, 0, none⟩), .int .i64 n, .int .i64 s] w (PutEnds b 157 (insK l (boxK n) ⟨#[UInt8.ofNat s]⟩) w) := by
  have hcv := conv_new w.drew [UInt8.ofNat s] #[.int .u8 s] (by simp only [byteCells, List.map]; rw [ofNat_lt hs])
  have hwr : IntKind.u8.wrap (s : Int) = s := by simp only [IntKind.wrap, IntKind.bits, IntKind.signed]; simp; omega
  have hcv' : (convert 68 9 (.slice (some ⟨w.heap.size, 0, none⟩) 1 1)).run Tryz.prog (w.alloc (.cells #[.int .u8 (IntKind.u8.wrap s)] 5)).drew = .ok (.string ⟨#[UInt8.ofNat s]⟩) (w.alloc (.cells #[.int .u8 (IntKind.u8.wrap s)] 5)).drew := by rw [hwr]; exact hcv
  have hkey := boxKey_any n hn
  have hs' : (s : Int) < 256 := by omega
  have hB2 : Below w.heap.size w (w.alloc (.cells #[.int .u8 (IntKind.u8.wrap s)] 5)).drew := ((Below.refl _ _).alloc (Nat.le_refl _) _).drew
  have HPut := hid (treePut_any n₀ b 157 l (boxK n) ⟨#[UInt8.ofNat s]⟩ _ (hT.below hB2) hL)
  have HB2 := hid hB2
  clear hcv hT hB2 hwr hs'
  generalize (⟨#[UInt8.ofNat s]⟩ : ByteArray) = tx at *
  go_enter Tryz.func100, Tryz.ntmps100
  go_wp2_with fail
  go_region_with (first
    | (go_at_call 128; refine (hkey _).mono ?_; clear hkey; rintro e w' ⟨rfl, rfl⟩)
    | (go_at_call 127; refine HPut.out.mono ?_; clear HPut; intro e w3 hP; have he := hP.1; subst he))
  all_goals go_wp2_with fail
  all_goals go_end0
  all_goals exact hP.from HB2.out

end Go.Proofs.YtbpnllhhmookcaaGreatDoor
