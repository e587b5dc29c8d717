/- What holds of every ledger; what a command that is not refused may count on. -/
import Derived.Test.YtbpnllhhmookcaaGreatDoorKk29
namespace Go.Proofs.YtbpnllhhmookcaaGreatDoor
open Go.RowKit Go.Shelf

/-! Errors. -/
theorem askI_range {r e : Int} {h : Bool} (hr : 0 ≤ r ∧ r ≤ 10) (he : 0 < e ∧ e ≤ 10) : 0 ≤ askI r e h ∧ askI r e h ≤ 10 := by unfold askI; split <;> omega
theorem askAll_range : ∀ (l : Asks) (r : Int), 0 ≤ r ∧ r ≤ 10 → (∀ p ∈ l, 0 < p.1 ∧ p.1 ≤ 10) → 0 ≤ askAll r l ∧ askAll r l ≤ 10
  | [], _, hr, _ => hr
  | p :: l, _, hr, h => askAll_range l _ (askI_range hr (h p (List.mem_cons_self ..))) (fun q hq => h q (List.mem_cons_of_mem _ hq))
theorem askI_pos {r e : Int} {h : Bool} (hr : 0 < r) (he : 0 < e) : 0 < askI r e h := by unfold askI; split <;> omega
theorem askAll_pos : ∀ (l : Asks) (r : Int), 0 < r → (∀ p ∈ l, 0 < p.1) → 0 < askAll r l
  | [], _, hr, _ => hr
  | p :: l, _, hr, h => askAll_pos l _ (askI_pos hr (h p (List.mem_cons_self ..))) (fun q hq => h q (List.mem_cons_of_mem _ hq))
theorem askAll_zero : ∀ (l : Asks), (∀ p ∈ l, 0 < p.1) → askAll 0 l = 0 → ∀ p ∈ l, p.2 = false
  | [], _, _, _, hp => by cases hp
  | q :: l, h, e, p, hp => by
    have hq := h q (List.mem_cons_self ..)
    have hl : ∀ p ∈ l, 0 < p.1 := fun p hp => h p (List.mem_cons_of_mem _ hp)
    cases hb : q.2 with
    | true =>
      have : askAll 0 (q :: l) = askAll (askI 0 q.1 q.2) l := rfl
      rw [this, hb] at e
      have h1 : askI 0 q.1 true = q.1 := by simp [askI]
      rw [h1] at e
      have := askAll_pos l q.1 hq hl
      omega
    | false =>
      have : askAll 0 (q :: l) = askAll (askI 0 q.1 q.2) l := rfl
      rw [this, hb] at e
      have h1 : askI 0 q.1 false = 0 := by simp [askI]
      rw [h1] at e
      rcases List.mem_cons.1 hp with rfl | hp
      · exact hb
      · exact askAll_zero l hl e p hp
theorem askAll_none : ∀ (l : Asks), (∀ p ∈ l, p.2 = false) → ∀ r, askAll r l = r
  | [], _, _ => rfl
  | q :: l, h, r => by
    have : askAll r (q :: l) = askAll (askI r q.1 q.2) l := rfl
    rw [this, h q (List.mem_cons_self ..)]
    have h1 : askI r q.1 false = r := by simp [askI]
    rw [h1]; exact askAll_none l (fun p hp => h p (List.mem_cons_of_mem _ hp)) r

namespace Led
variable {L : Led} {m : Cm}

theorem asks_pos (L : Led) (m : Cm) : ∀ p ∈ L.asksT m ++ L.asksO m ++ L.asksD m ++ L.asksB m, 0 < p.1 ∧ p.1 ≤ 10 := by
  intro p hp
  simp only [List.mem_append] at hp
  rcases hp with ((hp | hp) | hp) | hp
  · unfold asksT at hp
    split at hp
    · simp at hp; rcases hp with rfl | rfl | rfl | rfl <;> simp
    split at hp
    · simp at hp; rcases hp with rfl | rfl <;> simp
    split at hp
    · simp at hp; rcases hp with rfl <;> simp
    split at hp
    · simp at hp; rcases hp with rfl | rfl | rfl <;> simp
    split at hp
    · simp at hp; rcases hp with rfl | rfl <;> simp
    split at hp
    · simp at hp; rcases hp with rfl <;> simp
    · simp at hp
  · unfold asksO at hp
    split at hp
    · simp at hp; rcases hp with rfl <;> simp
    split at hp
    · simp at hp; rcases hp with rfl | rfl | rfl | rfl <;> simp
    · simp at hp
  · unfold asksD at hp
    split at hp
    · simp at hp; rcases hp with rfl <;> simp
    · simp at hp
  · unfold asksB at hp
    split at hp
    · simp at hp; rcases hp with rfl | rfl <;> simp
    split at hp
    · simp at hp; rcases hp with rfl <;> simp
    split at hp
    · simp at hp; rcases hp with rfl <;> simp
    · simp at hp

theorem err_range (L : Led) (m : Cm) : 0 ≤ L.err m ∧ L.err m ≤ 10 := askAll_range _ 0 (by omega) (asks_pos L m)
theorem err_zero (h : L.err m = 0) : (∀ p ∈ L.asksT m, p.2 = false) ∧ (∀ p ∈ L.asksO m, p.2 = false) ∧ (∀ p ∈ L.asksD m, p.2 = false) ∧ (∀ p ∈ L.asksB m, p.2 = false) := by
  have h1 := askAll_zero _ (fun p hp => (asks_pos L m p hp).1) h
  exact ⟨fun p hp => h1 p (by simp [hp]), fun p hp => h1 p (by simp [hp]), fun p hp => h1 p (by simp [hp]), fun p hp => h1 p (by simp [hp])⟩

/-- What holds of every ledger. -/
structure Inv (L : Led) : Prop where
  ok : L.Ok
  box : ∀ t ∈ L.ts, (t.2.box ≠ 0 ↔ t.2.status = 1)
  nil : ∀ t ∈ L.ts, t.2.box = 0 → t.2.x = 0 ∧ t.2.y = 0
  place : ∀ t ∈ L.ts, t.2.box ≠ 0 → t.2.x < L.sideN t.2.box ∧ t.2.y < L.sideN t.2.box
  apart : ∀ t ∈ L.ts, ∀ u ∈ L.ts, t.2.box ≠ 0 → t.2.box = u.2.box → t.2.x = u.2.x → t.2.y = u.2.y → t.1 = u.1
  wired : ∀ p ∈ L.ps, (L.tube p.1).isSome = true ∧ (L.tube p.2.1).isSome = true
  lost : ∀ t ∈ L.ts, t.2.status ≠ 3 → t.2.lost = 0

theorem none_pour (h : L.Inv) {a b : Nat} (hb : L.tube b = none) : L.pour a b = none := by
  cases e : L.pour a b with
  | none => rfl
  | some v =>
    have := (h.wired _ ((pour_mem h.ok).1 e)).2
    simp only [hb] at this; cases this

theorem tube_of {n : Nat} (h : (L.tube n).isSome = true) : ∃ q, L.tube n = some q ∧ L.tubeD n = q := by
  obtain ⟨q, hq⟩ := Option.isSome_iff_exists.1 h
  exact ⟨q, hq, by unfold tubeD; rw [hq]; rfl⟩

/-! What the answers of the questions say, kind by kind. -/
theorem no4 (h : L.err m = 0) (hk : m.k = 4) : m.t < m.o ∧ m.v ≤ (L.tubeD m.t).left ∧ (L.tubeD m.t).status = 1 ∧ (L.tube m.t).isSome = true ∧ (L.tube m.o).isSome = false := by
  obtain ⟨h1, h2, _, _⟩ := err_zero h
  unfold asksT at h1; rw [if_pos (by omega)] at h1
  unfold asksO at h2; rw [if_pos hk] at h2
  have a := h1 _ (.head _)
  have b := h1 _ (.tail _ (.head _))
  have c := h1 _ (.tail _ (.tail _ (.head _)))
  have d := h1 _ (.tail _ (.tail _ (.tail _ (.head _))))
  have e := h2 _ (.head _)
  simp only [decide_eq_false_iff_not, bne_eq_false_iff_eq, Bool.not_eq_eq_eq_not, Bool.not_false] at a b c d e
  exact ⟨by omega, by omega, by omega, d, e⟩
theorem no5 (h : L.err m = 0) (hk : m.k = 5) : m.t < m.o ∧ m.v ≤ (L.tubeD m.t).left ∧ (L.tubeD m.t).status = 1 ∧ (L.tube m.t).isSome = true ∧ (L.tube m.o).isSome = true ∧ (L.tubeD m.o).left + m.v ≤ 1000000 ∧ L.pouredN m.t m.o + m.v ≤ 1000000 ∧ (L.tubeD m.o).status = 1 := by
  obtain ⟨h1, h2, _, _⟩ := err_zero h
  unfold asksT at h1; rw [if_pos (by omega)] at h1
  unfold asksO at h2; rw [if_neg (by omega), if_pos hk] at h2
  have a := h1 _ (.head _)
  have b := h1 _ (.tail _ (.head _))
  have c := h1 _ (.tail _ (.tail _ (.head _)))
  have d := h1 _ (.tail _ (.tail _ (.tail _ (.head _))))
  have e := h2 _ (.head _)
  have f := h2 _ (.tail _ (.head _))
  have g := h2 _ (.tail _ (.tail _ (.head _)))
  have i := h2 _ (.tail _ (.tail _ (.tail _ (.head _))))
  simp only [decide_eq_false_iff_not, bne_eq_false_iff_eq, Bool.not_eq_eq_eq_not, Bool.not_false] at a b c d e f g i
  exact ⟨by omega, by omega, by omega, d, i, by omega, by omega, by omega⟩
theorem no6 (h : L.err m = 0) (hk : m.k = 6) : m.v ≤ (L.tubeD m.t).left ∧ (L.tubeD m.t).used + m.v ≤ 1000000 ∧ (L.tubeD m.t).status ≠ 3 ∧ (L.tube m.t).isSome = true := by
  obtain ⟨h1, _, _, _⟩ := err_zero h
  unfold asksT at h1; rw [if_neg (by omega), if_neg (by omega), if_neg (by omega), if_pos hk] at h1
  have b := h1 _ (.head _)
  have c := h1 _ (.tail _ (.head _))
  have d := h1 _ (.tail _ (.tail _ (.head _)))
  simp only [Bool.or_eq_false_iff, decide_eq_false_iff_not, beq_eq_false_iff_ne, Bool.not_eq_eq_eq_not, Bool.not_false] at b c d
  exact ⟨by omega, by omega, by omega, d⟩
theorem no37 (h : L.err m = 0) (hk : m.k = 3 ∨ m.k = 7) : (L.tubeD m.t).status = 1 ∧ (L.tube m.t).isSome = true := by
  obtain ⟨h1, _, _, _⟩ := err_zero h
  unfold asksT at h1; rw [if_neg (by omega), if_pos hk] at h1
  have c := h1 _ (.head _)
  have d := h1 _ (.tail _ (.head _))
  simp only [bne_eq_false_iff_eq, Bool.not_eq_eq_eq_not, Bool.not_false] at c d
  exact ⟨by omega, d⟩
theorem no8 (h : L.err m = 0) (hk : m.k = 8) : (L.tubeD m.t).status = 2 ∧ (L.tube m.t).isSome = true := by
  obtain ⟨h1, _, _, _⟩ := err_zero h
  unfold asksT at h1; rw [if_neg (by omega), if_neg (by omega), if_neg (by omega), if_neg (by omega), if_pos hk] at h1
  have c := h1 _ (.head _)
  have d := h1 _ (.tail _ (.head _))
  simp only [bne_eq_false_iff_eq, Bool.not_eq_eq_eq_not, Bool.not_false] at c d
  exact ⟨by omega, d⟩
theorem no2 (h : L.err m = 0) (hk : m.k = 2) : (L.tube m.t).isSome = false := by
  obtain ⟨h1, _, _, _⟩ := err_zero h
  unfold asksT at h1; rw [if_neg (by omega), if_neg (by omega), if_neg (by omega), if_neg (by omega), if_neg (by omega), if_pos hk] at h1
  exact h1 _ (.head _)
theorem noShow (h : L.err m = 0) (hk : m.k = 12 ∨ m.k = 15 ∨ m.k = 16) : (L.tube m.t).isSome = true := by
  obtain ⟨h1, _, _, _⟩ := err_zero h
  unfold asksT at h1; rw [if_neg (by omega), if_neg (by omega), if_pos hk] at h1
  have d := h1 _ (.head _)
  simpa using d
theorem noB (h : L.err m = 0) (hk : m.k = 2 ∨ m.k = 3 ∨ m.k = 4 ∨ m.k = 8) : m.x < L.sideN m.b ∧ m.y < L.sideN m.b ∧ (L.occ m = 0 ∨ (m.k = 3 ∧ L.occ m = m.t)) := by
  obtain ⟨_, _, _, h1⟩ := err_zero h
  unfold asksB at h1; rw [if_pos hk] at h1
  have a := h1 _ (.head _)
  simp only [Bool.or_eq_false_iff, Bool.not_eq_eq_eq_not, Bool.not_false, Bool.and_eq_true, decide_eq_true_eq, Bool.and_eq_false_iff, bne_eq_false_iff_eq, beq_iff_eq] at a
  obtain ⟨⟨a1, a2⟩, a3⟩ := a
  refine ⟨by omega, by omega, ?_⟩
  rcases a3 with a3 | a3
  · exact .inl (by omega)
  · exact .inr (by omega)

theorem can_of (hI : L.Inv) (hm : m.Ok) (h : L.err m = 0) : L.Can m := by
  refine ⟨fun hk => ?_, fun hk => ?_, fun hk => ?_, fun hk => ?_, fun hk t ht => ?_⟩
  · have : (L.tube m.t).isSome = true := by
      rcases hk with hk | hk | hk
      · exact (no37 h (.inl hk)).2
      · exact (no37 h (.inr hk)).2
      · exact (no8 h hk).2
    obtain ⟨q, hq, _⟩ := tube_of this
    exact ⟨q, hq⟩
  · obtain ⟨h1, h2, h3, h4, h5⟩ := no4 h hk
    obtain ⟨q, hq, hD⟩ := tube_of h4
    refine ⟨h1, q, hq, by rw [← hD]; exact h2, ?_⟩
    have hn : L.tube m.o = none := by simpa using h5
    unfold pouredN; rw [none_pour hI hn]; have := hm.v; simp only [Option.getD_none]; omega
  · obtain ⟨h1, h2, h3, h4, h5, h6, h7, h8⟩ := no5 h hk
    obtain ⟨q, hq, hD⟩ := tube_of h4
    obtain ⟨q2, hq2, hD2⟩ := tube_of h5
    exact ⟨h1, q, q2, hq, hq2, by rw [← hD]; exact h2, by rw [← hD2]; exact h6, h7⟩
  · obtain ⟨h1, h2, h3, h4⟩ := no6 h hk
    obtain ⟨q, hq, hD⟩ := tube_of h4
    exact ⟨q, hq, by rw [← hD]; exact h1, by rw [← hD]; exact h2⟩
  · obtain ⟨h1, h2⟩ := List.mem_filter.1 ht
    have hb : t.2.box = m.b := by simp only [inBox, decide_eq_true_eq] at h2; omega
    have hm1 := hm.b1 (by omega)
    have := hI.place t h1 (by omega)
    rw [hb] at this; exact this

end Led
end Go.Proofs.YtbpnllhhmookcaaGreatDoor

/- What holds of every ledger is kept by what is put into it. -/
namespace Go.Proofs.YtbpnllhhmookcaaGreatDoor
open Go.RowKit Go.Shelf

/-- Two rising lists that have the same are the same. -/
theorem eq_of_pw {α : Type} {key : α → Nat} : ∀ {l k : List α}, l.Pairwise (fun a b => key a < key b) → k.Pairwise (fun a b => key a < key b) → (∀ x, x ∈ l ↔ x ∈ k) → l = k
  | [], [], _, _, _ => rfl
  | [], b :: k, _, _, h => by have := (h b).2 (List.mem_cons_self ..); cases this
  | a :: l, [], _, _, h => by have := (h a).1 (List.mem_cons_self ..); cases this
  | a :: l, b :: k, hl, hk, h => by
    obtain ⟨hl1, hl2⟩ := List.pairwise_cons.1 hl
    obtain ⟨hk1, hk2⟩ := List.pairwise_cons.1 hk
    have hab : a = b := by
      rcases List.mem_cons.1 ((h a).1 (List.mem_cons_self ..)) with e | ha
      · exact e
      · rcases List.mem_cons.1 ((h b).2 (List.mem_cons_self ..)) with e | hb
        · exact e.symm
        · have := hk1 a ha; have := hl1 b hb; omega
    subst hab
    congr 1
    refine eq_of_pw hl2 hk2 fun x => ?_
    constructor
    · intro hx
      rcases List.mem_cons.1 ((h x).1 (List.mem_cons_of_mem _ hx)) with e | hx'
      · have := hl1 x hx; rw [e] at this; omega
      · exact hx'
    · intro hx
      rcases List.mem_cons.1 ((h x).2 (List.mem_cons_of_mem _ hx)) with e | hx'
      · have := hk1 x hx; rw [e] at this; omega
      · exact hx'

namespace Led
variable {L : Led}

theorem mem_putT {n : Nat} {q : PT} {x : TN} : x ∈ (L.putT n q).ts ↔ x = (n, q) ∨ (x ∈ L.ts ∧ x.1 ≠ n) := mem_insT

theorem mem_chg (f : PT → PT) : ∀ (pre : List TN) (L : Led), pre.Pairwise (fun a b : TN => a.1 < b.1) → ∀ x, x ∈ (L.chg f pre).ts ↔ (∃ t ∈ pre, x = (t.1, f t.2)) ∨ (x ∈ L.ts ∧ ∀ t ∈ pre, t.1 ≠ x.1)
  | [], L, _, x => by simp [chg]
  | a :: pre, L, h, x => by
    obtain ⟨h1, h2⟩ := List.pairwise_cons.1 h
    rw [chg_cons, mem_chg f pre _ h2 x, mem_putT]
    constructor
    · rintro (⟨t, ht, rfl⟩ | ⟨rfl | ⟨hx, hne⟩, hn⟩)
      · exact .inl ⟨t, List.mem_cons_of_mem _ ht, rfl⟩
      · exact .inl ⟨a, List.mem_cons_self .., rfl⟩
      · refine .inr ⟨hx, fun t ht => ?_⟩
        rcases List.mem_cons.1 ht with rfl | ht
        · exact fun e => hne e.symm
        · exact hn t ht
    · rintro (⟨t, ht, rfl⟩ | ⟨hx, hn⟩)
      · rcases List.mem_cons.1 ht with rfl | ht
        · exact .inr ⟨.inl rfl, fun u hu => by have := h1 u hu; simp only; omega⟩
        · exact .inl ⟨t, ht, rfl⟩
      · exact .inr ⟨.inr ⟨hx, fun e => hn a (List.mem_cons_self ..) e.symm⟩, fun t ht => hn t (List.mem_cons_of_mem _ ht)⟩

theorem chg_bs (f : PT → PT) : ∀ (pre : List TN) (L : Led), (L.chg f pre).bs = L.bs ∧ (L.chg f pre).ps = L.ps
  | [], _ => ⟨rfl, rfl⟩
  | a :: pre, L => by rw [chg_cons]; exact chg_bs f pre (L.putT a.1 (f a.2))

/-- Some tubes changed, all at once. -/
def mapT (L : Led) (p : TN → Bool) (f : PT → PT) : Led := { L with ts := L.ts.map fun t => if p t then (t.1, f t.2) else t }

theorem mapT_num (p : TN → Bool) (f : PT → PT) (t : TN) : (if p t then (t.1, f t.2) else t).1 = t.1 := by split <;> rfl

theorem chg_map (h : L.Ok) (p : TN → Bool) (f : PT → PT) (hg : ∀ t ∈ L.ts, p t = true → (f t.2).Good) : L.chg f (L.ts.filter p) = L.mapT p f := by
  have hS := Sel.filter h p
  have hok := chg_ok f (L.ts.filter p) L h (fun t ht => ⟨(h.t1 t (hS.mem t ht)).1, (h.t1 t (hS.mem t ht)).2.1, hg t (hS.mem t ht) (List.mem_filter.1 ht).2⟩)
  have hb := chg_bs f (L.ts.filter p) L
  have hts : (L.chg f (L.ts.filter p)).ts = L.ts.map fun t => if p t then (t.1, f t.2) else t := by
    refine eq_of_pw (key := fun t : TN => t.1) hok.ts ?_ (fun x => ?_)
    · refine List.pairwise_map.2 (h.ts.imp fun {a b} hab => ?_)
      rw [mapT_num, mapT_num]; exact hab
    · rw [mem_chg f _ L hS.pw x]
      constructor
      · rintro (⟨t, ht, rfl⟩ | ⟨hx, hn⟩)
        · obtain ⟨ht1, ht2⟩ := List.mem_filter.1 ht
          exact List.mem_map.2 ⟨t, ht1, by rw [if_pos ht2]⟩
        · refine List.mem_map.2 ⟨x, hx, ?_⟩
          rw [if_neg (fun hp => hn x (List.mem_filter.2 ⟨hx, hp⟩) rfl)]
      · intro hx
        obtain ⟨t, ht, rfl⟩ := List.mem_map.1 hx
        by_cases hp : p t = true
        · rw [if_pos hp]; exact .inl ⟨t, List.mem_filter.2 ⟨ht, hp⟩, rfl⟩
        · rw [if_neg hp]
          refine .inr ⟨ht, fun u hu e => hp ?_⟩
          obtain ⟨hu1, hu2⟩ := List.mem_filter.1 hu
          rw [← pw_uniq (f := Prod.fst) (fun a b (hab : a.1 < b.1) e => by omega) h.ts u hu1 t ht e]; exact hu2
  unfold mapT
  rw [← hts, ← hb.1, ← hb.2]

theorem mapT_tube (p : TN → Bool) (f : PT → PT) (n : Nat) : ((L.mapT p f).tube n).isSome = (L.tube n).isSome := by
  have key : ∀ l : List TN, ((l.map fun t => if p t then (t.1, f t.2) else t).filter fun t => decide (t.1 = n)).head?.isSome = (l.filter fun t => decide (t.1 = n)).head?.isSome := by
    intro l
    induction l with
    | nil => rfl
    | cons a l ih =>
      simp only [List.map_cons, List.filter_cons, mapT_num]
      split
      · rfl
      · exact ih
  have := key L.ts
  unfold tube mapT
  simpa using this

theorem inv_map (hI : L.Inv) (p : TN → Bool) (f : PT → PT) (hg : ∀ t ∈ L.ts, p t = true → (f t.2).Good)
    (hbox : ∀ t ∈ L.ts, p t = true → ((f t.2).box ≠ 0 ↔ (f t.2).status = 1)) (hnil : ∀ t ∈ L.ts, p t = true → (f t.2).box = 0 → (f t.2).x = 0 ∧ (f t.2).y = 0)
    (hpl : ∀ t ∈ L.ts, p t = true → (f t.2).box ≠ 0 → (f t.2).x < L.sideN (f t.2).box ∧ (f t.2).y < L.sideN (f t.2).box)
    (hap : ∀ t ∈ L.ts, ∀ u ∈ L.ts, p t = true → (f t.2).box ≠ 0 → (p u = true → (f t.2).box = (f u.2).box → (f t.2).x = (f u.2).x → (f t.2).y = (f u.2).y → t.1 = u.1) ∧ (p u = false → (f t.2).box = u.2.box → (f t.2).x = u.2.x → (f t.2).y = u.2.y → t.1 = u.1))
    (hlost : ∀ t ∈ L.ts, p t = true → (f t.2).status ≠ 3 → (f t.2).lost = 0) : (L.mapT p f).Inv := by
  have hmem : ∀ x ∈ (L.mapT p f).ts, ∃ t ∈ L.ts, (p t = true ∧ x = (t.1, f t.2)) ∨ (p t = false ∧ x = t) := fun x hx => by
    obtain ⟨t, ht, rfl⟩ := List.mem_map.1 hx
    refine ⟨t, ht, ?_⟩
    cases hp : p t with
    | true => exact .inl ⟨rfl, by simp⟩
    | false => exact .inr ⟨rfl, by simp⟩
  have hside : ∀ n, (L.mapT p f).sideN n = L.sideN n := fun n => rfl
  refine ⟨?_, fun x hx => ?_, fun x hx => ?_, fun x hx => ?_, fun x hx y hy => ?_, fun q hq => ?_, fun x hx => ?_⟩
  · rw [← chg_map hI.ok p f hg]
    exact chg_ok f _ L hI.ok (fun t ht => ⟨(hI.ok.t1 t (List.mem_filter.1 ht).1).1, (hI.ok.t1 t (List.mem_filter.1 ht).1).2.1, hg t (List.mem_filter.1 ht).1 (List.mem_filter.1 ht).2⟩)
  · obtain ⟨t, ht, ⟨hp, rfl⟩ | ⟨hp, rfl⟩⟩ := hmem x hx
    · exact hbox t ht hp
    · exact hI.box _ ht
  · obtain ⟨t, ht, ⟨hp, rfl⟩ | ⟨hp, rfl⟩⟩ := hmem x hx
    · exact hnil t ht hp
    · exact hI.nil _ ht
  · obtain ⟨t, ht, ⟨hp, rfl⟩ | ⟨hp, rfl⟩⟩ := hmem x hx
    · exact hpl t ht hp
    · exact hI.place _ ht
  · obtain ⟨t, ht, ⟨hp, rfl⟩ | ⟨hp, rfl⟩⟩ := hmem x hx <;> obtain ⟨u, hu, ⟨hq, rfl⟩ | ⟨hq, rfl⟩⟩ := hmem y hy
    · intro h1 h2 h3 h4; exact (hap t ht u hu hp h1).1 hq h2 h3 h4
    · intro h1 h2 h3 h4; exact (hap t ht _ hu hp h1).2 hq h2 h3 h4
    · intro h1 h2 h3 h4
      simp only at h1 h2 h3 h4 ⊢
      have h1' : (f u.2).box ≠ 0 := by rw [← h2]; exact h1
      exact ((hap u hu _ ht hq h1').2 hp h2.symm h3.symm h4.symm).symm
    · exact hI.apart _ ht _ hu
  · have := hI.wired q hq
    rw [mapT_tube p f, mapT_tube p f]; exact this
  · obtain ⟨t, ht, ⟨hp, rfl⟩ | ⟨hp, rfl⟩⟩ := hmem x hx
    · exact hlost t ht hp
    · exact hI.lost _ ht

theorem inv_putT (hI : L.Inv) {n : Nat} {q : PT} (hn : 1 ≤ n ∧ n ≤ 999) (hq : q.Good) (hbox : q.box ≠ 0 ↔ q.status = 1) (hnil : q.box = 0 → q.x = 0 ∧ q.y = 0) (hpl : q.box ≠ 0 → q.x < L.sideN q.box ∧ q.y < L.sideN q.box)
    (hap : q.box ≠ 0 → ∀ u ∈ L.ts, u.1 ≠ n → q.box = u.2.box → q.x = u.2.x → q.y = u.2.y → False) (hlost : q.status ≠ 3 → q.lost = 0) : (L.putT n q).Inv := by
  have hside : ∀ n', (L.putT n q).sideN n' = L.sideN n' := fun _ => rfl
  refine ⟨hI.ok.insT hn hq, fun x hx => ?_, fun x hx => ?_, fun x hx => ?_, fun x hx y hy => ?_, fun p hp => ?_, fun x hx => ?_⟩
  · rcases mem_putT.1 hx with rfl | ⟨hx, _⟩
    · exact hbox
    · exact hI.box x hx
  · rcases mem_putT.1 hx with rfl | ⟨hx, _⟩
    · exact hnil
    · exact hI.nil x hx
  · rcases mem_putT.1 hx with rfl | ⟨hx, _⟩
    · exact hpl
    · exact hI.place x hx
  · rcases mem_putT.1 hx with rfl | ⟨hx, hxn⟩ <;> rcases mem_putT.1 hy with rfl | ⟨hy, hyn⟩
    · intros; rfl
    · intro h1 h2 h3 h4; exact (hap h1 y hy hyn h2 h3 h4).elim
    · intro h1 h2 h3 h4
      simp only at h2 h3 h4
      exact (hap (by rw [← h2]; exact h1) x hx hxn h2.symm h3.symm h4.symm).elim
    · exact hI.apart x hx y hy
  · have := hI.wired p hp
    rw [putT_tube, putT_tube]
    exact ⟨by split <;> first | rfl | exact this.1, by split <;> first | rfl | exact this.2⟩
  · rcases mem_putT.1 hx with rfl | ⟨hx, _⟩
    · exact hlost
    · exact hI.lost x hx

/-- A tube's record is changed, but not where it is. -/
theorem inv_same (hI : L.Inv) {n : Nat} {q q' : PT} (ht : L.tube n = some q) (hq : q'.Good) (h1 : q'.box = q.box) (h2 : q'.x = q.x) (h3 : q'.y = q.y) (h4 : q'.status = q.status) (h5 : q'.lost = q.lost) : (L.putT n q').Inv := by
  have hm := (tube_mem hI.ok).1 ht
  have hn := hI.ok.t1 _ hm
  refine inv_putT hI ⟨hn.1, hn.2.1⟩ hq ?_ ?_ ?_ (fun hb u hu hne e1 e2 e3 => ?_) ?_
  · rw [h1, h4]; exact hI.box _ hm
  · rw [h1, h2, h3]; exact hI.nil _ hm
  · rw [h1, h2, h3]; exact hI.place _ hm
  · rw [h1] at e1 hb; rw [h2] at e2; rw [h3] at e3
    exact hne (hI.apart _ hm u hu hb e1 e2 e3).symm
  · rw [h4, h5]; exact hI.lost _ hm

theorem inv_insP (hI : L.Inv) {a b v : Nat} (ha : 1 ≤ a ∧ a < b ∧ b ≤ 999) (hv : 1 ≤ v ∧ v ≤ 1000000) (h1 : (L.tube a).isSome = true) (h2 : (L.tube b).isSome = true) : ({ L with ps := insP L.ps a b v } : Led).Inv :=
  ⟨hI.ok.insP ha hv, hI.box, hI.nil, hI.place, hI.apart, fun p hp => by
    rcases mem_insP.1 hp with rfl | ⟨hp, _⟩
    · exact ⟨h1, h2⟩
    · exact hI.wired p hp, hI.lost⟩

theorem inv_insB (hI : L.Inv) {n s : Nat} (hn : 1 ≤ n ∧ n ≤ 9) (hs : 1 ≤ s ∧ s ≤ 5) (h0 : L.sideN n = 0) : ({ L with bs := insB L.bs n s } : Led).Inv := by
  refine ⟨hI.ok.insB hn hs, hI.box, hI.nil, fun t ht hb => ?_, hI.apart, hI.wired, hI.lost⟩
  have h1 := hI.place t ht hb
  have hne : t.2.box ≠ n := by rintro e; rw [e, h0] at h1; omega
  have : ({ L with bs := insB L.bs n s } : Led).sideN t.2.box = L.sideN t.2.box := by unfold sideN; rw [box_insB, if_neg hne]
  rw [this]; exact h1

end Led
end Go.Proofs.YtbpnllhhmookcaaGreatDoor
