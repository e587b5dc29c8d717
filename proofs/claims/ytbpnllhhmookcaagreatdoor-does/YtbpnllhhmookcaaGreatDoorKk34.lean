/- What holds of every ledger is kept by every command. -/
import Derived.Test.YtbpnllhhmookcaaGreatDoorKk33
import Derived.Test.YtbpnllhhmookcaaGreatDoorKk32
import Derived.Test.YtbpnllhhmookcaaGreatDoorKk02
import Derived.Test.YtbpnllhhmookcaaGreatDoorKk01
import Derived.RangeFuncRecord
namespace Go.Proofs.YtbpnllhhmookcaaGreatDoor
open Go.RowKit Go.Shelf

theorem turnXY_inj {s : Nat} : ∀ (k : Nat) {p p' : Nat × Nat}, p.1 < s → p.2 < s → p'.1 < s → p'.2 < s → turnXY s k p = turnXY s k p' → p = p'
  | 0, _, _, _, _, _, _, h => h
  | k + 1, p, p', h1, h2, h3, h4, h => by
    have a := turnXY_lt h1 h2 k
    have b := turnXY_lt h3 h4 k
    simp only [turnXY, Prod.mk.injEq] at h
    refine turnXY_inj k h1 h2 h3 h4 (Prod.ext ?_ ?_)
    · omega
    · omega

namespace Led
variable {L : Led} {m : Cm}

theorem tubeD_some {n : Nat} {q : PT} (h : L.tube n = some q) : L.tubeD n = q := by unfold tubeD; rw [h]; rfl

theorem occ_none (hI : L.Inv) (h : L.occ m = 0) : ∀ u ∈ L.ts, m.b = u.2.box → m.x = u.2.x → m.y = u.2.y → False := by
  intro u hu e1 e2 e3
  unfold occ occN at h
  cases hf : (L.ts.filter (inBox m.b)).find? (atPl m.x m.y) with
  | none =>
    have := List.find?_eq_none.1 hf u (List.mem_filter.2 ⟨hu, by simp only [inBox, decide_eq_true_eq]; omega⟩)
    simp only [atPl, decide_eq_true_eq] at this
    exact this ⟨e2.symm, e3.symm⟩
  | some t =>
    rw [hf] at h
    have ht := (List.mem_filter.1 (List.mem_of_find?_eq_some hf)).1
    have := (hI.ok.t1 t ht).1
    simp only at h; omega
theorem occ_own (hI : L.Inv) (hb : 1 ≤ m.b) (h : L.occ m = m.t) (ht : 1 ≤ m.t) : ∀ u ∈ L.ts, u.1 ≠ m.t → m.b = u.2.box → m.x = u.2.x → m.y = u.2.y → False := by
  intro u hu hne e1 e2 e3
  unfold occ occN at h
  cases hf : (L.ts.filter (inBox m.b)).find? (atPl m.x m.y) with
  | none => rw [hf] at h; simp only at h; omega
  | some t =>
    rw [hf] at h
    simp only at h
    obtain ⟨ht1, ht2⟩ := List.mem_filter.1 (List.mem_of_find?_eq_some hf)
    have ht3 := List.find?_some hf
    simp only [atPl, decide_eq_true_eq, inBox] at ht3 ht2
    have := hI.apart t ht1 u hu (by omega) (by omega) (by omega) (by omega)
    omega

theorem good_tubeD (hI : L.Inv) {n : Nat} (h : (L.tube n).isSome = true) : (L.tubeD n).Good ∧ (n, L.tubeD n) ∈ L.ts ∧ L.tube n = some (L.tubeD n) ∧ 1 ≤ n ∧ n ≤ 999 := by
  obtain ⟨q, hq, hD⟩ := tube_of h
  have hm := (tube_mem hI.ok).1 hq
  rw [hD]
  exact ⟨(hI.ok.t1 _ hm).2.2, hm, hq, (hI.ok.t1 _ hm).1, (hI.ok.t1 _ hm).2.1⟩

theorem inv_pour (hI : L.Inv) (hv1 : 1 ≤ m.v) (ho : m.t < m.o) (h1 : (L.tube m.t).isSome = true) (h2 : (L.tube m.o).isSome = true) (hl : m.v ≤ (L.tubeD m.t).left) (hr : (L.tubeD m.o).left + m.v ≤ 1000000) (hp : L.pouredN m.t m.o + m.v ≤ 1000000) : (L.pourL m).Inv := by
  obtain ⟨g1, m1, e1, r1, _⟩ := good_tubeD hI h1
  obtain ⟨g2, m2, e2, _, r2⟩ := good_tubeD hI h2
  have i1 : (L.putT m.t ((L.tubeD m.t).less m.v)).Inv := inv_same hI e1 ⟨g1.x, g1.y, g1.box, g1.donor, g1.status, g1.thaws, g1.began, by have := g1.left; show (L.tubeD m.t).left - m.v ≤ 1000000; omega, g1.used, g1.lost⟩ rfl rfl rfl rfl rfl
  have e2' : (L.putT m.t ((L.tubeD m.t).less m.v)).tube m.o = some (L.tubeD m.o) := by rw [putT_tube, if_neg (by omega)]; exact e2
  have eD : (L.putT m.t ((L.tubeD m.t).less m.v)).tubeD m.o = L.tubeD m.o := tubeD_some e2'
  have i2 : ((L.putT m.t ((L.tubeD m.t).less m.v)).putT m.o ((L.tubeD m.o).more m.v)).Inv := inv_same i1 e2' ⟨g2.x, g2.y, g2.box, g2.donor, g2.status, g2.thaws, g2.began, hr, g2.used, g2.lost⟩ rfl rfl rfl rfl rfl
  have e : L.pourL m = { ((L.putT m.t ((L.tubeD m.t).less m.v)).putT m.o ((L.tubeD m.o).more m.v)) with ps := insP L.ps m.t m.o (L.pouredN m.t m.o + m.v) } := by
    show ({ ((L.putT m.t ((L.tubeD m.t).less m.v)).putT m.o (((L.putT m.t ((L.tubeD m.t).less m.v)).tubeD m.o).more m.v)) with ps := _ } : Led) = _
    rw [eD]; rfl
  rw [e]
  refine inv_insP i2 ⟨r1, ho, r2⟩ ⟨by omega, hp⟩ ?_ ?_
  · rw [putT_tube, putT_tube]; split
    · rfl
    · rw [if_pos rfl]; rfl
  · rw [putT_tube, if_pos rfl]; rfl

theorem inv_act (hI : L.Inv) (hm : m.Ok) (h : L.err m = 0) : (L.act m).Inv := by
  have hmb := hm.b
  have hmx := hm.x
  have hmy := hm.y
  have hmv := hm.v
  by_cases h1 : m.k = 1
  · rw [act, if_pos h1]
    refine inv_insB hI ⟨hm.b1 (by omega), hmb⟩ ⟨hm.n1 (by omega), hm.n⟩ ?_
    obtain ⟨_, _, _, hb⟩ := err_zero h
    unfold asksB at hb; rw [if_neg (by omega), if_neg (by omega), if_pos h1] at hb
    have := hb _ (.head _)
    simp only [bne_eq_false_iff_eq] at this; omega
  by_cases h2 : m.k = 2
  · rw [act, if_neg h1, if_pos h2]
    obtain ⟨b1, b2, b3⟩ := noB h (.inl h2)
    have b4 : L.occ m = 0 := by omega
    have hb1 := hm.b1 (by omega)
    have hmd := hm.d
    have hd1 := hm.d1 (by omega)
    exact inv_putT hI ⟨hm.t1 (by omega), hm.t⟩ (by constructor <;> simp only <;> omega) (by show m.b ≠ 0 ↔ 1 = 1; omega) (fun h0 => by have h0' : m.b = 0 := h0; omega) (fun _ => ⟨b1, b2⟩) (fun _ u hu _ e1 e2 e3 => occ_none hI b4 u hu e1 e2 e3) (fun _ => rfl)
  by_cases h3 : m.k = 3
  · rw [act, if_neg h1, if_neg h2, if_pos h3]
    obtain ⟨b1, b2, b3⟩ := noB h (.inr (.inl h3))
    obtain ⟨s1, s2⟩ := no37 h (.inl h3)
    obtain ⟨g, mm, e, r1, r2⟩ := good_tubeD hI s2
    have hb1 := hm.b1 (by omega)
    refine inv_putT hI ⟨r1, r2⟩ ⟨by show m.x < 5; omega, by show m.y < 5; omega, by show m.b ≤ 9; omega, g.donor, by show 1 ≤ 1 ∧ 1 ≤ 3; omega, g.thaws, g.began, g.left, g.used, g.lost⟩ ?_ ?_ (fun _ => ⟨b1, b2⟩) (fun _ u hu hne e1 e2 e3 => ?_) (fun _ => ?_)
    · show m.b ≠ 0 ↔ 1 = 1; omega
    · intro h0; have h0' : m.b = 0 := h0; omega
    · rcases b3 with b3 | b3
      · exact occ_none hI b3 u hu e1 e2 e3
      · exact occ_own hI hb1 b3.2 r1 u hu hne e1 e2 e3
    · exact hI.lost _ mm (by simp only; omega)
  by_cases h4 : m.k = 4
  · rw [act, if_neg h1, if_neg h2, if_neg h3, if_pos h4]
    obtain ⟨b1, b2, b3⟩ := noB h (.inr (.inr (.inl h4)))
    have b4 : L.occ m = 0 := by omega
    obtain ⟨a1, a2, a3, a4, a5⟩ := no4 h h4
    obtain ⟨g, mm, e, r1, r2⟩ := good_tubeD hI a4
    have hb1 := hm.b1 (by omega)
    have hmo := hm.o
    have gd := g.donor
    have gt := hmv
    have i1 : (L.putT m.o ⟨m.x, m.y, m.b, (L.tubeD m.t).donor, 1, 0, 0, 0, 0, 0⟩).Inv := inv_putT hI ⟨by omega, hmo⟩ (by constructor <;> simp only <;> omega) (by show m.b ≠ 0 ↔ 1 = 1; omega) (fun h0 => by have h0' : m.b = 0 := h0; omega) (fun _ => ⟨b1, b2⟩) (fun _ u hu _ e1 e2 e3 => occ_none hI b4 u hu e1 e2 e3) (fun _ => rfl)
    have t1 : (L.putT m.o ⟨m.x, m.y, m.b, (L.tubeD m.t).donor, 1, 0, 0, 0, 0, 0⟩).tube m.t = some (L.tubeD m.t) := by rw [putT_tube, if_neg (by omega)]; exact e
    have t2 : (L.putT m.o ⟨m.x, m.y, m.b, (L.tubeD m.t).donor, 1, 0, 0, 0, 0, 0⟩).tube m.o = some ⟨m.x, m.y, m.b, (L.tubeD m.t).donor, 1, 0, 0, 0, 0, 0⟩ := by rw [putT_tube, if_pos rfl]
    have hp0 : L.pouredN m.t m.o = 0 := by unfold pouredN; rw [none_pour hI (by simpa using a5)]; rfl
    refine inv_pour i1 (hm.v1 (by omega)) a1 (by rw [t1]; rfl) (by rw [t2]; rfl) ?_ ?_ ?_
    · rw [tubeD_some t1]; exact a2
    · have : (L.putT m.o ⟨m.x, m.y, m.b, (L.tubeD m.t).donor, 1, 0, 0, 0, 0, 0⟩).tubeD m.o = ⟨m.x, m.y, m.b, (L.tubeD m.t).donor, 1, 0, 0, 0, 0, 0⟩ := tubeD_some t2
      rw [this]; simp only; omega
    · have : (L.putT m.o ⟨m.x, m.y, m.b, (L.tubeD m.t).donor, 1, 0, 0, 0, 0, 0⟩).pouredN m.t m.o = L.pouredN m.t m.o := rfl
      rw [this, hp0]; omega
  by_cases h5 : m.k = 5
  · rw [act, if_neg h1, if_neg h2, if_neg h3, if_neg h4, if_pos h5]
    obtain ⟨a1, a2, a3, a4, a5, a6, a7, a8⟩ := no5 h h5
    exact inv_pour hI (hm.v1 (by omega)) a1 a4 a5 a2 a6 a7
  by_cases h6 : m.k = 6
  · rw [act, if_neg h1, if_neg h2, if_neg h3, if_neg h4, if_neg h5, if_pos h6]
    obtain ⟨a1, a2, a3, a4⟩ := no6 h h6
    obtain ⟨g, mm, e, r1, r2⟩ := good_tubeD hI a4
    exact inv_same hI e ⟨g.x, g.y, g.box, g.donor, g.status, g.thaws, g.began, by have := g.left; show (L.tubeD m.t).left - m.v ≤ 1000000; omega, a2, g.lost⟩ rfl rfl rfl rfl rfl
  by_cases h7 : m.k = 7
  · rw [act, if_neg h1, if_neg h2, if_neg h3, if_neg h4, if_neg h5, if_neg h6, if_pos h7]
    obtain ⟨s1, s2⟩ := no37 h (.inr h7)
    obtain ⟨g, mm, e, r1, r2⟩ := good_tubeD hI s2
    refine inv_putT hI ⟨r1, r2⟩ ⟨by show (0 : Nat) < 5; omega, by show (0 : Nat) < 5; omega, by show (0 : Nat) ≤ 9; omega, g.donor, by show 1 ≤ 2 ∧ 2 ≤ 3; omega, g.thaws, g.began, g.left, g.used, g.lost⟩ ?_ (fun _ => ⟨rfl, rfl⟩) (fun h0 => absurd rfl h0) (fun h0 => absurd rfl h0) (fun _ => ?_)
    · show (0 : Nat) ≠ 0 ↔ 2 = 1; omega
    · exact hI.lost _ mm (by simp only; omega)
  by_cases h8 : m.k = 8
  · rw [act, if_neg h1, if_neg h2, if_neg h3, if_neg h4, if_neg h5, if_neg h6, if_neg h7, if_pos h8]
    obtain ⟨b1, b2, b3⟩ := noB h (.inr (.inr (.inr h8)))
    have b4 : L.occ m = 0 := by omega
    obtain ⟨s1, s2⟩ := no8 h h8
    obtain ⟨g, mm, e, r1, r2⟩ := good_tubeD hI s2
    have hb1 := hm.b1 (by omega)
    refine inv_putT hI ⟨r1, r2⟩ ⟨by show m.x < 5; omega, by show m.y < 5; omega, by show m.b ≤ 9; omega, g.donor, by show 1 ≤ 1 ∧ 1 ≤ 3; omega, by show min ((L.tubeD m.t).thaws + 1) 9 ≤ 9; omega, g.began, g.left, g.used, g.lost⟩ ?_ ?_ (fun _ => ⟨b1, b2⟩) (fun _ u hu hne e1 e2 e3 => occ_none hI b4 u hu e1 e2 e3) (fun _ => ?_)
    · show m.b ≠ 0 ↔ 1 = 1; omega
    · intro h0; have h0' : m.b = 0 := h0; omega
    · exact hI.lost _ mm (by simp only; omega)
  have hbg : ∀ t ∈ L.ts, inBox m.b t = true → t.2.box = m.b := fun t _ ht => by simp only [inBox, decide_eq_true_eq] at ht; omega
  by_cases h9 : m.k = 9
  · rw [act, if_neg h1, if_neg h2, if_neg h3, if_neg h4, if_neg h5, if_neg h6, if_neg h7, if_neg h8, if_pos h9]
    have hg : ∀ t ∈ L.ts, (L.goneS m.d t.1 && !decide (t.2.status = 3)) = true → (PT.lostAll t.2).Good := fun t ht _ => by
      have g := (hI.ok.t1 t ht).2.2
      exact ⟨by show (0 : Nat) < 5; omega, by show (0 : Nat) < 5; omega, by show (0 : Nat) ≤ 9; omega, g.donor, by show 1 ≤ 3 ∧ 3 ≤ 3; omega, g.thaws, g.began, by show (0 : Nat) ≤ 1000000; omega, g.used, g.left⟩
    unfold hits
    rw [chg_map hI.ok _ PT.lostAll hg]
    exact inv_map hI _ PT.lostAll hg (fun t _ _ => by show (0 : Nat) ≠ 0 ↔ 3 = 1; omega) (fun t _ _ _ => ⟨rfl, rfl⟩) (fun t _ _ h0 => absurd rfl h0) (fun t _ u _ _ h0 => absurd rfl h0) (fun t _ _ h0 => absurd rfl h0)
  by_cases h10 : m.k = 10
  · rw [act, if_neg h1, if_neg h2, if_neg h3, if_neg h4, if_neg h5, if_neg h6, if_neg h7, if_neg h8, if_neg h9, if_pos h10]
    have hb1 := hm.b1 (by omega)
    have hs5 := sideN_lt hI.ok m.b
    have hpl : ∀ t ∈ L.ts, inBox m.b t = true → t.2.x < L.sideN m.b ∧ t.2.y < L.sideN m.b := fun t ht hb => by
      have := hI.place t ht (by have := hbg t ht hb; omega)
      rwa [hbg t ht hb] at this
    have hg : ∀ t ∈ L.ts, inBox m.b t = true → ((fun q : PT => q.turnedBy (L.sideN m.b) m.n) t.2).Good := fun t ht hb => by
      have g := (hI.ok.t1 t ht).2.2
      have h2 := hpl t ht hb
      have h3 := turnXY_lt (p := (t.2.x, t.2.y)) h2.1 h2.2 m.n
      exact ⟨by show (turnXY _ _ _).1 < 5; omega, by show (turnXY _ _ _).2 < 5; omega, g.box, g.donor, g.status, g.thaws, g.began, g.left, g.used, g.lost⟩
    rw [chg_map hI.ok _ _ hg]
    refine inv_map hI _ _ hg (fun t ht _ => hI.box t ht) (fun t ht hb h0 => ?_) (fun t ht hb h0 => ?_) (fun t ht u hu hb h0 => ⟨fun hb2 e1 e2 e3 => ?_, fun hb2 e1 _ _ => ?_⟩) (fun t ht _ => hI.lost t ht)
    · have := hbg t ht hb; have h0' : t.2.box = 0 := h0; omega
    · have h2 := hpl t ht hb
      have h3 := turnXY_lt (p := (t.2.x, t.2.y)) h2.1 h2.2 m.n
      have e : ((fun q : PT => q.turnedBy (L.sideN m.b) m.n) t.2).box = m.b := hbg t ht hb
      rw [e]; exact h3
    · have p1 := hpl t ht hb
      have p2 := hpl u hu hb2
      have := turnXY_inj m.n (p := (t.2.x, t.2.y)) (p' := (u.2.x, u.2.y)) p1.1 p1.2 p2.1 p2.2 (Prod.ext e2 e3)
      simp only [Prod.mk.injEq] at this
      exact hI.apart t ht u hu h0 e1 this.1 this.2
    · have e1' : t.2.box = u.2.box := e1
      have := hbg t ht hb
      simp only [inBox, decide_eq_false_iff_not] at hb2; omega
  by_cases h11 : m.k = 11
  · rw [act, if_neg h1, if_neg h2, if_neg h3, if_neg h4, if_neg h5, if_neg h6, if_neg h7, if_neg h8, if_neg h9, if_neg h10, if_pos h11]
    have hb1 := hm.b1 (by omega)
    have hs5 := sideN_lt hI.ok m.b
    have hpl : ∀ t ∈ L.ts, inBox m.b t = true → t.2.x < L.sideN m.b ∧ t.2.y < L.sideN m.b := fun t ht hb => by
      have := hI.place t ht (by have := hbg t ht hb; omega)
      rwa [hbg t ht hb] at this
    have hg : ∀ t ∈ L.ts, inBox m.b t = true → ((fun q : PT => q.flippedIn (L.sideN m.b)) t.2).Good := fun t ht hb => by
      have g := (hI.ok.t1 t ht).2.2
      exact ⟨by show L.sideN m.b - 1 - t.2.x < 5; omega, g.y, g.box, g.donor, g.status, g.thaws, g.began, g.left, g.used, g.lost⟩
    rw [chg_map hI.ok _ _ hg]
    refine inv_map hI _ _ hg (fun t ht _ => hI.box t ht) (fun t ht hb h0 => ?_) (fun t ht hb h0 => ?_) (fun t ht u hu hb h0 => ⟨fun hb2 e1 e2 e3 => ?_, fun hb2 e1 _ _ => ?_⟩) (fun t ht _ => hI.lost t ht)
    · have := hbg t ht hb; have h0' : t.2.box = 0 := h0; omega
    · have h2 := hpl t ht hb
      have e : ((fun q : PT => q.flippedIn (L.sideN m.b)) t.2).box = m.b := hbg t ht hb
      rw [e]
      exact ⟨by show L.sideN m.b - 1 - t.2.x < _; omega, h2.2⟩
    · have p1 := hpl t ht hb
      have p2 := hpl u hu hb2
      have e2' : L.sideN m.b - 1 - t.2.x = L.sideN m.b - 1 - u.2.x := e2
      exact hI.apart t ht u hu h0 e1 (by omega) e3
    · have e1' : t.2.box = u.2.box := e1
      have := hbg t ht hb
      simp only [inBox, decide_eq_false_iff_not] at hb2; omega
  rw [act, if_neg h1, if_neg h2, if_neg h3, if_neg h4, if_neg h5, if_neg h6, if_neg h7, if_neg h8, if_neg h9, if_neg h10, if_neg h11]
  exact hI

theorem inv_step (hI : L.Inv) (hm : m.Ok) (lim : Nat) : (L.stepL lim m).Inv := by
  unfold stepL
  split
  · rename_i h; exact inv_act hI hm h.1
  · exact hI

end Led
end Go.Proofs.YtbpnllhhmookcaaGreatDoor

/- The bytes of a reply. -/
namespace Go.Proofs.YtbpnllhhmookcaaGreatDoor
open Go.RowKit

/-- The bytes of a reply. -/
def replyL (e : Int) (zs : List Int) : List UInt8 := [UInt8.ofNat e.toNat, UInt8.ofNat (zs.length / 256), UInt8.ofNat zs.length] ++ zs.flatMap fun z => be4 z.toNat
theorem replyL_step (e : Int) (zs : List Int) (m : Nat) (h : m < zs.length) : [UInt8.ofNat e.toNat, UInt8.ofNat (zs.length / 256), UInt8.ofNat zs.length] ++ (zs.take (m + 1)).flatMap (fun z => be4 z.toNat) = ([UInt8.ofNat e.toNat, UInt8.ofNat (zs.length / 256), UInt8.ofNat zs.length] ++ (zs.take m).flatMap fun z => be4 z.toNat) ++ be4 zs[m].toNat := by
  rw [List.take_succ_eq_append_getElem h, List.flatMap_append]
  simp

theorem bytes3_cells (w : World) (a b : Nat) (ha : a < 256) (hb : b < 65536) : ∀ j (hj : j < [UInt8.ofNat a, UInt8.ofNat (b / 256), UInt8.ofNat b].length), (w.alloc (.cells #[.int .u8 (a : Int), .int .u8 ((b : Int) / 256), .int .u8 ((b : Int) % 256)] 5)).cell? ((⟨w.heap.size, 0, none⟩ : Addr).add j) = some (.int .u8 ([UInt8.ofNat a, UInt8.ofNat (b / 256), UInt8.ofNat b][j].toNat : Int)) := by
  intro j hj
  rw [addr_add, World.cell?_alloc_new]
  match j, hj with
  | 0, _ =>
    show some (Value.int .u8 (a : Int)) = some (Value.int .u8 ((UInt8.ofNat a).toNat : Int))
    rw [UInt8.toNat_ofNat']; exact congrArg (fun z : Int => some (Value.int .u8 z)) (by omega)
  | 1, _ =>
    show some (Value.int .u8 ((b : Int) / 256)) = some (Value.int .u8 ((UInt8.ofNat (b / 256)).toNat : Int))
    rw [UInt8.toNat_ofNat']; exact congrArg (fun z : Int => some (Value.int .u8 z)) (by omega)
  | 2, _ =>
    show some (Value.int .u8 ((b : Int) % 256)) = some (Value.int .u8 ((UInt8.ofNat b).toNat : Int))
    rw [UInt8.toNat_ofNat']; exact congrArg (fun z : Int => some (Value.int .u8 z)) (by omega)
  | n + 3, h => simp at h; omega

theorem ret_str {a b : List UInt8} (h : b = a) : Ending.returned (.string ⟨a.toArray⟩) = .returned (.string ⟨b.toArray⟩) := by rw [h]

end Go.Proofs.YtbpnllhhmookcaaGreatDoor

/- What Reply of package wire returns. -/
namespace Go.Proofs.YtbpnllhhmookcaaGreatDoor
open Go.RowKit

theorem own_bytes3 (w : World) (l : List UInt8) (arr : Array Value) (h : arr.toList = byteCells l) (hl : l.length ≤ 1000) (hz : arr.size = l.length) : (w.alloc (.cells arr 5)).ownsRow w.heap.size 5 1 (.slice (some ⟨w.heap.size, 0, none⟩) l.length l.length) l.length (byteCells l) := by
  have hb : (byteCells l).length = l.length := by simp [byteCells]
  refine ⟨by simp [byteCells], .inr ⟨w.heap.size, l.length, arr, rfl, Nat.le_refl _, ?_, Nat.le_refl _, by unfold maxLen; omega, by simp [hz], ?_⟩⟩
  · exact World.alloc_heap_new w _
  · rw [h, Nat.mul_one, ← hb]; simp

set_option maxHeartbeats 1000000 in
theorem wreply_any (e : Nat) (v : Value) (zs : List Int) (w : World) (he : e < 256) (hv : IntsIn w v zs) (hn : zs.length < 65536) (hz : ∀ z ∈ zs, 0 ≤ z ∧ z < 4294967296) :
    Calls Tryz.prog 56 #[.int .i64 e, v] w fun r w' => r = .returned (.string ⟨(replyL e zs).toArray⟩) ∧ Below w.heap.size w w' := by
  obtain ⟨oa, ca, rfl, hca⟩ := hv.parts
  have HA := hid hca
  have HZ := hid hz
  clear hca hv hz
  have hne : (e : Int) < 256 := by omega
  have hnz : (zs.length : Int) < 65536 := by omega
  have hOw := own_bytes3 w [UInt8.ofNat e, UInt8.ofNat (zs.length / 256), UInt8.ofNat zs.length] #[.int .u8 (e : Int), .int .u8 ((zs.length : Int) / 256), .int .u8 ((zs.length : Int) % 256)] (by
    simp only [byteCells, List.map, UInt8.toNat_ofNat']
    have h1 : ((e % 256 : Nat) : Int) = e := by omega
    have h2 : ((zs.length / 256 % 256 : Nat) : Int) = (zs.length : Int) / 256 := by omega
    have h3 : ((zs.length % 256 : Nat) : Int) = (zs.length : Int) % 256 := by omega
    rw [h1, h2, h3]) (by simp) rfl
  have HD := hid (show replyL e zs = [UInt8.ofNat e, UInt8.ofNat (zs.length / 256), UInt8.ofNat zs.length] ++ (zs.take zs.length).flatMap (fun z => be4 z.toNat) by rw [List.take_length]; rfl)
  have HSt := hid (fun m h => replyL_step e zs m h)
  simp only [Int.toNat_natCast] at HSt
  go_enter Tryz.func56, Tryz.ntmps56
  go_wp2_with fail
  go_loopw [5, 20] (fun sv i wr => ∃ m : Nat, m ≤ zs.length ∧ i = .int .i64 m ∧ wr.ownsRow w.heap.size 5 1 sv ([UInt8.ofNat e, UInt8.ofNat (zs.length / 256), UInt8.ofNat zs.length] ++ (zs.take m).flatMap fun z => be4 z.toNat).length (byteCells ([UInt8.ofNat e, UInt8.ofNat (zs.length / 256), UInt8.ofNat zs.length] ++ (zs.take m).flatMap fun z => be4 z.toNat)) ∧ ([UInt8.ofNat e, UInt8.ofNat (zs.length / 256), UInt8.ofNat zs.length] ++ (zs.take m).flatMap fun z => be4 z.toNat).length ≤ 3 + 4 * m ∧ Below w.heap.size w wr) (fun _ i _ => zs.length - (intOf i).toNat)
  case atStart => exact ⟨0, Nat.zero_le _, rfl, hOw, by simp, (Below.refl _ _).alloc (Nat.le_refl _) _⟩
  case round =>
    obtain ⟨m, hm, rfl, hown, hle, hb⟩ := hrel
    clear hOw
    have hsz := hb.size
    by_cases hlt : m < zs.length
    · obtain ⟨p, rfl, hpl, hp⟩ := HA.out m hlt
      have hpr := (hb.cell (p := ⟨p, m, none⟩) hpl).trans hp
      have hzm := HZ.out zs[m] (List.getElem_mem hlt)
      have HS := hid (HSt.out m hlt)
      have hlt' : (m : Int) < (zs.length : Int) := by omega
      obtain ⟨n, hn2⟩ := Int.eq_ofNat_of_zero_le hzm.1
      rw [hn2] at hpr hzm
      obtain ⟨hz0, hz1⟩ := hzm
      rw [hn2, Int.toNat_natCast] at HS
      clear hp hn2
      generalize [UInt8.ofNat e, UInt8.ofNat (zs.length / 256), UInt8.ofNat zs.length] ++ (zs.take m).flatMap (fun z => be4 z.toNat) = cur at *
      go_wp2_with (go_at_call 82; refine (appendNumber_any w.heap.size cur.length n (by omega) _ _ _ hown (by omega) (by omega)).mono ?_; rintro e w4 ⟨v', rfl, hown4, hb4⟩)
      go_roundw
      case rel => exact ⟨m + 1, by omega, by go_num, by rw [HS.out, byteCells_append, List.length_append, be4_len]; exact hown4, by rw [HS.out, List.length_append, be4_len]; omega, hb.trans hb4⟩
      case measure => simp [intOf]; omega
    · have hme : m = zs.length := by omega
      have HD2 : Hid (replyL e zs = [UInt8.ofNat e, UInt8.ofNat (zs.length / 256), UInt8.ofNat zs.length] ++ (zs.take m).flatMap (fun z => be4 z.toNat)) := hid (by rw [hme]; exact HD.out)
      clear hme HD
      have hpos : ([UInt8.ofNat e, UInt8.ofNat (zs.length / 256), UInt8.ofNat zs.length] ++ (zs.take m).flatMap fun z => be4 z.toNat) ≠ [] := by simp
      generalize [UInt8.ofNat e, UInt8.ofNat (zs.length / 256), UInt8.ofNat zs.length] ++ (zs.take m).flatMap (fun z => be4 z.toNat) = cur at *
      obtain ⟨g, cap, rfl, hg1, hg2, hcs⟩ := own_cells hown hpos
      have hconv := own_conv (w := wr) (cap := cap) hcs
      clear hcs
      go_wp2
      go_ret
      exact ⟨ret_str HD2.out, hb⟩

end Go.Proofs.YtbpnllhhmookcaaGreatDoor
