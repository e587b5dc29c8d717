/- The program's ledger and the document's books say the same: what is looked up. -/
import Derived.Test.YtbpnllhhmookcaaGreatDoorKm02
import Derived.Test.YtbpnllhhmookcaaGreatDoorKm03
import Derived.Test.YtbpnllhhmookcaaGreatDoorKk34
import Derived.Test.YtbpnllhhmookcaaGreatDoorKm04
import Derived.Test.YtbpnllhhmookcaaGreatDoorKl01
import Derived.Test.YtbpnllhhmookcaaGreatDoorKl00
namespace Go.Proofs.YtbpnllhhmookcaaGreatDoor
open Go.RowKit

/-- A tube as the books have it. -/
def tF (t : TN) : Nat → Int
  | 0 => t.1
  | 1 => t.2.donor
  | 2 => t.2.began
  | 3 => t.2.left
  | 4 => t.2.used
  | 5 => t.2.lost
  | 6 => t.2.status
  | 7 => t.2.thaws
  | 8 => t.2.box
  | 9 => t.2.x
  | 10 => t.2.y
  | _ => 0
def pF (p : PN) : Nat → Int := mkP p.1 p.2.1 p.2.2

/-- A ledger and books of one content. -/
structure Sim (L : Led) (k : Bk) : Prop where
  sides : ∀ b, b < 10 → k.sides b = L.sideN b
  tubes : k.tubes = L.ts.map tF
  poured : k.poured.Perm (L.ps.map pF)

variable {L : Led} {k : Bk} {m : Cm}

theorem ts_lt (h : L.Ok) {i j : Nat} (hij : i < j) (hj : j < L.ts.length) : (L.ts[i]'(by omega)).1 < (L.ts[j]).1 := List.pairwise_iff_getElem.1 h.ts i j (by omega) hj hij
theorem Sim.find_none (hS : Sim L k) (hO : L.Ok) {n : Nat} (h : L.tube n = .none) : findI k.tubes n = -1 := by
  rw [hS.tubes]
  refine findI_miss fun j hj e => ?_
  rw [List.length_map] at hj
  rw [List.getElem_map] at e
  have e' : (L.ts[j]).1 = n := by have : ((L.ts[j]).1 : Int) = n := e; omega
  have hm : (n, (L.ts[j]).2) ∈ L.ts := by
    have := List.getElem_mem hj
    rw [← e']; exact this
  rw [(Led.tube_mem hO).2 hm] at h
  cases h
theorem Sim.find_some (hS : Sim L k) (hO : L.Ok) {n : Nat} {q : PT} (h : L.tube n = some q) : ∃ i, ∃ hi : i < L.ts.length, L.ts[i] = (n, q) ∧ findI k.tubes n = (i : Nat) := by
  obtain ⟨i, hi, e⟩ := List.getElem_of_mem ((Led.tube_mem hO).1 h)
  refine ⟨i, hi, e, ?_⟩
  rw [hS.tubes]
  refine findI_hit (by rw [List.length_map]; exact hi) (by rw [List.getElem_map, e]; rfl) (fun j hj e2 => ?_)
  rw [List.getElem_map] at e2
  have e2' : ((L.ts[j]'(by omega)).1 : Int) = n := e2
  have := ts_lt hO hj hi
  rw [e] at this
  have : (L.ts[j]'(by omega)).1 < n := this
  omega
theorem Sim.tube_at (hS : Sim L k) (hO : L.Ok) {n : Nat} {q : PT} (h : L.tube n = some q) : tubeAt k.tubes n = tF (n, q) := by
  obtain ⟨i, hi, e, hf⟩ := hS.find_some hO h
  unfold tubeAt
  rw [hf, if_pos (by omega), hS.tubes]
  simp only [Int.toNat_natCast]
  rw [List.getD_eq_getElem?_getD, List.getElem?_eq_getElem (by rw [List.length_map]; exact hi), List.getElem_map, e]
  rfl
theorem pF_inj {p q : PN} (h : pF p = pF q) : p = q := by
  have h0 : (p.1 : Int) = q.1 := congrFun h 0
  have h1 : (p.2.1 : Int) = q.2.1 := congrFun h 1
  have h2 : (p.2.2 : Int) = q.2.2 := congrFun h 2
  exact Prod.ext (by omega) (Prod.ext (by omega) (by omega))
theorem Sim.mem_poured (hS : Sim L k) {p : PN} : pF p ∈ k.poured ↔ p ∈ L.ps := by
  rw [hS.poured.mem_iff, List.mem_map]
  exact ⟨fun ⟨q, hq, e⟩ => pF_inj e ▸ hq, fun h => ⟨p, h, rfl⟩⟩
theorem Sim.of_poured (hS : Sim L k) {x : Nat → Int} (h : x ∈ k.poured) : ∃ p ∈ L.ps, pF p = x := List.mem_map.1 (hS.poured.mem_iff.1 h)
theorem Sim.poured_at (hS : Sim L k) (hO : L.Ok) (a b : Nat) : pouredAt k.poured a b = L.pouredN a b := by
  unfold pouredAt pairI Led.pouredN
  cases hp : L.pour a b with
  | none =>
    have hno : ∀ x ∈ k.poured, (x 0 == (a : Int) && x 1 == (b : Int)) = false := by
      intro x hx
      obtain ⟨p, hpm, rfl⟩ := hS.of_poured hx
      rw [Bool.eq_false_iff]
      intro h
      simp only [Bool.and_eq_true, beq_iff_eq] at h
      have e1 : (p.1 : Int) = a := h.1
      have e2 : (p.2.1 : Int) = b := h.2
      have : (a, b, p.2.2) ∈ L.ps := by
        have e3 : p = (a, b, p.2.2) := Prod.ext (by omega) (Prod.ext (by show p.2.1 = b; omega) rfl)
        rw [← e3]; exact hpm
      rw [(Led.pour_mem hO).2 this] at hp
      cases hp
    have e : k.poured.findIdx (fun p => p 0 == (a : Int) && p 1 == (b : Int)) = k.poured.length := List.findIdx_eq_length.2 hno
    rw [e, if_neg (Nat.lt_irrefl _), if_neg (by omega)]
    rfl
  | some v =>
    have hm := (Led.pour_mem hO).1 hp
    have hx := hS.mem_poured.2 hm
    have hlt : k.poured.findIdx (fun p => p 0 == (a : Int) && p 1 == (b : Int)) < k.poured.length := List.findIdx_lt_length_of_exists ⟨_, hx, by simp [pF, mkP]⟩
    rw [if_pos hlt, if_pos (by omega)]
    simp only [Int.toNat_natCast]
    have hsat := List.findIdx_getElem (w := hlt)
    simp only [Bool.and_eq_true, beq_iff_eq] at hsat
    obtain ⟨p, hpm, hpe⟩ := hS.of_poured (List.getElem_mem hlt)
    rw [List.getD_eq_getElem?_getD, List.getElem?_eq_getElem hlt, Option.getD_some]
    rw [← hpe] at hsat ⊢
    have e1 : (p.1 : Int) = a := hsat.1
    have e2 : (p.2.1 : Int) = b := hsat.2
    have e3 : p = (a, b, p.2.2) := Prod.ext (by omega) (Prod.ext (by show p.2.1 = b; omega) rfl)
    rw [e3] at hpm
    have := (Led.pour_mem hO).2 hpm
    rw [hp] at this
    injection this with this
    show (p.2.2 : Int) = v
    omega
theorem Sim.gives (hS : Sim L k) (d : Nat) : givesB k.tubes d = !((ofN d L.ts).length == 0) := by
  unfold givesB ofN
  rw [hS.tubes, List.any_map]
  induction L.ts with
  | nil => rfl
  | cons t l ih =>
    rw [List.any_cons, ih, List.filter_cons]
    have e : ((fun t : Nat → Int => t 1 == (d : Int)) ∘ tF) t = decide ((t.2.donor : Int) = d) := by
      show ((t.2.donor : Int) == (d : Int)) = _
      rw [Bool.eq_iff_iff]; simp
    rw [e]
    by_cases h : (t.2.donor : Int) = d
    · simp [h]
    · simp [h]

end Go.Proofs.YtbpnllhhmookcaaGreatDoor

/- The program's ledger and the document's books refuse the same. -/
namespace Go.Proofs.YtbpnllhhmookcaaGreatDoor
open Go.RowKit
variable {L : Led} {k : Bk} {m : Cm}

/-- A place that is no place for a tube. -/
def Led.badPl (L : Led) (m : Cm) : Bool := !(decide ((m.x : Int) < L.sideN m.b) && decide ((m.y : Int) < L.sideN m.b)) || (((L.occ m : Nat) : Int) != 0 && !((m.k : Int) == 3 && ((L.occ m : Nat) : Int) == m.t))

theorem occ_is (h : L.occ m ≠ 0) : ∃ t ∈ L.ts, t.1 = L.occ m ∧ t.2.box = m.b ∧ t.2.x = m.x ∧ t.2.y = m.y := by
  unfold Led.occ occN at h ⊢
  cases hf : (L.ts.filter (inBox m.b)).find? (atPl m.x m.y) with
  | none => rw [hf] at h; exact absurd rfl h
  | some t =>
    obtain ⟨ht1, ht2⟩ := List.mem_filter.1 (List.mem_of_find?_eq_some hf)
    have ht3 := List.find?_some hf
    simp only [atPl, decide_eq_true_eq, inBox] at ht3 ht2
    exact ⟨t, ht1, rfl, by omega, ht3.1, ht3.2⟩

theorem Sim.taken (hS : Sim L k) (hI : L.Inv) (hb : 1 ≤ m.b) {id : Nat} (hid : (m.k = 3 ∧ id = m.t ∧ 1 ≤ m.t) ∨ (m.k ≠ 3 ∧ ∀ q, L.tube id = some q → q.box = 0)) :
    k.tubes.any (takenB id m.ints) = (((L.occ m : Nat) : Int) != 0 && !((m.k : Int) == 3 && ((L.occ m : Nat) : Int) == m.t)) := by
  rw [Bool.eq_iff_iff, List.any_eq_true, hS.tubes]
  constructor
  · rintro ⟨x, hx, h⟩
    obtain ⟨u, hu, rfl⟩ := List.mem_map.1 hx
    simp only [takenB, Bool.and_eq_true, bne_iff_ne, beq_iff_eq] at h
    obtain ⟨⟨⟨⟨h0, h1⟩, h2⟩, h3⟩, h4⟩ := h
    have h0' : ¬ (u.1 : Int) = id := h0
    have h2' : (u.2.box : Int) = m.b := h2
    have h3' : (u.2.x : Int) = m.x := h3
    have h4' : (u.2.y : Int) = m.y := h4
    have hocc : L.occ m ≠ 0 := fun e => Led.occ_none hI e u hu (by omega) (by omega) (by omega)
    simp only [Bool.and_eq_true, bne_iff_ne, Bool.not_eq_true', Bool.and_eq_false_iff, beq_eq_false_iff_ne]
    refine ⟨by omega, ?_⟩
    rcases hid with ⟨hk, rfl, ht⟩ | ⟨hk, _⟩
    · refine .inr fun e => ?_
      exact Led.occ_own hI hb (by omega) ht u hu (by omega) (by omega) (by omega) (by omega)
    · exact .inl (by omega)
  · intro h
    simp only [Bool.and_eq_true, bne_iff_ne, Bool.not_eq_true', Bool.and_eq_false_iff, beq_eq_false_iff_ne] at h
    obtain ⟨h0, h1⟩ := h
    obtain ⟨t, ht, e1, e2, e3, e4⟩ := occ_is (m := m) (L := L) (by omega)
    refine ⟨tF t, List.mem_map.2 ⟨t, ht, rfl⟩, ?_⟩
    have hst : t.2.status = 1 := (hI.box t ht).1 (by omega)
    have hne : t.1 ≠ id := by
      rcases hid with ⟨hk, rfl, _⟩ | ⟨hk, hq⟩
      · rcases h1 with h1 | h1
        · exact absurd (by omega) h1
        · omega
      · intro e
        have := hq t.2 ((Led.tube_mem hI.ok).2 (by rw [← e]; exact ht))
        omega
    simp only [takenB, Bool.and_eq_true, bne_iff_ne, beq_iff_eq]
    refine ⟨⟨⟨⟨?_, ?_⟩, ?_⟩, ?_⟩, ?_⟩
    · show ¬ (t.1 : Int) = id; omega
    · show (t.2.status : Int) = 1; omega
    · show (t.2.box : Int) = m.b; omega
    · show (t.2.x : Int) = m.x; omega
    · show (t.2.y : Int) = m.y; omega

theorem Sim.mis (hS : Sim L k) (hI : L.Inv) (hm : m.Ok) (hb : 1 ≤ m.b) {id : Nat} (hid : (m.k = 3 ∧ id = m.t ∧ 1 ≤ m.t) ∨ (m.k ≠ 3 ∧ ∀ q, L.tube id = some q → q.box = 0)) :
    misI k id m.ints = if (L.sideN m.b : Int) == 0 then 9 else if L.badPl m then 10 else 0 := by
  have h5 : k.sides (m.ints 5).toNat = L.sideN m.b := hS.sides m.b (by have := hm.b; omega)
  unfold misI Led.badPl
  rw [h5, hS.taken hI hb hid]
  show (if (L.sideN m.b : Int) = 0 then 9 else if (L.sideN m.b : Int) ≤ (m.x : Int) ∨ (L.sideN m.b : Int) ≤ (m.y : Int) then 10 else _) = _
  by_cases h0 : (L.sideN m.b : Int) = 0
  · have e0 : ((L.sideN m.b : Int) == 0) = true := beq_iff_eq.2 h0
    rw [if_pos h0, e0]; rfl
  · have e0 : ((L.sideN m.b : Int) == 0) = false := beq_eq_false_iff_ne.2 h0
    rw [if_neg h0, e0]
    by_cases h1 : (L.sideN m.b : Int) ≤ (m.x : Int) ∨ (L.sideN m.b : Int) ≤ (m.y : Int)
    · have e : (!(decide ((m.x : Int) < L.sideN m.b) && decide ((m.y : Int) < L.sideN m.b))) = true := by
        rw [Bool.not_eq_true', Bool.and_eq_false_iff, decide_eq_false_iff_not, decide_eq_false_iff_not]
        omega
      rw [if_pos h1, e]; rfl
    · have e : (!(decide ((m.x : Int) < L.sideN m.b) && decide ((m.y : Int) < L.sideN m.b))) = false := by
        rw [Bool.not_eq_false', Bool.and_eq_true, decide_eq_true_eq, decide_eq_true_eq]; omega
      rw [if_neg h1, e, Bool.false_or]; rfl

theorem ask_pl (c d : Bool) : askAll 0 ([(10, c), (9, d)] : Asks) = if d then 9 else if c then 10 else 0 := by cases c <;> cases d <;> rfl
theorem ask_reg (a c d : Bool) : askAll 0 ([(4, a), (10, c), (9, d)] : Asks) = if a then 4 else if d then 9 else if c then 10 else 0 := by cases a <;> cases c <;> cases d <;> rfl
theorem ask_mov (a b c d : Bool) : askAll 0 ([(7, a), (4, b), (10, c), (9, d)] : Asks) = if b then 4 else if a then 7 else if d then 9 else if c then 10 else 0 := by cases a <;> cases b <;> cases c <;> cases d <;> rfl
theorem ask_ali (a b c d e f g : Bool) : askAll 0 ([(6, a), (8, b), (7, c), (4, d), (4, e), (10, f), (9, g)] : Asks) = if d || e then 4 else if a then 6 else if c then 7 else if b then 8 else if g then 9 else if f then 10 else 0 := by
  cases a <;> cases b <;> cases c <;> cases d <;> cases e <;> cases f <;> cases g <;> rfl
theorem ask_pou (a b c d e f g h : Bool) : askAll 0 ([(6, a), (8, b), (7, c), (4, d), (8, e), (8, f), (7, g), (4, h)] : Asks) = if d || h then 4 else if a then 6 else if c || g then 7 else if b || e || f then 8 else 0 := by
  cases a <;> cases b <;> cases c <;> cases d <;> cases e <;> cases f <;> cases g <;> cases h <;> rfl
theorem ask_use (a b c : Bool) : askAll 0 ([(8, a), (7, b), (4, c)] : Asks) = if c then 4 else if b then 7 else if a then 8 else 0 := by cases a <;> cases b <;> cases c <;> rfl
theorem ask_tak (a b : Bool) : askAll 0 ([(7, a), (4, b)] : Asks) = if b then 4 else if a then 7 else 0 := by cases a <;> cases b <;> rfl
theorem ask_one (e : Int) (a : Bool) : askAll 0 ([(e, a)] : Asks) = if a then e else 0 := by cases a <;> simp [askAll, askI]

theorem Sim.side (hS : Sim L k) (hm : m.Ok) : k.sides (m.ints 5).toNat = L.sideN m.b := hS.sides m.b (by have := hm.b; omega)
theorem Sim.f_none (hS : Sim L k) (hI : L.Inv) {n : Nat} (h : (L.tube n).isSome = false) : findI k.tubes (n : Int) < 0 := by
  have e : L.tube n = .none := by cases hq : L.tube n with
    | none => rfl
    | some q => rw [hq] at h; cases h
  rw [hS.find_none hI.ok e]; omega
theorem Sim.f_some (hS : Sim L k) (hI : L.Inv) {n : Nat} (h : (L.tube n).isSome = true) : 0 ≤ findI k.tubes (n : Int) ∧ tubeAt k.tubes (n : Int) = tF (n, L.tubeD n) := by
  obtain ⟨q, hq, hD⟩ := Led.tube_of h
  obtain ⟨i, hi, e, hf⟩ := hS.find_some hI.ok hq
  rw [hf, hS.tube_at hI.ok hq, hD]
  exact ⟨by omega, rfl⟩

theorem Sim.err (hS : Sim L k) (hI : L.Inv) (hm : m.Ok) : errI k m.ints = L.err m := by
  have h5 := hS.side hm
  have hk := hm.k
  have e0 : (m.ints 0).toNat = m.k := by show ((m.k : Nat) : Int).toNat = m.k; omega
  unfold errI
  rw [e0]
  unfold Led.err Led.asksT Led.asksO Led.asksD Led.asksB
  have hk' : m.k = 1 ∨ m.k = 2 ∨ m.k = 3 ∨ m.k = 4 ∨ m.k = 5 ∨ m.k = 6 ∨ m.k = 7 ∨ m.k = 8 ∨ m.k = 9 ∨ m.k = 10 ∨ m.k = 11 ∨ m.k = 12 ∨ m.k = 13 ∨ m.k = 14 ∨ m.k = 15 ∨ m.k = 16 := by omega
  rcases hk' with e | e | e | e | e | e | e | e | e | e | e | e | e | e | e | e
  · rw [e]
    show errNew k m.ints = askAll 0 ([(9, (L.sideN m.b : Int) != 0)] : Asks)
    rw [ask_one]
    unfold errNew
    rw [h5]
    by_cases h : L.sideN m.b = 0
    · rw [h]; rfl
    · rw [if_pos (by omega), if_pos (by rw [bne_iff_ne]; omega)]
  · rw [e]
    show errReg k m.ints = askAll 0 ([(4, (L.tube m.t).isSome), (10, _), (9, (L.sideN m.b : Int) == 0)] : Asks)
    rw [ask_reg]
    unfold errReg
    show (if 0 ≤ findI k.tubes (m.t : Int) then 4 else misI k (m.t : Int) m.ints) = _
    cases h : (L.tube m.t).isSome with
    | true => rw [if_pos (hS.f_some hI h).1]; rfl
    | false =>
      rw [if_neg (by have := hS.f_none hI h; omega), hS.mis hI hm (hm.b1 (by omega)) (.inr ⟨by omega, fun q hq => by rw [hq] at h; cases h⟩)]
      unfold Led.badPl
      rw [e]; rfl
  · rw [e]
    show errMov k m.ints 1 = askAll 0 ([(7, ((L.tubeD m.t).status : Int) != 1), (4, !(L.tube m.t).isSome), (10, _), (9, (L.sideN m.b : Int) == 0)] : Asks)
    rw [ask_mov]
    unfold errMov
    show (if findI k.tubes (m.t : Int) < 0 then 4 else if tubeAt k.tubes (m.t : Int) 6 = 1 then misI k (m.t : Int) m.ints else 7) = _
    cases h : (L.tube m.t).isSome with
    | false => rw [if_pos (hS.f_none hI h)]; rfl
    | true =>
      rw [if_neg (by have := (hS.f_some hI h).1; omega), (hS.f_some hI h).2]
      show (if ((L.tubeD m.t).status : Int) = 1 then misI k (m.t : Int) m.ints else 7) = _
      by_cases hs : ((L.tubeD m.t).status : Int) = 1
      · rw [if_pos hs, hS.mis hI hm (hm.b1 (by omega)) (.inl ⟨e, rfl, hm.t1 (by omega)⟩), hs]
        unfold Led.badPl
        rw [e]; rfl
      · have : (((L.tubeD m.t).status : Int) != 1) = true := by rw [bne_iff_ne]; exact hs
        rw [if_neg hs, this]; rfl
  · rw [e]
    show errAli k m.ints = askAll 0 ([(6, decide (m.o ≤ m.t)), (8, decide ((L.tubeD m.t).left < m.v)), (7, ((L.tubeD m.t).status : Int) != 1), (4, !(L.tube m.t).isSome), (4, (L.tube m.o).isSome), (10, _), (9, (L.sideN m.b : Int) == 0)] : Asks)
    rw [ask_ali]
    unfold errAli
    show (if findI k.tubes (m.t : Int) < 0 ∨ 0 ≤ findI k.tubes (m.o : Int) then 4 else if (m.o : Int) < (m.t : Int) then 6 else if tubeAt k.tubes (m.t : Int) 6 = 1 then (if tubeAt k.tubes (m.t : Int) 3 < (m.v : Int) then 8 else misI k (m.o : Int) m.ints) else 7) = _
    cases h : (L.tube m.t).isSome with
    | false => rw [if_pos (.inl (hS.f_none hI h))]; rfl
    | true =>
      cases ho : (L.tube m.o).isSome with
      | true => rw [if_pos (.inr (hS.f_some hI ho).1)]; rfl
      | false =>
        have h1 := (hS.f_some hI h).1
        have h2 := hS.f_none hI ho
        have hne : m.o ≠ m.t := fun e => by rw [e, h] at ho; cases ho
        rw [if_neg (by omega), (hS.f_some hI h).2]
        show (if (m.o : Int) < (m.t : Int) then 6 else if ((L.tubeD m.t).status : Int) = 1 then (if ((L.tubeD m.t).left : Int) < (m.v : Int) then 8 else misI k (m.o : Int) m.ints) else 7) = _
        by_cases h3 : m.o ≤ m.t
        · rw [if_pos (by omega), decide_eq_true h3]; rfl
        · rw [if_neg (by omega), decide_eq_false h3]
          by_cases hs : ((L.tubeD m.t).status : Int) = 1
          · rw [if_pos hs, hs]
            by_cases h4 : (L.tubeD m.t).left < m.v
            · rw [if_pos (by omega), decide_eq_true h4]; rfl
            · rw [if_neg (by omega), decide_eq_false h4, hS.mis hI hm (hm.b1 (by omega)) (.inr ⟨by omega, fun q hq => by rw [hq] at ho; cases ho⟩)]
              unfold Led.badPl
              rw [e]; rfl
          · have : (((L.tubeD m.t).status : Int) != 1) = true := by rw [bne_iff_ne]; exact hs
            rw [if_neg hs, this]; rfl
  · rw [e]
    show errPou k m.ints = askAll 0 ([(6, decide (m.o ≤ m.t)), (8, decide ((L.tubeD m.t).left < m.v)), (7, ((L.tubeD m.t).status : Int) != 1), (4, !(L.tube m.t).isSome), (8, decide (1000000 < ((L.tubeD m.o).left : Int) + m.v)), (8, decide (1000000 < (L.pouredN m.t m.o : Int) + m.v)), (7, ((L.tubeD m.o).status : Int) != 1), (4, !(L.tube m.o).isSome)] : Asks)
    rw [ask_pou]
    unfold errPou
    show (if findI k.tubes (m.t : Int) < 0 ∨ findI k.tubes (m.o : Int) < 0 then 4 else if (m.o : Int) ≤ (m.t : Int) then 6 else if tubeAt k.tubes (m.t : Int) 6 = 1 ∧ tubeAt k.tubes (m.o : Int) 6 = 1 then (if tubeAt k.tubes (m.t : Int) 3 < (m.v : Int) ∨ 1000000 < tubeAt k.tubes (m.o : Int) 3 + (m.v : Int) ∨ 1000000 < pouredAt k.poured (m.t : Int) (m.o : Int) + (m.v : Int) then 8 else 0) else 7) = _
    cases h : (L.tube m.t).isSome with
    | false => rw [if_pos (.inl (hS.f_none hI h))]; rfl
    | true =>
      cases ho : (L.tube m.o).isSome with
      | false => rw [if_pos (.inr (hS.f_none hI ho))]; rfl
      | true =>
        have h1 := (hS.f_some hI h).1
        have h2 := (hS.f_some hI ho).1
        rw [if_neg (by omega), (hS.f_some hI h).2, (hS.f_some hI ho).2, hS.poured_at hI.ok]
        show (if (m.o : Int) ≤ (m.t : Int) then 6 else if ((L.tubeD m.t).status : Int) = 1 ∧ ((L.tubeD m.o).status : Int) = 1 then (if ((L.tubeD m.t).left : Int) < (m.v : Int) ∨ 1000000 < ((L.tubeD m.o).left : Int) + (m.v : Int) ∨ 1000000 < (L.pouredN m.t m.o : Int) + (m.v : Int) then 8 else 0) else 7) = _
        by_cases h3 : m.o ≤ m.t
        · rw [if_pos (by omega), decide_eq_true h3]; rfl
        · rw [if_neg (by omega), decide_eq_false h3]
          by_cases hs : ((L.tubeD m.t).status : Int) = 1 ∧ ((L.tubeD m.o).status : Int) = 1
          · rw [if_pos hs, hs.1, hs.2]
            by_cases h4 : ((L.tubeD m.t).left : Int) < (m.v : Int) ∨ 1000000 < ((L.tubeD m.o).left : Int) + (m.v : Int) ∨ 1000000 < (L.pouredN m.t m.o : Int) + (m.v : Int)
            · have : (decide ((L.tubeD m.t).left < m.v) || decide (1000000 < ((L.tubeD m.o).left : Int) + m.v) || decide (1000000 < (L.pouredN m.t m.o : Int) + m.v)) = true := by
                simp only [Bool.or_eq_true, decide_eq_true_eq]; omega
              rw [if_pos h4, this]; rfl
            · have : (decide ((L.tubeD m.t).left < m.v) || decide (1000000 < ((L.tubeD m.o).left : Int) + m.v) || decide (1000000 < (L.pouredN m.t m.o : Int) + m.v)) = false := by
                simp only [Bool.or_eq_false_iff, decide_eq_false_iff_not]; omega
              rw [if_neg h4, this]; rfl
          · have : ((((L.tubeD m.t).status : Int) != 1) || (((L.tubeD m.o).status : Int) != 1)) = true := by
              rw [Bool.or_eq_true, bne_iff_ne, bne_iff_ne]; omega
            rw [if_neg hs, this]; rfl
  · rw [e]
    show errUse k m.ints = askAll 0 ([(8, decide ((L.tubeD m.t).left < m.v) || decide (1000000 < ((L.tubeD m.t).used : Int) + m.v)), (7, ((L.tubeD m.t).status : Int) == 3), (4, !(L.tube m.t).isSome)] : Asks)
    rw [ask_use]
    unfold errUse
    show (if findI k.tubes (m.t : Int) < 0 then 4 else if tubeAt k.tubes (m.t : Int) 6 = 3 then 7 else if tubeAt k.tubes (m.t : Int) 3 < (m.v : Int) ∨ 1000000 < tubeAt k.tubes (m.t : Int) 4 + (m.v : Int) then 8 else 0) = _
    cases h : (L.tube m.t).isSome with
    | false => rw [if_pos (hS.f_none hI h)]; rfl
    | true =>
      rw [if_neg (by have := (hS.f_some hI h).1; omega), (hS.f_some hI h).2]
      show (if ((L.tubeD m.t).status : Int) = 3 then 7 else if ((L.tubeD m.t).left : Int) < (m.v : Int) ∨ 1000000 < ((L.tubeD m.t).used : Int) + (m.v : Int) then 8 else 0) = _
      by_cases hs : ((L.tubeD m.t).status : Int) = 3
      · rw [if_pos hs, hs]; rfl
      · have h3 : (((L.tubeD m.t).status : Int) == 3) = false := beq_eq_false_iff_ne.2 hs
        rw [if_neg hs, h3]
        by_cases h4 : ((L.tubeD m.t).left : Int) < (m.v : Int) ∨ 1000000 < ((L.tubeD m.t).used : Int) + (m.v : Int)
        · have : (decide ((L.tubeD m.t).left < m.v) || decide (1000000 < ((L.tubeD m.t).used : Int) + m.v)) = true := by
            simp only [Bool.or_eq_true, decide_eq_true_eq]; omega
          rw [if_pos h4, this]; rfl
        · have : (decide ((L.tubeD m.t).left < m.v) || decide (1000000 < ((L.tubeD m.t).used : Int) + m.v)) = false := by
            simp only [Bool.or_eq_false_iff, decide_eq_false_iff_not]; omega
          rw [if_neg h4, this]; rfl
  · rw [e]
    show errTak k m.ints = askAll 0 ([(7, ((L.tubeD m.t).status : Int) != 1), (4, !(L.tube m.t).isSome)] : Asks)
    rw [ask_tak]
    unfold errTak
    show (if findI k.tubes (m.t : Int) < 0 then 4 else if tubeAt k.tubes (m.t : Int) 6 = 1 then 0 else 7) = _
    cases h : (L.tube m.t).isSome with
    | false => rw [if_pos (hS.f_none hI h)]; rfl
    | true =>
      rw [if_neg (by have := (hS.f_some hI h).1; omega), (hS.f_some hI h).2]
      show (if ((L.tubeD m.t).status : Int) = 1 then 0 else 7) = _
      by_cases hs : ((L.tubeD m.t).status : Int) = 1
      · rw [if_pos hs, hs]; rfl
      · have : (((L.tubeD m.t).status : Int) != 1) = true := by rw [bne_iff_ne]; exact hs
        rw [if_neg hs, this]; rfl
  · rw [e]
    show errMov k m.ints 2 = askAll 0 ([(7, ((L.tubeD m.t).status : Int) != 2), (4, !(L.tube m.t).isSome), (10, _), (9, (L.sideN m.b : Int) == 0)] : Asks)
    rw [ask_mov]
    unfold errMov
    show (if findI k.tubes (m.t : Int) < 0 then 4 else if tubeAt k.tubes (m.t : Int) 6 = 2 then misI k (m.t : Int) m.ints else 7) = _
    cases h : (L.tube m.t).isSome with
    | false => rw [if_pos (hS.f_none hI h)]; rfl
    | true =>
      rw [if_neg (by have := (hS.f_some hI h).1; omega), (hS.f_some hI h).2]
      show (if ((L.tubeD m.t).status : Int) = 2 then misI k (m.t : Int) m.ints else 7) = _
      by_cases hs : ((L.tubeD m.t).status : Int) = 2
      · rw [if_pos hs, hS.mis hI hm (hm.b1 (by omega)) (.inr ⟨by omega, fun q hq => by
          have hd := Led.tubeD_some hq
          have := hI.box _ ((Led.tube_mem hI.ok).1 hq)
          rw [hd] at hs
          simp only at this
          omega⟩), hs]
        unfold Led.badPl
        rw [e]; rfl
      · have : (((L.tubeD m.t).status : Int) != 2) = true := by rw [bne_iff_ne]; exact hs
        rw [if_neg hs, this]; rfl
  · rw [e]
    show errDon k m.ints = askAll 0 ([(5, ((ofN m.d L.ts).length : Int) == 0)] : Asks)
    rw [ask_one]
    unfold errDon
    show (if givesB k.tubes (m.d : Int) then 0 else 5) = _
    rw [hS.gives]
    by_cases h : (ofN m.d L.ts).length = 0
    · rw [h]; rfl
    · have h1 : ((ofN m.d L.ts).length == 0) = false := beq_eq_false_iff_ne.2 h
      have h2 : (((ofN m.d L.ts).length : Int) == 0) = false := beq_eq_false_iff_ne.2 (by omega)
      rw [h1, h2]; rfl
  · rw [e]
    show errBox k m.ints = askAll 0 ([(9, (L.sideN m.b : Int) == 0)] : Asks)
    rw [ask_one]
    unfold errBox
    rw [h5]
    by_cases h : (L.sideN m.b : Int) = 0
    · rw [if_pos h, h]; rfl
    · have h2 : ((L.sideN m.b : Int) == 0) = false := beq_eq_false_iff_ne.2 h
      rw [if_neg h, h2]; rfl
  · rw [e]
    show errBox k m.ints = askAll 0 ([(9, (L.sideN m.b : Int) == 0)] : Asks)
    rw [ask_one]
    unfold errBox
    rw [h5]
    by_cases h : (L.sideN m.b : Int) = 0
    · rw [if_pos h, h]; rfl
    · have h2 : ((L.sideN m.b : Int) == 0) = false := beq_eq_false_iff_ne.2 h
      rw [if_neg h, h2]; rfl
  · rw [e]
    show errTub k m.ints = askAll 0 ([(4, !(L.tube m.t).isSome)] : Asks)
    rw [ask_one]
    unfold errTub
    show (if findI k.tubes (m.t : Int) < 0 then 4 else 0) = _
    cases h : (L.tube m.t).isSome with
    | false => rw [if_pos (hS.f_none hI h)]; rfl
    | true => rw [if_neg (by have := (hS.f_some hI h).1; omega)]; rfl
  · rw [e]
    show errBox k m.ints = askAll 0 ([(9, (L.sideN m.b : Int) == 0)] : Asks)
    rw [ask_one]
    unfold errBox
    rw [h5]
    by_cases h : (L.sideN m.b : Int) = 0
    · rw [if_pos h, h]; rfl
    · have h2 : ((L.sideN m.b : Int) == 0) = false := beq_eq_false_iff_ne.2 h
      rw [if_neg h, h2]; rfl
  · rw [e]
    show errDon k m.ints = askAll 0 ([(5, ((ofN m.d L.ts).length : Int) == 0)] : Asks)
    rw [ask_one]
    unfold errDon
    show (if givesB k.tubes (m.d : Int) then 0 else 5) = _
    rw [hS.gives]
    by_cases h : (ofN m.d L.ts).length = 0
    · rw [h]; rfl
    · have h1 : ((ofN m.d L.ts).length == 0) = false := beq_eq_false_iff_ne.2 h
      have h2 : (((ofN m.d L.ts).length : Int) == 0) = false := beq_eq_false_iff_ne.2 (by omega)
      rw [h1, h2]; rfl
  · rw [e]
    show errTub k m.ints = askAll 0 ([(4, !(L.tube m.t).isSome)] : Asks)
    rw [ask_one]
    unfold errTub
    show (if findI k.tubes (m.t : Int) < 0 then 4 else 0) = _
    cases h : (L.tube m.t).isSome with
    | false => rw [if_pos (hS.f_none hI h)]; rfl
    | true => rw [if_neg (by have := (hS.f_some hI h).1; omega)]; rfl
  · rw [e]
    show errTub k m.ints = askAll 0 ([(4, !(L.tube m.t).isSome)] : Asks)
    rw [ask_one]
    unfold errTub
    show (if findI k.tubes (m.t : Int) < 0 then 4 else 0) = _
    cases h : (L.tube m.t).isSome with
    | false => rw [if_pos (hS.f_none hI h)]; rfl
    | true => rw [if_neg (by have := (hS.f_some hI h).1; omega)]; rfl

end Go.Proofs.YtbpnllhhmookcaaGreatDoor

/- What commands do to a ledger and to books: boxes, tubes, what was poured. -/
namespace Go.Proofs.YtbpnllhhmookcaaGreatDoor
open Go.RowKit
variable {L : Led} {k : Bk} {m : Cm}

theorem tF_upd3 (n : Nat) (q : PT) (v : Nat) (z : Int) (hz : z = v) : upd (tF (n, q)) 3 z = tF (n, { q with left := v }) := by
  subst hz; funext i; unfold upd
  match i with
  | 0 => rfl
  | 1 => rfl
  | 2 => rfl
  | 3 => rfl
  | 4 => rfl
  | 5 => rfl
  | 6 => rfl
  | 7 => rfl
  | 8 => rfl
  | 9 => rfl
  | 10 => rfl
  | i + 11 => rfl

/-- A sorted list around one of its own. -/
theorem ins_mid (l : List TN) (hl : l.Pairwise fun a b => a.1 < b.1) {i : Nat} (hi : i < l.length) {n : Nat} (e : l[i].1 = n) (q' : PT) : insT l n q' = l.set i (n, q') := by
  have hs : l = l.take i ++ l[i] :: l.drop (i + 1) := by rw [List.getElem_cons_drop, List.take_append_drop]
  rw [List.set_eq_take_append_cons_drop, if_pos hi]
  have h1 : ∀ x ∈ l.take i, x.1 < n := by
    intro x hx
    obtain ⟨j, hj, rfl⟩ := List.getElem_of_mem hx
    rw [List.length_take] at hj
    rw [List.getElem_take, ← e]
    exact List.pairwise_iff_getElem.1 hl j i (by omega) hi (by omega)
  have h2 : ∀ x ∈ l.drop (i + 1), n < x.1 := by
    intro x hx
    obtain ⟨j, hj, rfl⟩ := List.getElem_of_mem hx
    rw [List.length_drop] at hj
    rw [List.getElem_drop, ← e]
    exact List.pairwise_iff_getElem.1 hl i (i + 1 + j) hi (by omega) (by omega)
  have f1 : l.filter (fun x => decide (x.1 < n)) = l.take i := by
    conv => lhs; rw [hs]
    rw [List.filter_append, List.filter_cons_of_neg (by rw [e]; simp), filt_all (fun x hx => decide_eq_true (h1 x hx)), filt_no (fun x hx => decide_eq_false (by have := h2 x hx; omega)), List.append_nil]
  have f2 : l.filter (fun x => decide (n < x.1)) = l.drop (i + 1) := by
    conv => lhs; rw [hs]
    rw [List.filter_append, List.filter_cons_of_neg (by rw [e]; simp), filt_no (fun x hx => decide_eq_false (by have := h1 x hx; omega)), filt_all (fun x hx => decide_eq_true (h2 x hx)), List.nil_append]
  unfold insT
  rw [f1, f2]

theorem add_ins (l : List TN) (n : Nat) (q : PT) : (l.Pairwise fun a b => a.1 < b.1) → (∀ x ∈ l, x.1 ≠ n) → addT (l.map tF) (tF (n, q)) = (insT l n q).map tF := by
  induction l with
  | nil => intro _ _; rfl
  | cons a l ih =>
    intro hl hne
    obtain ⟨ha, hl'⟩ := List.pairwise_cons.1 hl
    have ih := ih hl' (fun x hx => hne x (List.mem_cons_of_mem _ hx))
    have hna := hne a (List.mem_cons_self ..)
    have e0 : tF (n, q) 0 = (n : Int) := rfl
    by_cases h : a.1 < n
    · have e1 : insT (a :: l) n q = a :: insT l n q := by
        unfold insT
        rw [List.filter_cons_of_pos (by simpa using h), List.filter_cons_of_neg (by simp; omega)]
        rfl
      rw [e1, List.map_cons, List.map_cons, ← ih]
      unfold addT insAt
      rw [e0, List.findIdx_cons]
      have : (!decide (tF a 0 < (n : Int))) = false := by
        rw [Bool.not_eq_false', decide_eq_true_eq]; show (a.1 : Int) < n; omega
      rw [this]
      simp
    · have hall : ∀ x ∈ a :: l, n < x.1 := by
        intro x hx
        rcases List.mem_cons.1 hx with rfl | hx
        · omega
        · have := ha x hx; omega
      have e1 : insT (a :: l) n q = (n, q) :: a :: l := by
        unfold insT
        rw [filt_no (fun x hx => decide_eq_false (by have := hall x hx; omega)), filt_all (fun x hx => decide_eq_true (hall x hx))]
        rfl
      rw [e1, List.map_cons, List.map_cons]
      unfold addT insAt
      rw [e0, List.findIdx_cons]
      have : (!decide (tF a 0 < (n : Int))) = true := by
        rw [Bool.not_eq_true', decide_eq_false_iff_not]; show ¬ (a.1 : Int) < n; omega
      rw [this]
      simp

theorem Sim.put (hS : Sim L k) (hO : L.Ok) {i n : Nat} (hi : i < L.ts.length) (e : L.ts[i].1 = n) (q' : PT) : Sim (L.putT n q') (k.withTubes (k.tubes.set i (tF (n, q')))) := by
  refine ⟨hS.sides, ?_, hS.poured⟩
  show k.tubes.set i (tF (n, q')) = (insT L.ts n q').map tF
  rw [ins_mid L.ts hO.ts hi e q', hS.tubes, List.map_set]
theorem Sim.add (hS : Sim L k) (hO : L.Ok) {n : Nat} (h : L.tube n = .none) (q : PT) : Sim (L.putT n q) (k.withTubes (addT k.tubes (tF (n, q)))) := by
  refine ⟨hS.sides, ?_, hS.poured⟩
  show addT k.tubes (tF (n, q)) = (insT L.ts n q).map tF
  rw [hS.tubes]
  refine add_ins L.ts n q hO.ts (fun x hx ex => ?_)
  have : L.tube n = some x.2 := (Led.tube_mem hO).2 (by rw [← ex]; exact hx)
  rw [h] at this; cases this
theorem Sim.newBox (hS : Sim L k) {b s : Nat} : Sim { L with bs := insB L.bs b s } { k with sides := upd k.sides b s } := by
  refine ⟨fun c hc => ?_, hS.tubes, hS.poured⟩
  show upd k.sides b s c = ((({ L with bs := insB L.bs b s } : Led).box c).getD 0 : Nat)
  rw [Led.box_insB]
  unfold upd
  by_cases h : c = b
  · rw [if_pos h, if_pos h]; rfl
  · rw [if_neg h, if_neg h]; exact hS.sides c hc

end Go.Proofs.YtbpnllhhmookcaaGreatDoor

/- Pouring, of a ledger and of books. -/
namespace Go.Proofs.YtbpnllhhmookcaaGreatDoor
open Go.RowKit
variable {L : Led} {k : Bk} {m : Cm}

def ltP (a b : Nat) (x : PN) : Bool := decide (x.1 < a ∨ (x.1 = a ∧ x.2.1 < b))
def gtP (a b : Nat) (x : PN) : Bool := decide (a < x.1 ∨ (a = x.1 ∧ b < x.2.1))
theorem ps_mid (a b v : Nat) : ∀ l : List PN, (l.Pairwise fun a b => a.1 < b.1 ∨ (a.1 = b.1 ∧ a.2.1 < b.2.1)) → (a, b, v) ∈ l → l.Perm ((a, b, v) :: (l.filter (ltP a b) ++ l.filter (gtP a b)))
  | [], _, h => by cases h
  | c :: l, hl, h => by
    obtain ⟨hc, hl'⟩ := List.pairwise_cons.1 hl
    by_cases e : c = (a, b, v)
    · subst e
      have h1 : ∀ x ∈ l, ltP a b x = false := fun x hx => decide_eq_false (by have := hc x hx; simp only at this; omega)
      have h2 : ∀ x ∈ l, gtP a b x = true := fun x hx => decide_eq_true (by have := hc x hx; simp only at this; omega)
      rw [List.filter_cons_of_neg (by simp [ltP]), List.filter_cons_of_neg (by simp [gtP]), filt_no h1, filt_all h2]
      exact List.Perm.refl _
    · have hm : (a, b, v) ∈ l := by
        rcases List.mem_cons.1 h with h | h
        · exact absurd h.symm e
        · exact h
      have hlt := hc _ hm
      simp only at hlt
      rw [List.filter_cons_of_pos (by simp only [ltP, decide_eq_true_eq]; exact hlt), List.filter_cons_of_neg (by simp only [gtP, decide_eq_true_eq]; omega)]
      exact ((ps_mid a b v l hl' hm).cons c).trans (List.Perm.swap _ _ _)
theorem ps_out (a b : Nat) : ∀ l : List PN, (∀ x ∈ l, ¬ (x.1 = a ∧ x.2.1 = b)) → l.Perm (l.filter (ltP a b) ++ l.filter (gtP a b))
  | [], _ => List.Perm.refl _
  | c :: l, h => by
    have ih := ps_out a b l (fun x hx => h x (List.mem_cons_of_mem _ hx))
    have hc := h c (List.mem_cons_self ..)
    by_cases hlt : ltP a b c = true
    · have hg : ¬ gtP a b c = true := by simp only [ltP, gtP, decide_eq_true_eq] at hlt ⊢; omega
      rw [List.filter_cons_of_pos hlt, List.filter_cons_of_neg hg]
      exact ih.cons c
    · have hg : gtP a b c = true := by simp only [ltP, gtP, decide_eq_true_eq] at hlt ⊢; omega
      rw [List.filter_cons_of_neg hlt, List.filter_cons_of_pos hg]
      exact (ih.cons c).trans List.perm_middle.symm
theorem insP_perm (l : List PN) (a b v : Nat) : (insP l a b v).Perm ((a, b, v) :: (l.filter (ltP a b) ++ l.filter (gtP a b))) := List.perm_middle

theorem pair_none (hS : Sim L k) (hO : L.Ok) {a b : Nat} (h : L.pour a b = .none) : pairI k.poured a b = -1 := by
  unfold pairI
  have hno : ∀ x ∈ k.poured, (x 0 == (a : Int) && x 1 == (b : Int)) = false := by
    intro x hx
    obtain ⟨p, hpm, rfl⟩ := hS.of_poured hx
    rw [Bool.eq_false_iff]
    intro h2
    simp only [Bool.and_eq_true, beq_iff_eq] at h2
    have e1 : (p.1 : Int) = a := h2.1
    have e2 : (p.2.1 : Int) = b := h2.2
    have : (a, b, p.2.2) ∈ L.ps := by
      have e3 : p = (a, b, p.2.2) := Prod.ext (by omega) (Prod.ext (by show p.2.1 = b; omega) rfl)
      rw [← e3]; exact hpm
    rw [(Led.pour_mem hO).2 this] at h
    cases h
  have e : k.poured.findIdx (fun p => p 0 == (a : Int) && p 1 == (b : Int)) = k.poured.length := List.findIdx_eq_length.2 hno
  rw [e, if_neg (Nat.lt_irrefl _)]
theorem pair_some (hS : Sim L k) (hO : L.Ok) {a b v : Nat} (h : L.pour a b = some v) : ∃ i, ∃ hi : i < k.poured.length, pairI k.poured a b = (i : Nat) ∧ k.poured[i] = pF (a, b, v) := by
  have hm := (Led.pour_mem hO).1 h
  have hx := hS.mem_poured.2 hm
  have hlt : k.poured.findIdx (fun p => p 0 == (a : Int) && p 1 == (b : Int)) < k.poured.length := List.findIdx_lt_length_of_exists ⟨_, hx, by simp [pF, mkP]⟩
  refine ⟨_, hlt, by unfold pairI; rw [if_pos hlt], ?_⟩
  have hsat := List.findIdx_getElem (w := hlt)
  simp only [Bool.and_eq_true, beq_iff_eq] at hsat
  obtain ⟨p, hpm, hpe⟩ := hS.of_poured (List.getElem_mem hlt)
  rw [← hpe] at hsat ⊢
  have e1 : (p.1 : Int) = a := hsat.1
  have e2 : (p.2.1 : Int) = b := hsat.2
  have e3 : p = (a, b, p.2.2) := Prod.ext (by omega) (Prod.ext (by show p.2.1 = b; omega) rfl)
  rw [e3] at hpm
  have := (Led.pour_mem hO).2 hpm
  rw [h] at this
  injection this with this
  rw [e3, ← this]

theorem pF_upd (a b v : Nat) (z : Int) (w : Nat) (hz : z = w) : upd (pF (a, b, v)) 2 z = pF (a, b, w) := by
  subst hz; funext i; unfold upd pF mkP
  match i with
  | 0 => rfl
  | 1 => rfl
  | 2 => rfl
  | i + 3 => simp

/-- What was poured, behind one more pouring. -/
theorem Sim.pourPs (hS : Sim L k) (hO : L.Ok) (a b v : Nat) : (pourP k.poured a b v).Perm ((insP L.ps a b (L.pouredN a b + v)).map pF) := by
  have hins := (insP_perm L.ps a b (L.pouredN a b + v)).map pF
  refine List.Perm.trans ?_ hins.symm
  unfold pourP
  cases hp : L.pour a b with
  | none =>
    rw [pair_none hS hO hp, if_pos (by omega)]
    have h0 : L.pouredN a b = 0 := by unfold Led.pouredN; rw [hp]; rfl
    rw [h0, Nat.zero_add, List.map_cons]
    have hno : ∀ x ∈ L.ps, ¬ (x.1 = a ∧ x.2.1 = b) := by
      rintro x hx ⟨e1, e2⟩
      have e3 : x = (a, b, x.2.2) := Prod.ext e1 (Prod.ext e2 rfl)
      rw [e3] at hx
      rw [(Led.pour_mem hO).2 hx] at hp
      cases hp
    refine (List.perm_append_singleton _ _).trans ?_
    exact (hS.poured.trans ((ps_out a b L.ps hno).map pF)).cons _
  | some v0 =>
    obtain ⟨i, hi, hf, hx⟩ := pair_some hS hO hp
    rw [hf, if_neg (by omega)]
    have h0 : L.pouredN a b = v0 := by unfold Led.pouredN; rw [hp]; rfl
    rw [h0]
    unfold setT
    simp only [Int.toNat_natCast]
    rw [getD_T hi, hx, pF_upd a b v0 _ (v0 + v) (by show (v0 : Int) + v = _; omega)]
    rw [List.set_eq_take_append_cons_drop, if_pos hi, List.map_cons]
    refine List.perm_middle.trans (List.Perm.cons _ ?_)
    have h1 : (pF (a, b, v0) :: (k.poured.take i ++ k.poured.drop (i + 1))).Perm k.poured := by
      rw [← hx]
      refine List.perm_middle.symm.trans ?_
      rw [List.getElem_cons_drop, List.take_append_drop]
    have h2 := (ps_mid a b v0 L.ps hO.ps ((Led.pour_mem hO).1 hp)).map pF
    rw [List.map_cons] at h2
    exact ((h1.trans hS.poured).trans h2).cons_inv

end Go.Proofs.YtbpnllhhmookcaaGreatDoor

/- Pouring, of a ledger and of books: the tubes too. -/
namespace Go.Proofs.YtbpnllhhmookcaaGreatDoor
open Go.RowKit
variable {L : Led} {k : Bk} {m : Cm}

theorem set3_at (hS : Sim L k) {i : Nat} (hi : i < L.ts.length) {n : Nat} {q : PT} (e : L.ts[i] = (n, q)) (z : Int) (v : Nat) (hz : z = v) : setT k.tubes i 3 z = k.tubes.set i (tF (n, { q with left := v })) := by
  unfold setT
  have hi' : i < k.tubes.length := by rw [hS.tubes, List.length_map]; exact hi
  rw [getD_T hi']
  have : k.tubes[i] = tF (n, q) := by
    have h1 : k.tubes[i] = (L.ts.map tF)[i]'(by rw [List.length_map]; exact hi) := by congr 1; exact hS.tubes
    rw [h1, List.getElem_map, e]
  rw [this, tF_upd3 n q v z hz]
theorem Sim.at (hS : Sim L k) {i : Nat} (hi : i < L.ts.length) : k.tubes.getD i zeroT = tF L.ts[i] := by
  rw [hS.tubes, getD_T (by rw [List.length_map]; exact hi), List.getElem_map]

theorem Sim.pourT (hS : Sim L k) (hO : L.Ok) {qt qo : PT} (ht : L.tube m.t = some qt) (ho : L.tube m.o = some qo) (hne : m.t ≠ m.o) (hv : m.v ≤ qt.left) (hv2 : qo.left + m.v ≤ 1000000)
    {i j : Nat} (hi : i < L.ts.length) (hj : j < L.ts.length) (ei : L.ts[i] = (m.t, qt)) (ej : L.ts[j] = (m.o, qo)) :
    Sim (L.pourL m) ((k.withTubes (Go.Proofs.YtbpnllhhmookcaaGreatDoor.pourT k.tubes i j m.v)).withPoured (pourP k.poured m.t m.o m.v)) := by
  have hgt := hO.t1 _ ((Led.tube_mem hO).1 ht)
  have hgo := hO.t1 _ ((Led.tube_mem hO).1 ho)
  have hij : i ≠ j := fun e => hne (by subst e; rw [ei] at ej; exact congrArg Prod.fst ej)
  have hD : L.tubeD m.t = qt := Led.tubeD_some ht
  have hGt : (qt.less m.v).Good := ⟨hgt.2.2.x, hgt.2.2.y, hgt.2.2.box, hgt.2.2.donor, hgt.2.2.status, hgt.2.2.thaws, hgt.2.2.began, by have hl : qt.left ≤ 1000000 := hgt.2.2.left; show qt.left - m.v ≤ _; omega, hgt.2.2.used, hgt.2.2.lost⟩
  -- the first
  have h1 := hS.put hO hi (show L.ts[i].1 = m.t by rw [ei]) (qt.less m.v)
  have e1 : setT k.tubes i 3 (k.tubes.getD i zeroT 3 - m.v) = k.tubes.set i (tF (m.t, qt.less m.v)) := by
    refine set3_at hS hi ei _ (qt.left - m.v) ?_
    rw [hS.at hi, ei]
    show (qt.left : Int) - m.v = _
    omega
  have hO1 : (L.putT m.t (qt.less m.v)).Ok := hO.insT ⟨hgt.1, hgt.2.1⟩ hGt
  have hts : (L.putT m.t (qt.less m.v)).ts = L.ts.set i (m.t, qt.less m.v) := ins_mid L.ts hO.ts hi (by rw [ei]) _
  have hj1 : j < (L.putT m.t (qt.less m.v)).ts.length := by rw [hts, List.length_set]; exact hj
  have ej1 : (L.putT m.t (qt.less m.v)).ts[j] = (m.o, qo) := by
    have : (L.putT m.t (qt.less m.v)).ts[j] = (L.ts.set i (m.t, qt.less m.v))[j]'(by rw [List.length_set]; exact hj) := by congr 1
    rw [this, List.getElem_set_ne hij, ej]
  have hD1 : (L.putT m.t (qt.less m.v)).tubeD m.o = qo := by
    unfold Led.tubeD
    have : (L.putT m.t (qt.less m.v)).tube m.o = some qo := by
      show ({ L with ts := insT L.ts m.t (qt.less m.v) } : Led).tube m.o = _
      rw [Led.tube_insT, if_neg (fun e => hne e.symm), ho]
    rw [this]; rfl
  -- the second
  have h2 := h1.put hO1 hj1 (show (L.putT m.t (qt.less m.v)).ts[j].1 = m.o by rw [ej1]) (qo.more m.v)
  have e2 : setT (k.withTubes (k.tubes.set i (tF (m.t, qt.less m.v)))).tubes j 3 ((k.withTubes (k.tubes.set i (tF (m.t, qt.less m.v)))).tubes.getD j zeroT 3 + m.v) = (k.withTubes (k.tubes.set i (tF (m.t, qt.less m.v)))).tubes.set j (tF (m.o, qo.more m.v)) := by
    refine set3_at h1 hj1 ej1 _ (qo.left + m.v) ?_
    rw [h1.at hj1, ej1]
    show (qo.left : Int) + m.v = _
    omega
  have hGo : (qo.more m.v).Good := ⟨hgo.2.2.x, hgo.2.2.y, hgo.2.2.box, hgo.2.2.donor, hgo.2.2.status, hgo.2.2.thaws, hgo.2.2.began, by show qo.left + m.v ≤ _; omega, hgo.2.2.used, hgo.2.2.lost⟩
  have hO2 : ((L.putT m.t (qt.less m.v)).putT m.o (qo.more m.v)).Ok := hO1.insT ⟨hgo.1, hgo.2.1⟩ hGo
  have h3 := h2.pourPs hO2 m.t m.o m.v
  have eL : L.pourL m = { (L.putT m.t (qt.less m.v)).putT m.o (qo.more m.v) with ps := insP ((L.putT m.t (qt.less m.v)).putT m.o (qo.more m.v)).ps m.t m.o (((L.putT m.t (qt.less m.v)).putT m.o (qo.more m.v)).pouredN m.t m.o + m.v) } := by
    unfold Led.pourL
    rw [hD]
    simp only [hD1]
  rw [eL]
  refine ⟨h2.sides, ?_, h3⟩
  show Go.Proofs.YtbpnllhhmookcaaGreatDoor.pourT k.tubes i j m.v = _
  unfold Go.Proofs.YtbpnllhhmookcaaGreatDoor.pourT
  rw [e1]
  exact e2.trans h2.tubes

theorem Sim.wired (hS : Sim L k) (hI : L.Inv) : Wired k := by
  intro x hx
  obtain ⟨p, hp, rfl⟩ := hS.of_poured hx
  obtain ⟨h1, h2⟩ := hI.wired p hp
  obtain ⟨q1, e1, _⟩ := Led.tube_of h1
  obtain ⟨q2, e2, _⟩ := Led.tube_of h2
  rw [hS.tubes]
  exact ⟨⟨_, List.mem_map.2 ⟨_, (Led.tube_mem hI.ok).1 e1, rfl⟩, rfl⟩, ⟨_, List.mem_map.2 ⟨_, (Led.tube_mem hI.ok).1 e2, rfl⟩, rfl⟩⟩

end Go.Proofs.YtbpnllhhmookcaaGreatDoor

/- What can be reached, by the ledger's one pass and by the books' search. -/
namespace Go.Proofs.YtbpnllhhmookcaaGreatDoor
open Go.RowKit
variable {L : Led} {k : Bk} {m : Cm}

def EN (ps : List PN) (a b : Nat) : Prop := ∃ v, (a, b, v) ∈ ps
theorem Rch.mono {E E' : Nat → Nat → Prop} {M M' : Nat → Prop} {j : Nat} (h : Rch E M j) (hE : ∀ a b, E a b → E' a b) (hM : ∀ a, M a → M' a) : Rch E' M' j := by
  induction h with
  | one h1 h2 => exact .one (hM _ h1) (hE _ _ h2)
  | more _ h2 ih => exact .more ih (hE _ _ h2)
theorem Rch.behind {E E' : Nat → Nat → Prop} {M : Nat → Prop} {y j : Nat} (h : Rch E (fun x => x = y) j) (hE : ∀ a b, E a b → E' a b) (hy : Rch E' M y) : Rch E' M j := by
  induction h with
  | one h1 h2 => subst h1; exact .more hy (hE _ _ h2)
  | more _ h2 ih => exact .more ih (hE _ _ h2)
theorem Rch.from {E : Nat → Nat → Prop} {M : Nat → Prop} {j : Nat} (h : Rch E M j) : ∃ y, M y ∧ Rch E (fun x => x = y) j := by
  induction h with
  | one h1 h2 => exact ⟨_, h1, .one rfl h2⟩
  | more _ h2 ih => obtain ⟨y, hy, h3⟩ := ih; exact ⟨y, hy, .more h3 h2⟩

theorem down_step : ∀ (ps : List PN), (ps.Pairwise fun a b => a.1 < b.1 ∨ (a.1 = b.1 ∧ a.2.1 < b.2.1)) → (∀ p ∈ ps, p.1 < p.2.1) → ∀ (c a b v : Nat), (a, b, v) ∈ ps → downS (single c) ps a = true → downS (single c) ps b = true
  | [], _, _, _, _, _, _, h, _ => by cases h
  | p :: ps, hs, hlt, c, a, b, v, hm, h => by
    obtain ⟨hp, hs'⟩ := List.pairwise_cons.1 hs
    have hlt' : ∀ q ∈ ps, q.1 < q.2.1 := fun q hq => hlt q (List.mem_cons_of_mem _ hq)
    rw [downS_cons1, Bool.or_eq_true, Bool.and_eq_true, decide_eq_true_eq] at h ⊢
    rcases List.mem_cons.1 hm with e | hm'
    · by_cases hc : c = p.1
      · refine .inr ⟨hc, ?_⟩
        rw [← e]
        exact downS_self ps b
      · rcases h with h | h
        · exfalso
          rcases downS_from ps _ a h with h1 | ⟨q, hq, e2⟩
          · have e3 : a = c := by simpa [single, orL] using h1
            rw [← e] at hc
            exact hc e3.symm
          · have h4 := hp q hq
            have h5 := hlt' q hq
            rw [← e] at h4
            simp only at h4
            omega
        · exact absurd h.1 hc
    · rcases h with h | h
      · exact .inl (down_step ps hs' hlt' c a b v hm' h)
      · exact .inr ⟨h.1, down_step ps hs' hlt' _ a b v hm' h.2⟩
theorem down_sound : ∀ (ps : List PN) (c j : Nat), downS (single c) ps j = true → j = c ∨ Rch (EN ps) (fun x => x = c) j
  | [], c, j, h => .inl (by simpa [downS, single, orL] using h)
  | p :: ps, c, j, h => by
    rw [downS_cons1, Bool.or_eq_true, Bool.and_eq_true, decide_eq_true_eq] at h
    have hE : ∀ a b, EN ps a b → EN (p :: ps) a b := fun a b ⟨v, hv⟩ => ⟨v, List.mem_cons_of_mem _ hv⟩
    rcases h with h | ⟨hc, h⟩
    · rcases down_sound ps c j h with h1 | h1
      · exact .inl h1
      · exact .inr (h1.mono hE (fun _ h => h))
    · have he : EN (p :: ps) p.1 p.2.1 := ⟨p.2.2, List.mem_cons_self ..⟩
      have h1 : Rch (EN (p :: ps)) (fun x => x = c) p.2.1 := .one hc.symm he
      rcases down_sound ps p.2.1 j h with h2 | h2
      · rw [h2]; exact .inr h1
      · exact .inr (h2.behind hE h1)
theorem down_iff (hO : L.Ok) (c j : Nat) : downS (single c) L.ps j = true ↔ j = c ∨ Rch (EN L.ps) (fun x => x = c) j := by
  refine ⟨down_sound L.ps c j, ?_⟩
  rintro (rfl | h)
  · exact downS_self _ _
  · induction h with
    | one h1 h2 => subst h1; obtain ⟨v, hv⟩ := h2; exact down_step L.ps hO.ps (fun p hp => (hO.p1 p hp).2.1) _ _ _ v hv (downS_self _ _)
    | more _ h2 ih => obtain ⟨v, hv⟩ := h2; exact down_step L.ps hO.ps (fun p hp => (hO.p1 p hp).2.1) _ _ _ v hv ih
theorem rch_lt (hO : L.Ok) {c j : Nat} (h : Rch (EN L.ps) (fun x => x = c) j) : c < j := by
  induction h with
  | one h1 h2 => subst h1; obtain ⟨v, hv⟩ := h2; exact (hO.p1 _ hv).2.1
  | more _ h2 ih => obtain ⟨v, hv⟩ := h2; have := (hO.p1 _ hv).2.1; simp only at this; omega

/-- The books' steps, from place to place in the list of tubes. -/
def ED (ps : List PN) (down : Bool) (a b : Nat) : Prop := if down then EN ps a b else EN ps b a
theorem idx_of (hS : Sim L k) (hI : L.Inv) {n : Nat} (h : (L.tube n).isSome = true) : ∃ i, ∃ hi : i < L.ts.length, (L.ts[i]).1 = n ∧ (findI k.tubes n).toNat = i := by
  obtain ⟨q, hq, _⟩ := Led.tube_of h
  obtain ⟨i, hi, e, hf⟩ := hS.find_some hI.ok hq
  exact ⟨i, hi, by rw [e], by rw [hf]; omega⟩
theorem num_inj (hO : L.Ok) {i j : Nat} (hi : i < L.ts.length) (hj : j < L.ts.length) (e : (L.ts[i]).1 = (L.ts[j]).1) : i = j := by
  rcases Nat.lt_trichotomy i j with h | h | h
  · have := ts_lt hO h hj; omega
  · exact h
  · have := ts_lt hO h hi; omega
theorem edge_num (hS : Sim L k) (hI : L.Inv) {down : Bool} {i j : Nat} (h : Edge k down i j) : ∃ hi : i < L.ts.length, ∃ hj : j < L.ts.length, ED L.ps down (L.ts[i]).1 (L.ts[j]).1 := by
  obtain ⟨x, hx, h1, h2⟩ := h
  obtain ⟨p, hp, rfl⟩ := hS.of_poured hx
  obtain ⟨w1, w2⟩ := hI.wired p hp
  obtain ⟨a, ha, ea, fa⟩ := idx_of hS hI w1
  obtain ⟨b, hb, eb, fb⟩ := idx_of hS hI w2
  have e0 : pF p 0 = (p.1 : Int) := rfl
  have e1 : pF p 1 = (p.2.1 : Int) := rfl
  cases down with
  | true =>
    simp only [srcI, dstI, if_true, e0, e1, fa, fb] at h1 h2
    subst h1 h2
    exact ⟨ha, hb, by show EN _ _ _; rw [ea, eb]; exact ⟨p.2.2, hp⟩⟩
  | false =>
    simp only [srcI, dstI, Bool.false_eq_true, if_false, e0, e1, fa, fb] at h1 h2
    subst h1 h2
    exact ⟨hb, ha, by show EN _ _ _; rw [ea, eb]; exact ⟨p.2.2, hp⟩⟩
theorem num_edge (hS : Sim L k) (hI : L.Inv) {down : Bool} {i j : Nat} (hi : i < L.ts.length) (hj : j < L.ts.length) (h : ED L.ps down (L.ts[i]).1 (L.ts[j]).1) : Edge k down i j := by
  cases down with
  | true =>
    obtain ⟨v, hv⟩ := (h : EN L.ps _ _)
    obtain ⟨w1, w2⟩ := hI.wired _ hv
    obtain ⟨a, ha, ea, fa⟩ := idx_of hS hI w1
    obtain ⟨b, hb, eb, fb⟩ := idx_of hS hI w2
    obtain rfl := num_inj hI.ok ha hi ea
    obtain rfl := num_inj hI.ok hb hj eb
    refine ⟨_, hS.mem_poured.2 hv, ?_, ?_⟩
    · show (findI k.tubes (((L.ts[a]).1 : Nat) : Int)).toNat = a; exact fa
    · show (findI k.tubes (((L.ts[b]).1 : Nat) : Int)).toNat = b; exact fb
  | false =>
    obtain ⟨v, hv⟩ := (h : EN L.ps _ _)
    obtain ⟨w1, w2⟩ := hI.wired _ hv
    obtain ⟨a, ha, ea, fa⟩ := idx_of hS hI w1
    obtain ⟨b, hb, eb, fb⟩ := idx_of hS hI w2
    obtain rfl := num_inj hI.ok ha hj ea
    obtain rfl := num_inj hI.ok hb hi eb
    refine ⟨_, hS.mem_poured.2 hv, ?_, ?_⟩
    · show (findI k.tubes (((L.ts[b]).1 : Nat) : Int)).toNat = b; exact fb
    · show (findI k.tubes (((L.ts[a]).1 : Nat) : Int)).toNat = a; exact fa
theorem rch_num (hS : Sim L k) (hI : L.Inv) {down : Bool} {M : Nat → Prop} {j : Nat} (h : Rch (Edge k down) M j) : ∃ hj : j < L.ts.length, Rch (ED L.ps down) (fun n => ∃ i, ∃ hi : i < L.ts.length, (L.ts[i]).1 = n ∧ M i) (L.ts[j]).1 := by
  induction h with
  | one h1 h2 =>
    obtain ⟨hi, hj, he⟩ := edge_num hS hI h2
    exact ⟨hj, .one ⟨_, hi, rfl, h1⟩ he⟩
  | more _ h2 ih =>
    obtain ⟨hi, hj, he⟩ := edge_num hS hI h2
    obtain ⟨_, ih⟩ := ih
    exact ⟨hj, .more ih he⟩
theorem ed_tube (hI : L.Inv) {down : Bool} {a b : Nat} (h : ED L.ps down a b) : (L.tube a).isSome = true ∧ (L.tube b).isSome = true := by
  cases down with
  | true => obtain ⟨v, hv⟩ := (h : EN L.ps _ _); exact hI.wired _ hv
  | false => obtain ⟨v, hv⟩ := (h : EN L.ps _ _); exact (hI.wired _ hv).symm
theorem num_rch (hS : Sim L k) (hI : L.Inv) {down : Bool} {M : Nat → Prop} {n : Nat} (h : Rch (ED L.ps down) (fun n => ∃ i, ∃ hi : i < L.ts.length, (L.ts[i]).1 = n ∧ M i) n) : ∀ j (hj : j < L.ts.length), (L.ts[j]).1 = n → Rch (Edge k down) M j := by
  induction h with
  | one h1 h2 =>
    intro j hj e
    obtain ⟨i, hi, e1, hM⟩ := h1
    exact .one hM (num_edge hS hI hi hj (by rw [e1, e]; exact h2))
  | more _ h2 ih =>
    intro j hj e
    obtain ⟨a, ha, ea, _⟩ := idx_of hS hI (ed_tube hI h2).1
    exact .more (ih a ha ea) (num_edge hS hI ha hj (by rw [ea, e]; exact h2))

end Go.Proofs.YtbpnllhhmookcaaGreatDoor

/- What the books tell, and what a withdrawal and a turn leave of them. -/
namespace Go.Proofs.YtbpnllhhmookcaaGreatDoor
open Go.RowKit
variable {L : Led} {k : Bk} {m : Cm}

theorem range_flat {α β : Type} (l : List α) (f : Nat → List β) (g : α → List β) (h : ∀ i (hi : i < l.length), f i = g l[i]) : (List.range l.length).flatMap f = l.flatMap g := by
  have e : l = (List.range l.length).attach.map (fun i => l[i.1]'(List.mem_range.1 i.2)) := by
    apply List.ext_getElem
    · simp
    · intro i h1 h2; simp
  conv => rhs; rw [e]
  rw [List.flatMap_map]
  have : (List.range l.length).flatMap f = (List.range l.length).attach.flatMap (fun i => f i.1) := by
    conv => lhs; rw [← List.attach_map_subtype_val (List.range l.length)]
    rw [List.flatMap_map]
  rw [this]
  congr 1
  funext i
  exact h i.1 (List.mem_range.1 i.2)
theorem flat_filter {α β : Type} (l : List α) (p : α → Bool) (h : α → β) : l.flatMap (fun t => if p t then [h t] else []) = (l.filter p).map h := by
  induction l with
  | nil => rfl
  | cons a l ih =>
    rw [List.flatMap_cons, ih, List.filter_cons]
    cases hp : p a <;> simp

theorem ask_filter (hS : Sim L k) (bs : List Bool) (p : TN → Bool) (h : ∀ i (hi : i < L.ts.length), bs.getD i false = p L.ts[i]) : askL k.tubes bs = (L.ts.filter p).map fun t => (t.1 : Int) := by
  unfold askL askTo
  rw [hS.tubes, List.length_map, ← flat_filter]
  refine range_flat L.ts _ _ (fun i hi => ?_)
  rw [h i hi, List.getD_eq_getElem?_getD, List.getElem?_eq_getElem (by rw [List.length_map]; exact hi), List.getElem_map]
  rfl
theorem mark_at (hS : Sim L k) (d : Nat) (i : Nat) (hi : i < L.ts.length) : (markD k.tubes d).getD i false = decide (((L.ts[i]).2.donor : Int) = d) := by
  unfold markD
  rw [hS.tubes, List.map_map, List.getD_eq_getElem?_getD, List.getElem?_eq_getElem (by rw [List.length_map]; exact hi), List.getElem_map]
  show (((L.ts[i]).2.donor : Int) == d) = _
  rw [Bool.eq_iff_iff]; simp
theorem mark_out (hS : Sim L k) (d : Nat) (i : Nat) (hi : ¬ i < L.ts.length) : (markD k.tubes d).getD i false = false := by
  unfold markD
  rw [hS.tubes, List.map_map, List.getD_eq_getElem?_getD, List.getElem?_eq_none (by rw [List.length_map]; omega)]
  rfl
theorem Sim.tells_of (hS : Sim L k) (d : Nat) : askL k.tubes (markD k.tubes d) = ofN d L.ts := by
  rw [ask_filter hS _ (fun t => decide ((t.2.donor : Int) = d)) (fun i hi => mark_at hS d i hi)]
  rfl
theorem Sim.tells_cont (hS : Sim L k) (b : Nat) : contL k.tubes b = Led.contQ (L.ts.filter (inBox b)) := by
  unfold contL contTo Led.contQ
  rw [hS.tubes, List.length_map]
  have : (L.ts.filter (inBox b)).flatMap (fun t => [(t.1 : Int), (t.2.x : Int), (t.2.y : Int)]) = L.ts.flatMap (fun t => if inBox b t then [(t.1 : Int), (t.2.x : Int), (t.2.y : Int)] else []) := by
    induction L.ts with
    | nil => rfl
    | cons a l ih =>
      rw [List.flatMap_cons, List.filter_cons]
      cases hp : inBox b a
      · simpa using ih
      · rw [if_pos rfl, List.flatMap_cons, ih]; simp
  rw [this]
  refine range_flat L.ts _ _ (fun i hi => ?_)
  rw [getD_T (by rw [List.length_map]; exact hi), List.getElem_map]
  show (if ((L.ts[i]).2.box : Int) = b then [((L.ts[i]).1 : Int), ((L.ts[i]).2.x : Int), ((L.ts[i]).2.y : Int)] else []) = _
  unfold inBox
  by_cases h : ((L.ts[i]).2.box : Int) = b
  · rw [if_pos h, if_pos (decide_eq_true h)]
  · rw [if_neg h, if_neg (by simpa using h)]
theorem show_tF (n : Nat) (q : PT) : showL (tF (n, q)) = showQ q := rfl

open Classical in
theorem reach_at (mk : List Bool) (down : Bool) (hS : Sim L k) (i : Nat) (hi : i < L.ts.length) : (reachL k mk down).getD i false = true ↔ Rch (Edge k down) (fun i => mk.getD i false = true) i := by
  unfold reachL
  rw [List.getD_eq_getElem?_getD, List.getElem?_eq_getElem (by rw [List.length_map, List.length_range, hS.tubes, List.length_map]; exact hi), List.getElem_map, List.getElem_range, Option.getD_some, decide_eq_true_eq]
theorem one_at (n i j : Nat) (hi : i < n) : (markOne n i).getD j false = true ↔ j = i := by
  unfold markOne
  rw [List.getD_eq_getElem?_getD]
  by_cases h : j = i
  · subst h
    rw [List.getElem?_set_self (by simpa using hi)]
    simp
  · rw [List.getElem?_set_ne (fun e => h e.symm), List.getElem?_replicate]
    constructor
    · intro h2; split at h2 <;> simp at h2
    · intro h2; exact absurd h2 h

/-- What lies below a tube, or above it. -/
theorem way_list (hS : Sim L k) (hI : L.Inv) (down : Bool) {i n : Nat} (hi : i < L.ts.length) (e : (L.ts[i]).1 = n) (R : Nat → Bool) (hR : ∀ j, R j = true ↔ j ≠ n ∧ Rch (ED L.ps down) (fun x => x = n) j) (hn : ∀ j, Rch (ED L.ps down) (fun x => x = n) j → j ≠ n) :
    askL k.tubes (reachL k (markOne k.tubes.length i) down) = (L.ts.filter fun t => R t.1).map fun t => (t.1 : Int) := by
  refine ask_filter hS _ _ (fun j hj => ?_)
  have hlen : k.tubes.length = L.ts.length := by rw [hS.tubes, List.length_map]
  rw [Bool.eq_iff_iff, reach_at _ _ hS j hj, hR]
  constructor
  · intro h
    obtain ⟨_, h2⟩ := rch_num hS hI h
    have h3 : Rch (ED L.ps down) (fun x => x = n) (L.ts[j]).1 := h2.mono (fun _ _ h => h) (fun a ⟨x, hx, ex, hm⟩ => by
      rw [one_at _ _ _ (by omega)] at hm
      subst hm
      rw [← ex, e])
    exact ⟨hn _ h3, h3⟩
  · rintro ⟨_, h⟩
    refine num_rch hS hI (h.mono (fun _ _ h => h) (fun a ha => ⟨i, hi, by rw [e, ha], ?_⟩)) j hj rfl
    rw [one_at _ _ _ (by omega)]

theorem ts_list (hO : L.Ok) (R : Nat → Bool) (l : List Nat) (hl : l.Pairwise (· < ·)) (h : ∀ n, n ∈ l ↔ R n = true ∧ (L.tube n).isSome = true) : (L.ts.filter fun t => R t.1).map (fun t => (t.1 : Int)) = natsI l := by
  have e : (L.ts.filter fun t => R t.1).map Prod.fst = l := by
    refine eq_of_pw (key := fun n : Nat => n) ?_ hl (fun n => ?_)
    · refine List.pairwise_map.2 ?_
      exact List.Pairwise.filter _ hO.ts
    · rw [h, List.mem_map]
      constructor
      · rintro ⟨t, ht, rfl⟩
        obtain ⟨h1, h2⟩ := List.mem_filter.1 ht
        exact ⟨h2, by rw [(Led.tube_mem hO).2 h1]; rfl⟩
      · rintro ⟨h1, h2⟩
        obtain ⟨q, hq, _⟩ := Led.tube_of h2
        exact ⟨(n, q), List.mem_filter.2 ⟨(Led.tube_mem hO).1 hq, h1⟩, rfl⟩
  rw [← e]
  simp [natsI]
theorem memG_pw (S : Nat → Bool) : (memG S).Pairwise (· < ·) := List.Pairwise.filter _ List.pairwise_lt_range

theorem Sim.tells_down (hS : Sim L k) (hI : L.Inv) {i n : Nat} (hi : i < L.ts.length) (e : (L.ts[i]).1 = n) : askL k.tubes (reachL k (markOne k.tubes.length i) true) = natsI (memG (kinS (downS (single n) L.ps) n)) := by
  have hiff : ∀ j, Rch (ED L.ps true) (fun x => x = n) j ↔ Rch (EN L.ps) (fun x => x = n) j := fun j => Iff.rfl
  rw [way_list hS hI true hi e (fun j => decide (j ≠ n) && downS (single n) L.ps j) (fun j => ?_) (fun j h => ?_)]
  · refine ts_list hI.ok (fun j => decide (j ≠ n) && downS (single n) L.ps j) _ (memG_pw _) (fun j => ?_)
    show j ∈ L.below n ↔ _
    rw [Led.mem_below, Bool.and_eq_true, decide_eq_true_eq]
    constructor
    · rintro ⟨_, h2, h3⟩
      exact ⟨⟨h2, h3⟩, Led.down_tube hI h3 h2⟩
    · rintro ⟨⟨h2, h3⟩, h4⟩
      obtain ⟨q, hq, _⟩ := Led.tube_of h4
      have := (hI.ok.t1 _ ((Led.tube_mem hI.ok).1 hq)).2.1
      exact ⟨by simp only at this; omega, h2, h3⟩
  · rw [Bool.and_eq_true, decide_eq_true_eq, down_iff hI.ok, hiff]
    constructor
    · rintro ⟨h1, h2 | h2⟩
      · exact absurd h2 h1
      · exact ⟨h1, h2⟩
    · rintro ⟨h1, h2⟩
      exact ⟨h1, .inr h2⟩
  · have := rch_lt hI.ok ((hiff j).1 h); omega
theorem rch_rev {E : Nat → Nat → Prop} {a b : Nat} (h : Rch E (fun x => x = a) b) : Rch (fun x y => E y x) (fun x => x = b) a := by
  have key : ∀ j, Rch E (fun x => x = a) j → ∀ c, (c = j ∨ Rch (fun x y => E y x) (fun x => x = c) j) → Rch (fun x y => E y x) (fun x => x = c) a := by
    intro j h
    induction h with
    | one h1 h2 =>
      subst h1
      rintro c (rfl | hc)
      · exact .one rfl h2
      · exact .more hc h2
    | more _ h2 ih =>
      rintro c (rfl | hc)
      · exact ih c (.inr (.one rfl h2))
      · exact ih c (.inr (.more hc h2))
  exact key b h b (.inl rfl)
theorem Sim.tells_up (hS : Sim L k) (hI : L.Inv) {i n : Nat} (hi : i < L.ts.length) (e : (L.ts[i]).1 = n) : askL k.tubes (reachL k (markOne k.tubes.length i) false) = natsI (memG (kinS (upS (single n) L.ps) n)) := by
  have hiff : ∀ j, Rch (ED L.ps false) (fun x => x = n) j ↔ Rch (EN L.ps) (fun x => x = j) n := fun j => ⟨fun h => rch_rev h, fun h => rch_rev h⟩
  rw [way_list hS hI false hi e (fun j => decide (j ≠ n) && upS (single n) L.ps j) (fun j => ?_) (fun j h => ?_)]
  · refine ts_list hI.ok (fun j => decide (j ≠ n) && upS (single n) L.ps j) _ (memG_pw _) (fun j => ?_)
    show j ∈ L.above n ↔ _
    rw [Led.mem_above, Bool.and_eq_true, decide_eq_true_eq]
    constructor
    · rintro ⟨_, h2, h3⟩
      exact ⟨⟨h2, h3⟩, Led.up_tube hI h3 h2⟩
    · rintro ⟨⟨h2, h3⟩, h4⟩
      obtain ⟨q, hq, _⟩ := Led.tube_of h4
      have := (hI.ok.t1 _ ((Led.tube_mem hI.ok).1 hq)).2.1
      exact ⟨by simp only at this; omega, h2, h3⟩
  · rw [Bool.and_eq_true, decide_eq_true_eq, up_down, down_iff hI.ok, hiff]
    constructor
    · rintro ⟨h1, h2 | h2⟩
      · exact absurd h2.symm h1
      · exact ⟨h1, h2⟩
    · rintro ⟨h1, h2⟩
      exact ⟨h1, .inr h2⟩
  · have := rch_lt hI.ok ((hiff j).1 h); omega

end Go.Proofs.YtbpnllhhmookcaaGreatDoor

/- A withdrawal, a turn, a flip: of a ledger and of books; no number in the books is great. -/
namespace Go.Proofs.YtbpnllhhmookcaaGreatDoor
open Go.RowKit
variable {L : Led} {k : Bk} {m : Cm}

theorem hit_is (hS : Sim L k) (hI : L.Inv) (d j : Nat) (hj : j < L.ts.length) : (hitD k d).getD j false = L.goneS d (L.ts[j]).1 := by
  have hl1 : j < (markD k.tubes d).length := by unfold markD; rw [List.length_map, hS.tubes, List.length_map]; exact hj
  have hl2 : j < (reachL k (markD k.tubes d) true).length := by rw [reachL_len, hS.tubes, List.length_map]; exact hj
  rw [hitD_at k d hl1 hl2, Bool.eq_iff_iff, Bool.or_eq_true, Led.goneS_ids, List.any_eq_true]
  have e1 : (markD k.tubes d)[j] = decide (((L.ts[j]).2.donor : Int) = d) := by
    have := mark_at hS d j hj
    rwa [List.getD_eq_getElem?_getD, List.getElem?_eq_getElem hl1, Option.getD_some] at this
  have e2 : (reachL k (markD k.tubes d) true)[j] = true ↔ Rch (Edge k true) (fun i => (markD k.tubes d).getD i false = true) j := by
    have := reach_at (markD k.tubes d) true hS j hj
    rwa [List.getD_eq_getElem?_getD, List.getElem?_eq_getElem hl2, Option.getD_some] at this
  have hids : ∀ z, z ∈ L.ids d ↔ ∃ i, ∃ hi : i < L.ts.length, (L.ts[i]).1 = z ∧ (markD k.tubes d).getD i false = true := by
    intro z
    unfold Led.ids
    rw [List.mem_map]
    constructor
    · rintro ⟨t, ht, rfl⟩
      obtain ⟨h1, h2⟩ := List.mem_filter.1 ht
      obtain ⟨i, hi, rfl⟩ := List.getElem_of_mem h1
      exact ⟨i, hi, rfl, by rw [mark_at hS d i hi]; exact h2⟩
    · rintro ⟨i, hi, rfl, h⟩
      rw [mark_at hS d i hi] at h
      exact ⟨L.ts[i], List.mem_filter.2 ⟨List.getElem_mem hi, h⟩, rfl⟩
  rw [e1, e2]
  constructor
  · rintro (h | h)
    · exact ⟨_, (hids _).2 ⟨j, hj, rfl, by rw [mark_at hS d j hj]; exact h⟩, downS_self _ _⟩
    · obtain ⟨_, h2⟩ := rch_num hS hI h
      obtain ⟨z, hz, h3⟩ := h2.from
      exact ⟨z, (hids z).2 hz, (down_iff hI.ok z _).2 (.inr h3)⟩
  · rintro ⟨z, hz, h⟩
    rcases (down_iff hI.ok z _).1 h with h | h
    · left
      obtain ⟨i, hi, e, hm⟩ := (hids z).1 hz
      have : i = j := num_inj hI.ok hi hj (by rw [e, h])
      subst this
      rw [mark_at hS d i hi] at hm
      exact hm
    · right
      exact num_rch hS hI (down := true) (h.mono (E' := ED L.ps true) (fun _ _ h => h) (fun a ha => by subst ha; exact (hids a).1 hz)) j hj rfl

theorem end_tF (t : TN) (h : t.2.status ≠ 3) (hl : t.2.lost = 0) : endT (tF t) = tF (t.1, t.2.lostAll) := by
  unfold endT
  rw [if_neg (show ¬ tF t 6 = 3 by show ¬ (t.2.status : Int) = 3; omega)]
  funext i
  unfold upd
  match i with
  | 0 => rfl
  | 1 => rfl
  | 2 => rfl
  | 3 => rfl
  | 4 => rfl
  | 5 => show (t.2.lost : Int) + t.2.left = (t.2.left : Int); omega
  | 6 => rfl
  | 7 => rfl
  | 8 => rfl
  | 9 => rfl
  | 10 => rfl
  | i + 11 => rfl
theorem end_same (t : TN) (h : t.2.status = 3) : endT (tF t) = tF t := by
  unfold endT
  rw [if_pos (show tF t 6 = 3 by show (t.2.status : Int) = 3; omega)]

theorem Sim.wd (hS : Sim L k) (hI : L.Inv) (d : Nat) : Sim (L.chg PT.lostAll (L.hits d)) (wdB k d) := by
  have e0 : L.chg PT.lostAll (L.hits d) = L.mapT (fun t => L.goneS d t.1 && !decide (t.2.status = 3)) PT.lostAll := by
    unfold Led.hits
    exact Led.chg_map hI.ok _ _ (Led.wd_good hI d)
  rw [e0]
  refine ⟨hS.sides, ?_, hS.poured⟩
  have hlen : k.tubes.length = L.ts.length := by rw [hS.tubes, List.length_map]
  show hitTo endT (hitD k d) k.tubes k.tubes.length = (L.ts.map fun t => if (L.goneS d t.1 && !decide (t.2.status = 3)) then (t.1, t.2.lostAll) else t).map tF
  apply List.ext_getElem
  · rw [hitTo_len, List.length_map, List.length_map, hlen]
  · intro i h1 h2
    have hi : i < k.tubes.length := by rw [hitTo_len] at h1; exact h1
    have hi' : i < L.ts.length := by omega
    rw [hitTo_get _ _ _ _ _ hi, List.getElem_map, List.getElem_map, hit_is hS hI d i hi']
    have ek : k.tubes[i] = tF L.ts[i] := by have := hS.at hi'; rwa [getD_T hi] at this
    rw [ek]
    cases hg : L.goneS d (L.ts[i]).1 with
    | false => rw [if_neg (by simp)]; simp
    | true =>
      rw [if_pos ⟨hi, rfl⟩]
      by_cases hs : (L.ts[i]).2.status = 3
      · rw [end_same _ hs]; simp [hs]
      · rw [end_tF _ hs (hI.lost _ (List.getElem_mem hi') hs)]; simp [hs]
theorem range_count {α : Type} (l : List α) (f : Nat → Bool) (p : α → Bool) (h : ∀ i (hi : i < l.length), f i = p l[i]) : (List.range l.length).countP f = (l.filter p).length := by
  have := range_flat l (fun i => if f i then [()] else []) (fun t => if p t then [()] else []) (fun i hi => by rw [h i hi])
  rw [flat_filter, flat_filter] at this
  have := congrArg List.length this
  rw [List.length_map, List.length_map] at this
  rw [List.countP_eq_length_filter]
  exact this
theorem Sim.wdN (hS : Sim L k) (hI : L.Inv) (d : Nat) : Go.Proofs.YtbpnllhhmookcaaGreatDoor.wdN k d = (L.hits d).length := by
  unfold Go.Proofs.YtbpnllhhmookcaaGreatDoor.wdN cntTo Led.hits
  have hlen : k.tubes.length = L.ts.length := by rw [hS.tubes, List.length_map]
  rw [hlen]
  refine range_count L.ts _ _ (fun i hi => ?_)
  rw [hit_is hS hI d i hi, hS.at hi]
  congr 2
  show ((((L.ts[i]).2.status : Nat) : Int) == 3) = _
  rw [Bool.eq_iff_iff, beq_iff_eq, decide_eq_true_eq]; omega

/-- A box's places, moved: the books' list behind it. -/
theorem mv_tubes (b : Nat) (g : Nat × Nat → Nat × Nat) (L : Led) : (L.mvB b g).ts.map tF = L.ts.map fun t => tF (if inBox b t then (t.1, Led.PTmv g t.2) else t) := by
  show (L.ts.map fun t => if inBox b t then (t.1, Led.PTmv g t.2) else t).map tF = _
  rw [List.map_map]; rfl
theorem turn_tF (b s : Nat) (t : TN) (h : t.2.box = b → t.2.y < s) : turnF b s false (tF t) = tF (if inBox b t then (t.1, { t.2 with x := s - 1 - t.2.y, y := t.2.x }) else t) := by
  unfold turnF inBox
  show (if (t.2.box : Int) = b then _ else _) = _
  by_cases e : (t.2.box : Int) = b
  · rw [if_pos e, decide_eq_true (show ((t.2.box : Nat) : Int) = (b : Int) from e)]
    have hy := h (by omega)
    funext i
    unfold upd
    match i with
    | 0 => rfl
    | 1 => rfl
    | 2 => rfl
    | 3 => rfl
    | 4 => rfl
    | 5 => rfl
    | 6 => rfl
    | 7 => rfl
    | 8 => rfl
    | 9 => show (s : Int) - 1 - t.2.y = ((s - 1 - t.2.y : Nat) : Int); omega
    | 10 => rfl
    | i + 11 => rfl
  · rw [if_neg e, decide_eq_false (show ¬ ((t.2.box : Nat) : Int) = (b : Int) from e)]; rfl
theorem flip_tF (b s : Nat) (t : TN) (h : t.2.box = b → t.2.x < s) : turnF b s true (tF t) = tF (if inBox b t then (t.1, { t.2 with x := s - 1 - t.2.x }) else t) := by
  unfold turnF inBox
  show (if (t.2.box : Int) = b then _ else _) = _
  by_cases e : (t.2.box : Int) = b
  · rw [if_pos e, decide_eq_true (show ((t.2.box : Nat) : Int) = (b : Int) from e)]
    have hx := h (by omega)
    funext i
    unfold upd
    match i with
    | 0 => rfl
    | 1 => rfl
    | 2 => rfl
    | 3 => rfl
    | 4 => rfl
    | 5 => rfl
    | 6 => rfl
    | 7 => rfl
    | 8 => rfl
    | 9 => show (s : Int) - 1 - t.2.x = ((s - 1 - t.2.x : Nat) : Int); omega
    | 10 => rfl
    | i + 11 => rfl
  · rw [if_neg e, decide_eq_false (show ¬ ((t.2.box : Nat) : Int) = (b : Int) from e)]; rfl

theorem Sim.turn (hI : L.Inv) {b : Nat} (hb : 1 ≤ b) {j : Nat} (hS : Sim (L.mvB b (turnXY (L.sideN b) j)) k) : Sim (L.mvB b (turnXY (L.sideN b) (j + 1))) (k.withTubes (k.tubes.map (turnF b (L.sideN b) false))) := by
  refine ⟨hS.sides, ?_, hS.poured⟩
  show k.tubes.map (turnF b (L.sideN b) false) = _
  rw [hS.tubes, mv_tubes, mv_tubes, List.map_map]
  refine List.map_congr_left (fun t ht => ?_)
  show turnF b (L.sideN b) false (tF (if inBox b t then (t.1, Led.PTmv (turnXY (L.sideN b) j) t.2) else t)) = _
  cases hp : inBox b t with
  | true =>
    have hr := Led.in_range hI hb t ht hp
    have hlt := turnXY_lt (p := (t.2.x, t.2.y)) hr.1 hr.2 j
    rw [if_pos rfl, if_pos rfl, turn_tF _ _ _ (fun _ => hlt.2)]
    have : inBox b (t.1, Led.PTmv (turnXY (L.sideN b) j) t.2) = true := hp
    rw [this]
    rfl
  | false =>
    rw [if_neg (by simp), if_neg (by simp), turn_tF _ _ _ (fun e => by simp only [inBox, decide_eq_false_iff_not] at hp; omega), hp]
    rfl
theorem Sim.flip (hS : Sim L k) (hI : L.Inv) {b : Nat} (hb : 1 ≤ b) : Sim (L.mvB b (flipXY (L.sideN b))) (k.withTubes (k.tubes.map (turnF b (L.sideN b) true))) := by
  refine ⟨hS.sides, ?_, hS.poured⟩
  show k.tubes.map (turnF b (L.sideN b) true) = _
  rw [hS.tubes, mv_tubes, List.map_map]
  refine List.map_congr_left (fun t ht => ?_)
  show turnF b (L.sideN b) true (tF t) = _
  cases hp : inBox b t with
  | true =>
    have hr := Led.in_range hI hb t ht hp
    rw [flip_tF _ _ _ (fun _ => hr.1), hp]
    rfl
  | false =>
    rw [flip_tF _ _ _ (fun e => by simp only [inBox, decide_eq_false_iff_not] at hp; omega), hp]
    rfl

theorem Sim.small (hS : Sim L k) (hO : L.Ok) : Small k := by
  refine ⟨fun x hx i => ?_, fun x hx i => ?_⟩
  · rw [hS.tubes] at hx
    obtain ⟨t, ht, rfl⟩ := List.mem_map.1 hx
    obtain ⟨h1, h2, g⟩ := hO.t1 t ht
    have g1 := g.x; have g2 := g.y; have g3 := g.box; have g4 := g.donor; have g5 := g.status; have g6 := g.thaws; have g7 := g.began; have g8 := g.left; have g9 := g.used; have g10 := g.lost
    match i with
    | 0 => show 0 ≤ (t.1 : Int) ∧ (t.1 : Int) ≤ _; omega
    | 1 => show 0 ≤ (t.2.donor : Int) ∧ (t.2.donor : Int) ≤ _; omega
    | 2 => show 0 ≤ (t.2.began : Int) ∧ (t.2.began : Int) ≤ _; omega
    | 3 => show 0 ≤ (t.2.left : Int) ∧ (t.2.left : Int) ≤ _; omega
    | 4 => show 0 ≤ (t.2.used : Int) ∧ (t.2.used : Int) ≤ _; omega
    | 5 => show 0 ≤ (t.2.lost : Int) ∧ (t.2.lost : Int) ≤ _; omega
    | 6 => show 0 ≤ (t.2.status : Int) ∧ (t.2.status : Int) ≤ _; omega
    | 7 => show 0 ≤ (t.2.thaws : Int) ∧ (t.2.thaws : Int) ≤ _; omega
    | 8 => show 0 ≤ (t.2.box : Int) ∧ (t.2.box : Int) ≤ _; omega
    | 9 => show 0 ≤ (t.2.x : Int) ∧ (t.2.x : Int) ≤ _; omega
    | 10 => show 0 ≤ (t.2.y : Int) ∧ (t.2.y : Int) ≤ _; omega
    | i + 11 => show 0 ≤ (0 : Int) ∧ (0 : Int) ≤ _; omega
  · obtain ⟨p, hp, rfl⟩ := hS.of_poured hx
    have h := hO.p1 p hp
    match i with
    | 0 => show 0 ≤ (p.1 : Int) ∧ (p.1 : Int) ≤ _; omega
    | 1 => show 0 ≤ (p.2.1 : Int) ∧ (p.2.1 : Int) ≤ _; omega
    | 2 => show 0 ≤ (p.2.2 : Int) ∧ (p.2.2 : Int) ≤ _; omega
    | i + 3 => show 0 ≤ (([p.1, p.2.1, p.2.2] : List Int).getD (i + 3) 0) ∧ _ ≤ _; simp [pF, mkP]

end Go.Proofs.YtbpnllhhmookcaaGreatDoor
