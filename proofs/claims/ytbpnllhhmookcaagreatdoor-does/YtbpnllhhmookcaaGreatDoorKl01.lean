/- Withdrawn's mathematics: what a withdrawal leaves, and how many it struck. -/
import Derived.Test.YtbpnllhhmookcaaGreatDoorKl00
import Derived.Test.YtbpnllhhmookcaaGreatDoorKk39
namespace Go.Proofs.YtbpnllhhmookcaaGreatDoor
open Go.RowKit
namespace Led
variable {L : Led}

theorem tube_mapT (L : Led) (p : TN → Bool) (f : PT → PT) (n : Nat) : (L.mapT p f).tube n = (L.tube n).map fun q => if p (n, q) then f q else q := by
  have key : ∀ l : List TN, (((l.map fun t => if p t then (t.1, f t.2) else t).filter fun t => decide (t.1 = n)).head?).map Prod.snd = (((l.filter fun t => decide (t.1 = n)).head?).map Prod.snd).map fun q => if p (n, q) then f q else q := by
    intro l
    induction l with
    | nil => rfl
    | cons a l ih =>
      simp only [List.map_cons, List.filter_cons, mapT_num]
      split
      · next h =>
        have h' : a.1 = n := by simpa using h
        subst h'
        simp only [List.head?_cons, Option.map_some]
        split <;> rfl
      · exact ih
  exact key L.ts

/-- The ledger behind a withdrawal. -/
def wdL (L : Led) (d : Nat) : Led := L.mapT (fun t => L.goneS d t.1 && !decide (t.2.status = 3)) PT.lostAll
theorem wd_tube (L : Led) (d n : Nat) : (L.wdL d).tube n = (L.tube n).map fun q => if (L.goneS d n && !decide (q.status = 3)) = true then q.lostAll else q := tube_mapT L _ _ n
theorem wd_keeps {d n : Nat} (h : L.goneS d n = false) : (L.wdL d).tube n = L.tube n := by
  rw [wd_tube, h]
  cases L.tube n <;> simp
/-- A tube that is gone: destroyed, empty, in no box; what was left is lost; what it began with and what was used stand. -/
theorem wd_gone (hS : L.Small) (hI : L.Inv) {d n : Nat} {q : PT} (h : L.goneS d n = true) (hq : L.tube n = some q) : ∃ r, (L.wdL d).tube n = some r ∧ r.status = 3 ∧ r.left = 0 ∧ r.box = 0 ∧ r.lost = q.lost + q.left ∧ r.began = q.began ∧ r.used = q.used := by
  rw [wd_tube, h, hq]
  by_cases hs : q.status = 3
  · have hl := (hS n q hq).2.2 hs
    have hb := hI.box _ ((tube_mem hI.ok).1 hq)
    refine ⟨q, by simp [hs], hs, hl, ?_, by omega, rfl, rfl⟩
    simp only at hb
    omega
  · have hl := hI.lost _ ((tube_mem hI.ok).1 hq) hs
    refine ⟨q.lostAll, by simp [hs], rfl, rfl, rfl, ?_, rfl, rfl⟩
    show q.left = q.lost + q.left
    simp only at hl
    omega

def cmUse1 (n : Nat) : Cm := ⟨6, n, 0, 0, 1, 0, 0, 0, 0⟩
def cmMove1 (n : Nat) : Cm := ⟨3, n, 0, 0, 0, 1, 0, 0, 0⟩
theorem cmUse1_enc {n : Nat} (h : 1 ≤ n ∧ n ≤ 12) : encB (cmUse1 n).ints = true := (r_use (t := n) (v := 1) (by omega) (by omega)).enc
theorem cmMove1_enc {n : Nat} (h : 1 ≤ n ∧ n ≤ 12) : encB (cmMove1 n).ints = true := (r_place (k := 3) (t := n) (b := 1) (x := 0) (y := 0) (.inl rfl) (by omega) (by omega) (by omega) (by omega)).enc
theorem askI_le (r e : Int) (h : Bool) (hr : r = 7) (he : 7 < e) : askI r e h = 7 := by
  unfold askI
  rw [if_neg (by omega)]; exact hr
theorem use_dead {n : Nat} {q : PT} (h : L.tube n = some q) (hs : q.status = 3) : L.stepE 32 (cmUse1 n) = 7 ∧ L.stepN 32 (cmUse1 n) = [] ∧ L.stepL 32 (cmUse1 n) = L := by
  have hD : L.tubeD n = q := tubeD_some h
  have hT : ∃ b, L.asksT (cmUse1 n) = [(8, b), (7, true), (4, false)] := ⟨_, by simp [Led.asksT, cmUse1, h, hD, hs]; rfl⟩
  obtain ⟨b, hT⟩ := hT
  have hO : L.asksO (cmUse1 n) = [] := by simp [Led.asksO, cmUse1]
  have hDd : L.asksD (cmUse1 n) = [] := by simp [Led.asksD, cmUse1]
  have hB : L.asksB (cmUse1 n) = [] := by simp [Led.asksB, cmUse1]
  have he : L.err (cmUse1 n) = 7 := by
    unfold Led.err
    rw [hT, hO, hDd, hB]
    show askI (askI (askI 0 8 b) 7 true) 4 false = 7
    cases b <;> simp [askI]
  simp [Led.stepE, Led.stepN, Led.stepL, he]
theorem move_dead {n : Nat} {q : PT} (h : L.tube n = some q) (hs : q.status = 3) : L.stepE 32 (cmMove1 n) = 7 ∧ L.stepN 32 (cmMove1 n) = [] ∧ L.stepL 32 (cmMove1 n) = L := by
  have hD : L.tubeD n = q := tubeD_some h
  have hT : L.asksT (cmMove1 n) = [(7, true), (4, false)] := by simp [Led.asksT, cmMove1, h, hD, hs]
  have hO : L.asksO (cmMove1 n) = [] := by simp [Led.asksO, cmMove1]
  have hDd : L.asksD (cmMove1 n) = [] := by simp [Led.asksD, cmMove1]
  have he : L.err (cmMove1 n) = 7 := by
    unfold Led.err
    rw [hT, hO, hDd]
    have hB : ∃ b c, L.asksB (cmMove1 n) = [(10, b), (9, c)] := by
      unfold Led.asksB
      rw [if_pos (by simp [cmMove1])]
      exact ⟨_, _, rfl⟩
    obtain ⟨b, c, hB⟩ := hB
    rw [hB]
    show askI (askI (askI (askI 0 7 true) 4 false) 10 b) 9 c = 7
    exact askI_le _ _ _ (askI_le _ _ _ (by simp [askI]) (by omega)) (by omega)
  simp [Led.stepE, Led.stepN, Led.stepL, he]

/-- Is tube n one that a withdrawal strikes? -/
def hitN (L : Led) (d n : Nat) : Bool := match L.tube n with
  | some q => L.goneS d n && !decide (q.status = 3)
  | .none => false
theorem hits_count (hI : L.Inv) (hS : L.Small) (d : Nat) : (L.hits d).length = ((List.range 13).filter fun n => L.hitN d n).length := by
  have e : (L.hits d).map Prod.fst = (List.range 13).filter fun n => L.hitN d n := by
    refine eq_of_pw (key := fun n : Nat => n) ?_ ?_ (fun n => ?_)
    · refine List.pairwise_map.2 ?_
      exact List.Pairwise.filter _ hI.ok.ts
    · exact List.Pairwise.filter _ List.pairwise_lt_range
    · rw [List.mem_map, List.mem_filter, List.mem_range]
      constructor
      · rintro ⟨t, ht, rfl⟩
        obtain ⟨t1, t2⟩ := List.mem_filter.1 ht
        have hq := (tube_mem hI.ok).2 t1
        refine ⟨by have := (hS _ _ hq).1; omega, ?_⟩
        unfold hitN; rw [hq]; exact t2
      · rintro ⟨_, h⟩
        unfold hitN at h
        cases hq : L.tube n with
        | none => rw [hq] at h; cases h
        | some q =>
          rw [hq] at h
          exact ⟨(n, q), List.mem_filter.2 ⟨(tube_mem hI.ok).1 hq, h⟩, rfl⟩
  rw [← e, List.length_map]

end Led
end Go.Proofs.YtbpnllhhmookcaaGreatDoor

/- Turned's mathematics: a box turned all around, flipped twice, or turned and flipped twice, is as it was. -/
namespace Go.Proofs.YtbpnllhhmookcaaGreatDoor
open Go.RowKit

/-- One flip of a place in a box of side s. -/
def flipXY (s : Nat) (p : Nat × Nat) : Nat × Nat := (s - 1 - p.1, p.2)

theorem turn_back {s n : Nat} {p : Nat × Nat} (h1 : p.1 < s) (h2 : p.2 < s) (hn : n = 1 ∨ n = 2 ∨ n = 3) : turnXY s (4 - n) (turnXY s n p) = p := by
  obtain ⟨x, y⟩ := p
  simp only at h1 h2
  rcases hn with rfl | rfl | rfl <;> simp only [turnXY, Nat.reduceSub] <;> refine Prod.ext ?_ ?_ <;> simp only <;> omega
theorem flip_turn {s n : Nat} {p : Nat × Nat} (h1 : p.1 < s) (h2 : p.2 < s) (hn : n = 1 ∨ n = 2 ∨ n = 3) : turnXY s n (flipXY s (turnXY s n (flipXY s p))) = p := by
  obtain ⟨x, y⟩ := p
  simp only at h1 h2
  rcases hn with rfl | rfl | rfl <;> simp only [turnXY, flipXY] <;> refine Prod.ext ?_ ?_ <;> simp only <;> omega
theorem turn_half {s : Nat} {p : Nat × Nat} (h1 : p.1 < s) (h2 : p.2 < s) : turnXY s 3 (flipXY s (turnXY s 1 (flipXY s p))) = turnXY s 2 p := by
  obtain ⟨x, y⟩ := p
  simp only at h1 h2
  simp only [turnXY, flipXY]
  refine Prod.ext ?_ ?_ <;> simp only <;> omega

namespace Led
variable {L : Led}

/-- The places of a box's tubes turned by g. -/
def PTmv (g : Nat × Nat → Nat × Nat) (q : PT) : PT := { q with x := (g (q.x, q.y)).1, y := (g (q.x, q.y)).2 }
def mvB (L : Led) (b : Nat) (g : Nat × Nat → Nat × Nat) : Led := L.mapT (inBox b) (PTmv g)

theorem mvB_mvB (L : Led) (b : Nat) (g h : Nat × Nat → Nat × Nat) : (L.mvB b g).mvB b h = L.mvB b (fun p => h (g p)) := by
  unfold mvB mapT
  simp only [List.map_map]
  congr 1
  refine List.map_congr_left fun t _ => ?_
  simp only [Function.comp]
  by_cases hp : inBox b t = true
  · have hp2 : inBox b (t.1, PTmv g t.2) = true := hp
    rw [if_pos hp, if_pos hp2, if_pos hp]
    rfl
  · rw [if_neg hp, if_neg hp, if_neg hp]
theorem mvB_congr {b : Nat} {g h : Nat × Nat → Nat × Nat} (e : ∀ t ∈ L.ts, inBox b t = true → g (t.2.x, t.2.y) = h (t.2.x, t.2.y)) : L.mvB b g = L.mvB b h := by
  unfold mvB mapT
  congr 1
  refine List.map_congr_left fun t ht => ?_
  by_cases hp : inBox b t = true
  · rw [if_pos hp, if_pos hp]
    unfold PTmv
    rw [e t ht hp]
  · rw [if_neg hp, if_neg hp]
theorem mvB_id {b : Nat} {g : Nat × Nat → Nat × Nat} (e : ∀ t ∈ L.ts, inBox b t = true → g (t.2.x, t.2.y) = (t.2.x, t.2.y)) : L.mvB b g = L := by
  unfold mvB mapT
  have : (L.ts.map fun t => if inBox b t then (t.1, PTmv g t.2) else t) = L.ts := by
    refine (List.map_congr_left fun t ht => ?_).trans (List.map_id L.ts)
    by_cases hp : inBox b t = true
    · rw [if_pos hp]
      unfold PTmv
      rw [e t ht hp]; rfl
    · rw [if_neg hp]; rfl
  rw [this]
theorem mvB_side (L : Led) (b c : Nat) (g : Nat × Nat → Nat × Nat) : (L.mvB b g).sideN c = L.sideN c := rfl
theorem mvB_len (L : Led) (b : Nat) (g : Nat × Nat → Nat × Nat) : (L.mvB b g).kvs.length = L.kvs.length := by simp [kvs, mvB, mapT]

theorem in_range (hI : L.Inv) {b : Nat} (hb : 1 ≤ b) : ∀ t ∈ L.ts, inBox b t = true → t.2.x < L.sideN b ∧ t.2.y < L.sideN b := fun t ht hp => by
  have e : t.2.box = b := by simp only [inBox, decide_eq_true_eq] at hp; omega
  have := hI.place t ht (by omega)
  rwa [e] at this

def cmTurn (b n : Nat) : Cm := ⟨10, 0, 0, 0, 0, b, 0, 0, n⟩
def cmFlip (b : Nat) : Cm := ⟨11, 0, 0, 0, 0, b, 0, 0, 0⟩

theorem turn_act (hI : L.Inv) {b n : Nat} (hb : 1 ≤ b) : L.act (cmTurn b n) = L.mvB b (turnXY (L.sideN b) n) := by
  have hs5 := sideN_lt hI.ok b
  have : L.act (cmTurn b n) = L.chg (fun q => q.turnedBy (L.sideN b) n) (L.ts.filter (inBox b)) := by simp [Led.act, cmTurn]
  rw [this, chg_map hI.ok (inBox b) (fun q => q.turnedBy (L.sideN b) n) (fun t ht hp => ?_)]
  · rfl
  · have g := (hI.ok.t1 t ht).2.2
    have h2 := in_range hI hb t ht hp
    have h3 := turnXY_lt (p := (t.2.x, t.2.y)) h2.1 h2.2 n
    exact ⟨by show (turnXY _ _ _).1 < 5; omega, by show (turnXY _ _ _).2 < 5; omega, g.box, g.donor, g.status, g.thaws, g.began, g.left, g.used, g.lost⟩
theorem flip_act (hI : L.Inv) {b : Nat} (hb : 1 ≤ b) : L.act (cmFlip b) = L.mvB b (flipXY (L.sideN b)) := by
  have hs5 := sideN_lt hI.ok b
  have : L.act (cmFlip b) = L.chg (fun q => q.flippedIn (L.sideN b)) (L.ts.filter (inBox b)) := by simp [Led.act, cmFlip]
  rw [this, chg_map hI.ok (inBox b) (fun q => q.flippedIn (L.sideN b)) (fun t ht hp => ?_)]
  · rfl
  · have g := (hI.ok.t1 t ht).2.2
    have h2 := in_range hI hb t ht hp
    exact ⟨by show L.sideN b - 1 - t.2.x < 5; omega, g.y, g.box, g.donor, g.status, g.thaws, g.began, g.left, g.used, g.lost⟩

theorem turn_step (hI : L.Inv) {b n : Nat} (hb : 1 ≤ b) (hf : L.kvs.length ≤ 32) : L.stepE 32 (cmTurn b n) = (if L.sideN b = 0 then 9 else 0) ∧ L.stepL 32 (cmTurn b n) = if L.sideN b = 0 then L else L.mvB b (turnXY (L.sideN b) n) := by
  by_cases h : L.sideN b = 0
  · have he : L.err (cmTurn b n) = 9 := by
      simp only [Led.err, Led.asksT, Led.asksO, Led.asksD, Led.asksB, cmTurn]
      simp [askAll, askI, h]
    simp [Led.stepE, Led.stepL, he, h]
  · have he : L.err (cmTurn b n) = 0 := by
      simp only [Led.err, Led.asksT, Led.asksO, Led.asksD, Led.asksB, cmTurn]
      simp [askAll, askI, h]
    simp [Led.stepE, Led.stepL, he, h, turn_act hI hb, mvB_len, hf]
theorem flip_step (hI : L.Inv) {b : Nat} (hb : 1 ≤ b) (hf : L.kvs.length ≤ 32) : L.stepL 32 (cmFlip b) = if L.sideN b = 0 then L else L.mvB b (flipXY (L.sideN b)) := by
  by_cases h : L.sideN b = 0
  · have he : L.err (cmFlip b) = 9 := by
      simp only [Led.err, Led.asksT, Led.asksO, Led.asksD, Led.asksB, cmFlip]
      simp [askAll, askI, h]
    simp [Led.stepL, he, h]
  · have he : L.err (cmFlip b) = 0 := by
      simp only [Led.err, Led.asksT, Led.asksO, Led.asksD, Led.asksB, cmFlip]
      simp [askAll, askI, h]
    simp [Led.stepL, he, h, flip_act hI hb, mvB_len, hf]

end Led
end Go.Proofs.YtbpnllhhmookcaaGreatDoor

/- Turned's mathematics: the walks of the law, as ledgers. -/
namespace Go.Proofs.YtbpnllhhmookcaaGreatDoor
open Go.RowKit
namespace Led
variable {L : Led}

theorem cmTurn_r {b n : Nat} (hb : 1 ≤ b ∧ b ≤ 2) (hn : 1 ≤ n ∧ n ≤ 3) : CmR (cmTurn b n) := r_turn hb hn
theorem cmFlip_r {b : Nat} (hb : 1 ≤ b ∧ b ≤ 2) : CmR (cmFlip b) := r_flip hb
theorem CmR.okk {m : Cm} (h : CmR m) : m.Ok := by have := Cm.of_ok h.enc; have e : Cm.of m.ints = m := rfl; rwa [e] at this

/-- A ledger whose box's places were moved, still one. -/
structure Mv (L : Led) (b : Nat) (g : Nat × Nat → Nat × Nat) (M : Led) : Prop where
  eq : M = L.mvB b g
  inv : M.Inv
  few : M.kvs.length ≤ 32

theorem Mv.start (hI : L.Inv) (hf : L.kvs.length ≤ 32) (b : Nat) : L.Mv b (fun p => p) L := ⟨(mvB_id (fun _ _ _ => rfl)).symm, hI, hf⟩
theorem Mv.turn {M : Led} {b n : Nat} {g : Nat × Nat → Nat × Nat} (h : L.Mv b g M) (hs : L.sideN b ≠ 0) (hb : 1 ≤ b ∧ b ≤ 2) (hn : 1 ≤ n ∧ n ≤ 3) : L.Mv b (fun p => turnXY (L.sideN b) n (g p)) (M.stepL 32 (cmTurn b n)) := by
  have hM : M.sideN b = L.sideN b := by rw [h.eq]; rfl
  have e := (turn_step h.inv (n := n) hb.1 h.few).2
  rw [hM, if_neg hs] at e
  have e2 : M.stepL 32 (cmTurn b n) = L.mvB b (fun p => turnXY (L.sideN b) n (g p)) := by rw [e, h.eq, mvB_mvB]
  exact ⟨e2, inv_step h.inv (CmR.okk (cmTurn_r hb hn)) 32, by rw [e2, mvB_len, ← mvB_len L b g, ← h.eq]; exact h.few⟩
theorem Mv.flip {M : Led} {b : Nat} {g : Nat × Nat → Nat × Nat} (h : L.Mv b g M) (hs : L.sideN b ≠ 0) (hb : 1 ≤ b ∧ b ≤ 2) : L.Mv b (fun p => flipXY (L.sideN b) (g p)) (M.stepL 32 (cmFlip b)) := by
  have hM : M.sideN b = L.sideN b := by rw [h.eq]; rfl
  have e := flip_step h.inv hb.1 h.few
  rw [hM, if_neg hs] at e
  have e2 : M.stepL 32 (cmFlip b) = L.mvB b (fun p => flipXY (L.sideN b) (g p)) := by rw [e, h.eq, mvB_mvB]
  exact ⟨e2, inv_step h.inv (CmR.okk (cmFlip_r hb)) 32, by rw [e2, mvB_len, ← mvB_len L b g, ← h.eq]; exact h.few⟩

theorem same_turn (hI : L.Inv) (hf : L.kvs.length ≤ 32) {b n : Nat} (hb : 1 ≤ b ∧ b ≤ 2) (hn : 1 ≤ n ∧ n ≤ 3) : (L.stepL 32 (cmTurn b n)).stepL 32 (cmTurn b (4 - n)) = L := by
  by_cases hs : L.sideN b = 0
  · have e1 := (turn_step hI (n := n) hb.1 hf).2
    rw [if_pos hs] at e1
    have e2 := (turn_step hI (n := 4 - n) hb.1 hf).2
    rw [if_pos hs] at e2
    rw [e1, e2]
  · have := (((Mv.start hI hf b).turn hs hb hn).turn hs hb (n := 4 - n) (by omega)).eq
    rw [this]
    exact mvB_id (fun t ht hp => turn_back (p := (t.2.x, t.2.y)) (in_range hI hb.1 t ht hp).1 (in_range hI hb.1 t ht hp).2 (by omega))
theorem same_twice (hI : L.Inv) (hf : L.kvs.length ≤ 32) {b n : Nat} (hb : 1 ≤ b ∧ b ≤ 2) (hn : 1 ≤ n ∧ n ≤ 3) : (((L.stepL 32 (cmFlip b)).stepL 32 (cmTurn b n)).stepL 32 (cmFlip b)).stepL 32 (cmTurn b n) = L := by
  by_cases hs : L.sideN b = 0
  · have e1 := (turn_step hI (n := n) hb.1 hf).2
    rw [if_pos hs] at e1
    have e2 := flip_step hI hb.1 hf
    rw [if_pos hs] at e2
    rw [e2, e1, e2, e1]
  · have := (((((Mv.start hI hf b).flip hs hb).turn hs hb hn).flip hs hb).turn hs hb hn).eq
    rw [this]
    exact mvB_id (fun t ht hp => flip_turn (p := (t.2.x, t.2.y)) (in_range hI hb.1 t ht hp).1 (in_range hI hb.1 t ht hp).2 (by omega))
theorem same_half (hI : L.Inv) (hf : L.kvs.length ≤ 32) {b : Nat} (hb : 1 ≤ b ∧ b ≤ 2) : (((L.stepL 32 (cmFlip b)).stepL 32 (cmTurn b 1)).stepL 32 (cmFlip b)).stepL 32 (cmTurn b 3) = L.stepL 32 (cmTurn b 2) := by
  by_cases hs : L.sideN b = 0
  · have e1 := (turn_step hI (n := 1) hb.1 hf).2
    have e3 := (turn_step hI (n := 3) hb.1 hf).2
    have e4 := (turn_step hI (n := 2) hb.1 hf).2
    rw [if_pos hs] at e1 e3 e4
    have e2 := flip_step hI hb.1 hf
    rw [if_pos hs] at e2
    rw [e2, e1, e2, e3, e4]
  · have h1 := (((((Mv.start hI hf b).flip hs hb).turn hs hb (n := 1) (by omega)).flip hs hb).turn hs hb (n := 3) (by omega)).eq
    have h2 := ((Mv.start hI hf b).turn hs hb (n := 2) (by omega)).eq
    rw [h1, h2]
    exact mvB_congr (fun t ht hp => turn_half (p := (t.2.x, t.2.y)) (in_range hI hb.1 t ht hp).1 (in_range hI hb.1 t ht hp).2)

end Led
end Go.Proofs.YtbpnllhhmookcaaGreatDoor

/- Apart's mathematics: who is up from one has it down; contents. -/
namespace Go.Proofs.YtbpnllhhmookcaaGreatDoor
open Go.RowKit

theorem upF_at (S : Nat → Bool) (p : PN) (j : Nat) : upF S p j = (S j || (S p.2.1 && decide (j = p.1))) := by
  unfold upF
  cases h : S p.2.1
  · rw [if_neg (by simp)]; simp
  · rw [if_pos rfl]; unfold orL; simp
theorem upS_cons (S : Nat → Bool) (p : PN) (ps : List PN) : upS S (p :: ps) = upF (upS S ps) p := by simp [upS]
theorem downS_cons1 (p : PN) (ps : List PN) (k j : Nat) : downS (single k) (p :: ps) j = (downS (single k) ps j || (decide (k = p.1) && downS (single p.2.1) ps j)) := by
  show downS (downF (single k) p) ps j = _
  by_cases h : k = p.1
  · have e : downF (single k) p = fun i => single k i || single p.2.1 i := by
      funext i
      rw [downF_at]
      have : single k p.1 = true := by simp [single, orL, h]
      rw [this]
      simp [single, orL]
    rw [e, downS_or]
    simp [h]
  · have e : downF (single k) p = single k := by
      funext i
      rw [downF_at]
      have : single k p.1 = false := by simp [single, orL]; exact fun e => h e.symm
      rw [this]
      simp
    rw [e]
    simp [h]

/-- Who is up from one has it down. -/
theorem up_down (ps : List PN) : ∀ k id : Nat, upS (single id) ps k = downS (single k) ps id := by
  induction ps with
  | nil =>
    intro k id
    show single id k = single k id
    simp only [single, orL, List.contains_cons, List.contains_nil, Bool.false_or, Bool.or_false]
    by_cases h : k = id
    · subst h; rfl
    · rw [beq_eq_false_iff_ne.2 h, beq_eq_false_iff_ne.2 (fun e => h e.symm)]
  | cons p ps ih =>
    intro k id
    rw [upS_cons, upF_at, downS_cons1, ih, ih]
    cases downS (single k) ps id <;> cases downS (single p.2.1) ps id <;> simp
/-- What was poured goes from lesser numbers to greater ones. -/
theorem down_le (ps : List PN) (h : ∀ p ∈ ps, p.1 < p.2.1) : ∀ k id : Nat, downS (single k) ps id = true → k ≤ id := by
  induction ps with
  | nil =>
    intro k id e
    have : id = k := by simpa [downS, single, orL] using e
    omega
  | cons p ps ih =>
    intro k id e
    rw [downS_cons1] at e
    simp only [Bool.or_eq_true, Bool.and_eq_true, decide_eq_true_eq] at e
    have hp := h p (List.mem_cons_self ..)
    rcases e with e | ⟨e1, e2⟩
    · exact ih (fun q hq => h q (List.mem_cons_of_mem _ hq)) k id e
    · have := ih (fun q hq => h q (List.mem_cons_of_mem _ hq)) p.2.1 id e2
      omega

namespace Led
variable {L : Led}

def cmUp (n : Nat) : Cm := ⟨15, n, 0, 0, 0, 0, 0, 0, 0⟩
theorem cmUp_enc {n : Nat} (h : 1 ≤ n ∧ n ≤ 12) : encB (cmUp n).ints = true := by
  refine enc_of (fs := [0]) rfl (by simp only [cmUp]; omega) ?_ (all9.2 ⟨rfl, rfl, rfl, rfl, rfl, rfl, rfl, rfl, rfl⟩)
  simp [okAll, okB, lo, hi, off, Cm.ints, cmUp]; omega
def above (L : Led) (n : Nat) : List Nat := memG (kinS (upS (single n) L.ps) n)
theorem mem_above {n k : Nat} : k ∈ L.above n ↔ k < 1000 ∧ k ≠ n ∧ upS (single n) L.ps k = true := by
  unfold above memG memTo kinS
  rw [List.mem_filter, List.mem_range]
  constructor
  · rintro ⟨h1, h2⟩
    split at h2
    · cases h2
    · next e => exact ⟨h1, e, h2⟩
  · rintro ⟨h1, h2, h3⟩
    exact ⟨h1, by rw [if_neg h2]; exact h3⟩
theorem up_act (L : Led) (n : Nat) : L.act (cmUp n) = L := by simp [Led.act, cmUp]
theorem up_some {n : Nat} {q : PT} (h : L.tube n = some q) (hf : L.kvs.length ≤ 32) : L.stepE 32 (cmUp n) = 0 ∧ L.stepN 32 (cmUp n) = natsI (L.above n) ∧ L.stepL 32 (cmUp n) = L := by
  have he : L.err (cmUp n) = 0 := by
    simp [Led.err, Led.asksT, Led.asksO, Led.asksD, Led.asksB, cmUp, h, askAll, askI]
  have ht : L.tell (cmUp n) = natsI (L.above n) := by simp [Led.tell, cmUp, above]
  simp [Led.stepE, Led.stepN, Led.stepL, he, up_act, hf, ht]
theorem up_none {n : Nat} (h : L.tube n = Option.none) : L.stepE 32 (cmUp n) = 4 ∧ L.stepN 32 (cmUp n) = [] ∧ L.stepL 32 (cmUp n) = L := by
  have he : L.err (cmUp n) = 4 := by
    simp [Led.err, Led.asksT, Led.asksO, Led.asksD, Led.asksB, cmUp, h, askAll, askI]
  simp [Led.stepE, Led.stepN, Led.stepL, he]

/-- What Up and Down answer, an error's list too. -/
def upN (L : Led) (n : Nat) : List Nat := if (L.tube n).isSome then L.above n else []
def downN (L : Led) (n : Nat) : List Nat := if (L.tube n).isSome then L.below n else []
theorem down_tube (hI : L.Inv) {k id : Nat} (h : downS (single k) L.ps id = true) (hne : id ≠ k) : (L.tube id).isSome = true := by
  rcases downS_from L.ps _ id h with h1 | ⟨p, hp, rfl⟩
  · have e : id = k := by simpa [single, orL] using h1
    exact absurd e hne
  · exact (hI.wired p hp).2
theorem up_from (ps : List PN) : ∀ (S : Nat → Bool) (j : Nat), upS S ps j = true → S j = true ∨ ∃ p ∈ ps, p.1 = j := by
  induction ps with
  | nil => intro S j h; exact .inl h
  | cons p ps ih =>
    intro S j h
    rw [upS_cons, upF_at] at h
    simp only [Bool.or_eq_true, Bool.and_eq_true, decide_eq_true_eq] at h
    rcases h with h | h
    · rcases ih S j h with h1 | ⟨q, hq, e⟩
      · exact .inl h1
      · exact .inr ⟨q, List.mem_cons_of_mem _ hq, e⟩
    · exact .inr ⟨p, List.mem_cons_self .., h.2.symm⟩
theorem up_tube (hI : L.Inv) {k id : Nat} (h : upS (single id) L.ps k = true) (hne : k ≠ id) : (L.tube k).isSome = true := by
  rcases up_from L.ps _ k h with h1 | ⟨p, hp, rfl⟩
  · have e : k = id := by simpa [single, orL] using h1
    exact absurd e hne
  · exact (hI.wired p hp).1
theorem up_iff_down (hI : L.Inv) {k id : Nat} (hk : k < 1000) (hid : id < 1000) : k ∈ L.upN id ↔ id ∈ L.downN k := by
  unfold upN downN
  constructor
  · intro h
    split at h
    · next hi =>
      obtain ⟨_, hne, hu⟩ := mem_above.1 h
      rw [if_pos (up_tube hI hu hne)]
      rw [up_down] at hu
      exact mem_below.2 ⟨hid, fun e => hne e.symm, hu⟩
    · cases h
  · intro h
    split at h
    · next hi =>
      obtain ⟨_, hne, hu⟩ := mem_below.1 h
      rw [if_pos (down_tube hI hu hne)]
      rw [← up_down] at hu
      exact mem_above.2 ⟨hk, fun e => hne e.symm, hu⟩
    · cases h
theorem up_lt (hI : L.Inv) {k id : Nat} (h : k ∈ L.upN id) : k < id := by
  unfold upN at h
  split at h
  · obtain ⟨_, hne, hu⟩ := mem_above.1 h
    rw [up_down] at hu
    have := down_le L.ps (fun p hp => (hI.ok.p1 p hp).2.1) k id hu
    omega
  · cases h

end Led
end Go.Proofs.YtbpnllhhmookcaaGreatDoor

/- Apart's mathematics: what a box tells of its places. -/
namespace Go.Proofs.YtbpnllhhmookcaaGreatDoor
open Go.RowKit
namespace Led
variable {L : Led}

def cmCont (b : Nat) : Cm := ⟨13, 0, 0, 0, 0, b, 0, 0, 0⟩
theorem cmCont_enc {b : Nat} (h : 1 ≤ b ∧ b ≤ 2) : encB (cmCont b).ints = true := by
  refine enc_of (fs := [4]) rfl (by simp only [cmCont]; omega) ?_ (all9.2 ⟨rfl, rfl, rfl, rfl, rfl, rfl, rfl, rfl, rfl⟩)
  simp [okAll, okB, lo, hi, off, Cm.ints, cmCont]; omega
theorem cont_act (L : Led) (b : Nat) : L.act (cmCont b) = L := by simp [Led.act, cmCont]

/-- The tubes in a box. -/
def inB (L : Led) (b : Nat) : List TN := L.ts.filter (inBox b)
theorem inB_none (hI : L.Inv) {b : Nat} (hb : 1 ≤ b) (h : L.sideN b = 0) : L.inB b = [] := by
  refine List.filter_eq_nil_iff.2 fun t ht hp => ?_
  have := (in_range hI hb t ht hp).1
  omega
/-- Whether there is such a box or not, Content's numbers are those of the tubes in it. -/
theorem cont_step (hI : L.Inv) {b : Nat} (hb : 1 ≤ b) (hf : L.kvs.length ≤ 32) : L.stepN 32 (cmCont b) = contQ (L.inB b) ∧ L.stepL 32 (cmCont b) = L := by
  by_cases h : L.sideN b = 0
  · have he : L.err (cmCont b) = 9 := by
      simp only [Led.err, Led.asksT, Led.asksO, Led.asksD, Led.asksB, cmCont]
      simp [askAll, askI, h]
    rw [inB_none hI hb h]
    simp [Led.stepN, Led.stepL, he, contQ]
  · have he : L.err (cmCont b) = 0 := by
      simp only [Led.err, Led.asksT, Led.asksO, Led.asksD, Led.asksB, cmCont]
      simp [askAll, askI, h]
    have ht : L.tell (cmCont b) = contQ (L.inB b) := by simp [Led.tell, cmCont, inB]
    simp [Led.stepN, Led.stepL, he, cont_act, hf, ht]

theorem contQ_len : ∀ l : List TN, (contQ l).length = 3 * l.length
  | [] => rfl
  | t :: l => by
    have e : contQ (t :: l) = [(t.1 : Int), (t.2.x : Int), (t.2.y : Int)] ++ contQ l := rfl
    rw [e, List.length_append, contQ_len l]
    show 3 + 3 * l.length = 3 * (l.length + 1)
    omega
theorem contQ_at : ∀ (l : List TN) (i : Nat) (hi : i < l.length), (contQ l)[3 * i]? = some (l[i].1 : Int) ∧ (contQ l)[3 * i + 1]? = some (l[i].2.x : Int) ∧ (contQ l)[3 * i + 2]? = some (l[i].2.y : Int)
  | t :: l, 0, _ => ⟨rfl, rfl, rfl⟩
  | t :: l, i + 1, hi => by
    obtain ⟨h1, h2, h3⟩ := contQ_at l i (by simpa using hi)
    have e : contQ (t :: l) = [(t.1 : Int), (t.2.x : Int), (t.2.y : Int)] ++ contQ l := rfl
    rw [e]
    refine ⟨?_, ?_, ?_⟩
    · rw [List.getElem?_append_right (by show 3 ≤ _; omega), show 3 * (i + 1) - [(t.1 : Int), (t.2.x : Int), (t.2.y : Int)].length = 3 * i by show 3 * (i + 1) - 3 = _; omega]; exact h1
    · rw [List.getElem?_append_right (by show 3 ≤ _; omega), show 3 * (i + 1) + 1 - [(t.1 : Int), (t.2.x : Int), (t.2.y : Int)].length = 3 * i + 1 by show 3 * (i + 1) + 1 - 3 = _; omega]; exact h2
    · rw [List.getElem?_append_right (by show 3 ≤ _; omega), show 3 * (i + 1) + 2 - [(t.1 : Int), (t.2.x : Int), (t.2.y : Int)].length = 3 * i + 2 by show 3 * (i + 1) + 2 - 3 = _; omega]; exact h3

/-- A tube that a box tells is Stored there. -/
theorem inB_tube (hI : L.Inv) {b : Nat} (hb : 1 ≤ b) {t : TN} (h : t ∈ L.inB b) : L.tube t.1 = some t.2 ∧ t.2.status = 1 ∧ t.2.box = b := by
  obtain ⟨h1, h2⟩ := List.mem_filter.1 h
  have e : t.2.box = b := by simp only [inBox, decide_eq_true_eq] at h2; omega
  exact ⟨(tube_mem hI.ok).2 h1, (hI.box t h1).1 (by omega), e⟩
/-- Two tubes that a box tells: rising, and apart. -/
theorem inB_two (hI : L.Inv) {b : Nat} (hb : 1 ≤ b) {i j : Nat} (hij : i < j) (hj : j < (L.inB b).length) : ((L.inB b)[i]'(by omega)).1 < ((L.inB b)[j]).1 ∧ ¬ (((L.inB b)[i]'(by omega)).2.x = ((L.inB b)[j]).2.x ∧ ((L.inB b)[i]'(by omega)).2.y = ((L.inB b)[j]).2.y) := by
  have hp : (L.inB b).Pairwise fun a c => a.1 < c.1 := List.Pairwise.filter _ hI.ok.ts
  have hlt := (List.pairwise_iff_getElem.1 hp) i j (by omega) hj hij
  refine ⟨hlt, fun ⟨ex, ey⟩ => ?_⟩
  have mi := List.getElem_mem (l := L.inB b) (n := i) (by omega)
  have mj := List.getElem_mem (l := L.inB b) hj
  have bi := (inB_tube hI hb mi).2.2
  have bj := (inB_tube hI hb mj).2.2
  have := hI.apart _ (List.mem_filter.1 mi).1 _ (List.mem_filter.1 mj).1 (by omega) (by omega) ex ey
  omega

/-- Is tube n Stored? -/
def stN (L : Led) (n : Nat) : Bool := match L.tube n with
  | some q => decide (q.status = 1)
  | .none => false
/-- The stored tubes are those that the two boxes tell. -/
theorem stored_count (hI : L.Inv) (hS : L.Small) : ((List.range 13).filter fun n => L.stN n).length = (L.inB 1).length + (L.inB 2).length := by
  have e : (L.ts.filter fun t => decide (t.2.status = 1)).map Prod.fst = (List.range 13).filter fun n => L.stN n := by
    refine eq_of_pw (key := fun n : Nat => n) ?_ ?_ (fun n => ?_)
    · refine List.pairwise_map.2 ?_
      exact List.Pairwise.filter _ hI.ok.ts
    · exact List.Pairwise.filter _ List.pairwise_lt_range
    · rw [List.mem_map, List.mem_filter, List.mem_range]
      constructor
      · rintro ⟨t, ht, rfl⟩
        obtain ⟨t1, t2⟩ := List.mem_filter.1 ht
        have hq := (tube_mem hI.ok).2 t1
        refine ⟨by have := (hS _ _ hq).1; omega, ?_⟩
        unfold stN; rw [hq]; exact t2
      · rintro ⟨_, h⟩
        unfold stN at h
        cases hq : L.tube n with
        | none => rw [hq] at h; cases h
        | some q =>
          rw [hq] at h
          exact ⟨(n, q), List.mem_filter.2 ⟨(tube_mem hI.ok).1 hq, h⟩, rfl⟩
  have hcount : ∀ l : List TN, (∀ t ∈ l, (t.2.box ≠ 0 ↔ t.2.status = 1) ∧ t.2.box ≤ 2) → (l.filter fun t => decide (t.2.status = 1)).length = (l.filter (inBox ((1 : Nat) : Int))).length + (l.filter (inBox ((2 : Nat) : Int))).length := by
    intro l
    induction l with
    | nil => intro _; rfl
    | cons t l ih =>
      intro h
      have ih := ih (fun u hu => h u (List.mem_cons_of_mem _ hu))
      obtain ⟨h1, h2⟩ := h t (List.mem_cons_self ..)
      simp only [List.filter_cons]
      by_cases hs : t.2.status = 1
      · have hb : t.2.box = 1 ∨ t.2.box = 2 := by have := h1.2 hs; omega
        rw [if_pos (decide_eq_true hs)]
        rcases hb with hb | hb
        · rw [if_pos (show inBox ((1 : Nat) : Int) t = true from decide_eq_true (by omega)), if_neg (show ¬ inBox ((2 : Nat) : Int) t = true from fun e => by have := of_decide_eq_true e; omega), List.length_cons, List.length_cons, ih]
          omega
        · rw [if_neg (show ¬ inBox ((1 : Nat) : Int) t = true from fun e => by have := of_decide_eq_true e; omega), if_pos (show inBox ((2 : Nat) : Int) t = true from decide_eq_true (by omega)), List.length_cons, List.length_cons, ih]
          omega
      · have hb : t.2.box = 0 := by
          have : ¬ t.2.box ≠ 0 := fun e => hs (h1.1 e)
          omega
        rw [if_neg (by simpa using hs), if_neg (show ¬ inBox ((1 : Nat) : Int) t = true from fun e => by have := of_decide_eq_true e; omega), if_neg (show ¬ inBox ((2 : Nat) : Int) t = true from fun e => by have := of_decide_eq_true e; omega), ih]
  rw [← e, List.length_map]
  exact hcount L.ts (fun t ht => ⟨hI.box t ht, (hS t.1 t.2 ((tube_mem hI.ok).2 ht)).2.1⟩)

end Led
end Go.Proofs.YtbpnllhhmookcaaGreatDoor

/- What keeps a tree: a block whose first cell is no slice but a nil one, and that holds no key, is no node; an array of slices is such a block. -/
namespace Go.Proofs.YtbpnllhhmookcaaGreatDoor
open Go.RowKit Go.Shelf

def NoNodeS (W : World) (g : Nat) : Prop := (∀ a l c, W.cell? ⟨g, 0, none⟩ ≠ some (.slice (some a) l c)) ∧ (∀ o k, W.cell? ⟨g, o, none⟩ ≠ some (.int .u32 k))
theorem ents_sliceS {n₀ : Nat} {A : World} {v : Value} {es : List Ent} (h : EntsAt n₀ A v es) : ∃ a l c, v = .slice (some a) l c := by obtain ⟨g, o, cap, rfl, _⟩ := h; exact ⟨_, _, _, rfl⟩

theorem EntsAt.keptS {n₀ : Nat} {A B : World} {X : Nat → Prop} (hs : A.heap.size ≤ B.heap.size) (hk : ∀ g o v, ¬ X g → A.cell? ⟨g, o, none⟩ = some v → B.cell? ⟨g, o, none⟩ = some v) (hx : ∀ g, X g → NoNodeS A g) {v : Value} {es : List Ent} (h : EntsAt n₀ A v es) (hne : es ≠ []) : EntsAt n₀ B v es := by
  obtain ⟨g, o, cap, rfl, h1, h2, h3, h4, h5⟩ := h
  have hX : ¬ X g := fun h => (hx g h).2 _ _ (h5 0 (List.length_pos_iff.2 hne)).1
  exact ⟨g, o, cap, rfl, h1, h2, by omega, h4, fun i hi => ⟨hk _ _ _ hX (h5 i hi).1, hk _ _ _ hX (h5 i hi).2.1, hk _ _ _ hX (h5 i hi).2.2⟩⟩
theorem NodeAt.keptS {n₀ : Nat} {A B : World} {X : Nat → Prop} (hs : A.heap.size ≤ B.heap.size) (hk : ∀ g o v, ¬ X g → A.cell? ⟨g, o, none⟩ = some v → B.cell? ⟨g, o, none⟩ = some v) (hx : ∀ g, X g → NoNodeS A g) : ∀ {h b : Nat} {l : List KV}, NodeAt n₀ A h b l → NodeAt n₀ B h b l
  | 0, b, l, ⟨h1, v, es, h2, h3, h4, h5⟩ => by
    obtain ⟨s, n, c, rfl⟩ := ents_sliceS h3
    exact ⟨h1, _, es, hk _ _ _ (fun h => (hx b h).1 _ _ _ h2) h2, h3.keptS hs hk hx h4, h4, h5⟩
  | h + 1, b, l, ⟨h1, v, es, ls, h2, h3, h4, h5, h6, h7⟩ => by
    obtain ⟨s, n, c, rfl⟩ := ents_sliceS h3
    refine ⟨h1, _, es, ls, hk _ _ _ (fun h => (hx b h).1 _ _ _ h2) h2, h3.keptS hs hk hx h4, h4, h5, h6, fun i hi hj => ?_⟩
    obtain ⟨c, c1, c2, c3⟩ := h7 i hi hj
    exact ⟨c, c1, NodeAt.keptS hs hk hx c2, c3⟩
theorem TreeIs.keptS {n₀ : Nat} {A B : World} {X : Nat → Prop} (hs : A.heap.size ≤ B.heap.size) (hk : ∀ g o v, ¬ X g → A.cell? ⟨g, o, none⟩ = some v → B.cell? ⟨g, o, none⟩ = some v) (hx : ∀ g, X g → NoNodeS A g) {r : Option Addr} {l : List KV} (h : TreeIs n₀ A r l) : TreeIs n₀ B r l := by
  refine ⟨h.1, by have := h.2.1; omega, ?_⟩
  rcases h.2.2 with h0 | ⟨ht, b, e, hn⟩
  · exact .inl h0
  · exact .inr ⟨ht, b, e, hn.keptS hs hk hx⟩

/-- A store is kept by a store into a block that is none of it. -/
theorem KAt.setNo {w : World} {sb l b : Nat} {p : Int} {L : Led} (h : KAt w sb l p L) (ha : NoNodeS w b) (h1 : b ≠ sb) (h2 : b ≠ l) (j : Nat) (u : Value) : KAt (w.setCell ⟨b, j, none⟩ u) sb l p L := by
  obtain ⟨g, h⟩ := h
  have hks : Keeps (fun k => k = b) w (w.setCell ⟨b, j, none⟩ u) := (Keeps.refl (fun k => k = b) w).setCell (p := ⟨b, j, none⟩) (.inl rfl) _
  refine ⟨g, keeps_same hks (fun e => h1 e.symm) h.box, ?_, h.inv, h.ne⟩
  obtain ⟨⟨r, n₀, h3, h4⟩, h5, h6, h7⟩ := h.led
  refine ⟨⟨r, n₀, keeps_same hks (fun e => h2 e.symm) h3, h4.keptS (X := fun k => k = b) (by simp) (fun k o u' hk hc => ?_) (fun k hk => ?_)⟩, h5, h6, h7⟩
  · rw [World.cell?_of_block (w := w) (Below.heap_setCell w ⟨b, j, none⟩ _ k hk)]; exact hc
  · obtain rfl : k = b := hk
    exact ha

/-- Thirteen values in a block, the first of them as it was made. -/
def Vec (w : World) (b : Nat) (t : TypeId) (f : Nat → Value) : Prop := w.heap[b]? = some (.cells #[f 0, f 1, f 2, f 3, f 4, f 5, f 6, f 7, f 8, f 9, f 10, f 11, f 12] t (0, 0))
def updV (f : Nat → Value) (j : Nat) (v : Value) : Nat → Value := fun i => if i = j then v else f i
theorem Vec.cell {w : World} {b : Nat} {t : TypeId} {f : Nat → Value} (h : Vec w b t f) (j : Nat) (hj : j < 13) : w.cell? ⟨b, j, none⟩ = some (f j) := by
  have key : ∀ j, j < 13 → (#[f 0, f 1, f 2, f 3, f 4, f 5, f 6, f 7, f 8, f 9, f 10, f 11, f 12] : Array Value)[j]? = some (f j) := all13 ⟨rfl, rfl, rfl, rfl, rfl, rfl, rfl, rfl, rfl, rfl, rfl, rfl, rfl⟩
  simp only [World.cell?, show w.heap[b]? = _ from h]; exact key j hj
theorem Vec.fz {w : World} {b : Nat} {t : TypeId} {f : Nat → Value} (h : Vec w b t f) (j : Nat) : w.frozen? ⟨b, j, none⟩ = false := by simp [World.frozen?, show w.heap[b]? = _ from h]
theorem Vec.lt {w : World} {b : Nat} {t : TypeId} {f : Nat → Value} (h : Vec w b t f) : b < w.heap.size := (Array.getElem?_eq_some_iff.1 h).1
theorem Vec.keeps {S : Nat → Prop} {w w' : World} {b : Nat} {t : TypeId} {f : Nat → Value} (h : Vec w b t f) (hk : Keeps S w w') (hs : ¬ S b) : Vec w' b t f := (hk.block b h.lt hs).trans h
theorem Vec.below {w w' : World} {b : Nat} {t : TypeId} {f : Nat → Value} (h : Vec w b t f) (hk : Below w.heap.size w w') : Vec w' b t f := (hk.block b h.lt).trans h
theorem Vec.set {w : World} {b : Nat} {t : TypeId} {f : Nat → Value} (h : Vec w b t f) {j : Nat} (hj : j < 13) (v : Value) : Vec (w.setCell ⟨b, j, none⟩ v) b t (updV f j v) := by
  have key : ∀ j, j < 13 → (#[f 0, f 1, f 2, f 3, f 4, f 5, f 6, f 7, f 8, f 9, f 10, f 11, f 12] : Array Value).setIfInBounds j v = #[updV f j v 0, updV f j v 1, updV f j v 2, updV f j v 3, updV f j v 4, updV f j v 5, updV f j v 6, updV f j v 7, updV f j v 8, updV f j v 9, updV f j v 10, updV f j v 11, updV f j v 12] := all13 ⟨rfl, rfl, rfl, rfl, rfl, rfl, rfl, rfl, rfl, rfl, rfl, rfl, rfl⟩
  have := heap_setCell_same w b j _ _ v h
  rw [key j hj] at this
  exact this
theorem Vec.noNode {w : World} {b : Nat} {t : TypeId} {f : Nat → Value} (h : Vec w b t f) (h0 : ∀ a l c, f 0 ≠ .slice (some a) l c) (hu : ∀ j, j < 13 → ∀ k, f j ≠ .int .u32 k) : NoNodeS w b := by
  refine ⟨fun a l c e => ?_, fun o kk e => ?_⟩
  · rw [h.cell 0 (by omega)] at e; exact h0 a l c (Option.some.inj e)
  · by_cases ho : o < 13
    · rw [h.cell o ho] at e; exact hu o ho kk (Option.some.inj e)
    · unfold Vec at h
      simp only [World.cell?, h] at e
      rw [Array.getElem?_eq_none (by simp; omega)] at e
      cases e

end Go.Proofs.YtbpnllhhmookcaaGreatDoor

/- firnkeep.Withdrawn: what its rounds keep. -/
namespace Go.Proofs.YtbpnllhhmookcaaGreatDoor
open Go.RowKit Go.Shelf

theorem IntsIn.setOther {w : World} {v : Value} {zs : List Int} (h : IntsIn w v zs) {b : Nat} (hc0 : ∀ k, w.cell? ⟨b, 0, none⟩ ≠ some (.int .i64 k)) (j : Nat) (u : Value) : IntsIn (w.setCell ⟨b, j, none⟩ u) v zs := by
  rcases h with ⟨g, cap, rfl, hg, hc⟩ | h
  · refine .inl ⟨g, cap, rfl, by simpa using hg, fun i hi => ?_⟩
    have hne : g ≠ b := by
      rintro rfl
      exact hc0 _ (hc 0 (by omega))
    rw [World.cell?_of_block (w := w) (Below.heap_setCell w ⟨b, j, none⟩ u g hne)]
    exact hc i hi
  · exact .inr h

/-- What lies in memory at each round of Withdrawn: the store; what tubes were; what is gone; the donor's own. -/
structure WS (w : World) (sb l bw bg : Nat) (p : Int) (L : Led) (f : Nat → Value) (F : Nat → List Int) (G : Nat → Bool) (wr : World) : Prop where
  st : KAt wr sb l p L
  was : Vec wr bw 42 f
  gone : Vec wr bg 45 (fun j => .bool (G j))
  ints : ∀ j, j < 13 → IntsIn wr (f j) (F j)
  f0 : f 0 = .slice none 0 0
  bel : Below w.heap.size w wr
  far : w.heap.size ≤ sb ∧ w.heap.size ≤ l ∧ w.heap.size ≤ bw ∧ w.heap.size ≤ bg
  ne : bw ≠ sb ∧ bw ≠ l ∧ bg ≠ sb ∧ bg ≠ l ∧ bw ≠ bg

variable {w wr w' : World} {sb l bw bg : Nat} {p : Int} {L L' : Led} {f : Nat → Value} {F : Nat → List Int} {G : Nat → Bool}

theorem ints_form {v : Value} {zs : List Int} (h : IntsIn wr v zs) : ∃ s n c, v = .slice s n c := by
  rcases h with ⟨g, cap, rfl, _⟩ | ⟨rfl, _⟩
  · exact ⟨_, _, _, rfl⟩
  · exact ⟨_, _, _, rfl⟩
theorem WS.noWas (h : WS w sb l bw bg p L f F G wr) : NoNodeS wr bw := by
  refine h.was.noNode (fun a l c e => ?_) (fun j hj k e => ?_)
  · rw [h.f0] at e; cases e
  · obtain ⟨s, n, c, hf⟩ := ints_form (h.ints j hj)
    rw [hf] at e; cases e
theorem WS.noGone (h : WS w sb l bw bg p L f F G wr) : NoNodeS wr bg := h.gone.noNode (fun a l c e => by cases e) (fun j hj k e => by cases e)
theorem WS.below (h : WS w sb l bw bg p L f F G wr) (hb : Below wr.heap.size wr w') : WS w sb l bw bg p L f F G w' :=
  ⟨h.st.below hb, h.was.below hb, h.gone.below hb, fun j hj => (h.ints j hj).below' hb, h.f0, h.bel.trans (hb.mono h.bel.size), h.far, h.ne⟩
theorem WS.drewN (h : WS w sb l bw bg p L f F G wr) (n : Nat) : WS w sb l bw bg p L f F G (wr.drewN n) := h.below (below_drewN (Below.refl _ wr) n)
theorem WS.done (h : WS w sb l bw bg p L f F G wr) (hs : KAt w' sb l p L') (hk : Keeps (fun k => k = l) wr w') : WS w sb l bw bg p L' f F G w' :=
  ⟨hs, h.was.keeps hk h.ne.2.1, h.gone.keeps hk h.ne.2.2.2.1, fun j hj => (h.ints j hj).keepsL h.st.led hk, h.f0, below_keeps h.bel hk (fun _ e => e ▸ h.far.2.1), h.far, h.ne⟩
theorem WS.was0 (h : WS w sb l bw bg p L f F G wr) (k : Int) : wr.cell? ⟨bw, 0, none⟩ ≠ some (.int .i64 k) := by
  rw [h.was.cell 0 (by omega), h.f0]; exact fun e => by cases e
theorem WS.gone0 (h : WS w sb l bw bg p L f F G wr) (k : Int) : wr.cell? ⟨bg, 0, none⟩ ≠ some (.int .i64 k) := by
  rw [h.gone.cell 0 (by omega)]; exact fun e => by cases e
theorem WS.setWas (h : WS w sb l bw bg p L f F G wr) {j : Nat} (hj : 1 ≤ j ∧ j < 13) {v : Value} {zs : List Int} (hv : IntsIn wr v zs) : WS w sb l bw bg p L (updV f j v) (fun i => if i = j then zs else F i) G (wr.setCell ⟨bw, j, none⟩ v) := by
  have hks : Keeps (fun k => k = bw) wr (wr.setCell ⟨bw, j, none⟩ v) := (Keeps.refl (fun k => k = bw) wr).setCell (p := ⟨bw, j, none⟩) (.inl rfl) _
  refine ⟨h.st.setNo h.noWas h.ne.1 h.ne.2.1 j v, h.was.set hj.2 v, h.gone.keeps hks (fun e => h.ne.2.2.2.2 e.symm), fun i hi => ?_, ?_, below_keeps h.bel hks (fun _ e => e ▸ h.far.2.2.1), h.far, h.ne⟩
  · unfold updV
    by_cases e : i = j
    · rw [if_pos e, if_pos e]; exact hv.setOther h.was0 j v
    · rw [if_neg e, if_neg e]; exact (h.ints i hi).setOther h.was0 j v
  · unfold updV; rw [if_neg (by omega)]; exact h.f0
theorem WS.setGone (h : WS w sb l bw bg p L f F G wr) {j : Nat} (hj : j < 13) (b : Bool) : WS w sb l bw bg p L f F (fun i => if i = j then b else G i) (wr.setCell ⟨bg, j, none⟩ (.bool b)) := by
  have hks : Keeps (fun k => k = bg) wr (wr.setCell ⟨bg, j, none⟩ (.bool b)) := (Keeps.refl (fun k => k = bg) wr).setCell (p := ⟨bg, j, none⟩) (.inl rfl) _
  have hv : Vec (wr.setCell ⟨bg, j, none⟩ (.bool b)) bg 45 (fun i => .bool (if i = j then b else G i)) := by
    have := h.gone.set hj (.bool b)
    have e : updV (fun j => Value.bool (G j)) j (.bool b) = fun i => .bool (if i = j then b else G i) := by
      funext i; unfold updV; split <;> rfl
    rwa [e] at this
  exact ⟨h.st.setNo h.noGone h.ne.2.2.1 h.ne.2.2.2.1 j _, h.was.keeps hks h.ne.2.2.2.2, hv, fun i hi => (h.ints i hi).setOther h.gone0 j _, h.f0, below_keeps h.bel hks (fun _ e => e ▸ h.far.2.2.2), h.far, h.ne⟩

end Go.Proofs.YtbpnllhhmookcaaGreatDoor

/- firnkeep: the questions of a store, each in one form, whether refused or not; Withdrawn's start. -/
namespace Go.Proofs.YtbpnllhhmookcaaGreatDoor
open Go.RowKit Go.Shelf

/-- What Show tells, an error's list too. -/
def Led.showN (L : Led) (n : Nat) : List Int := match L.tube n with
  | some q => showQ q
  | .none => []

theorem kshow_any {sb l : Nat} {p : Int} {L : Led} {n : Nat} (hn : 1 ≤ n ∧ n ≤ 12) (w : World) (hS : KAt w sb l p L) :
    Calls Tryz.prog 12 #[.pointer (some ⟨sb, 0, none⟩), .agg #[.int .i64 12, .int .i64 n, .int .i64 0, .int .i64 0, .int .i64 0, .int .i64 0, .int .i64 0, .int .i64 0, .int .i64 0]] w fun e w' => ∃ vv x, e = .returned (.tuple #[vv, .int .i64 x]) ∧ IntsIn w' vv (L.showN n) ∧ KAt w' sb l p L ∧ Keeps (fun k => k = l) w w' := by
  unfold Led.showN
  cases hq : L.tube n with
  | some q =>
    refine (kshow_some hq hn w hS).mono ?_
    rintro e w' ⟨vv, rfl, h⟩
    exact ⟨vv, 0, rfl, h⟩
  | none =>
    refine (kshow_none hq hn w hS).mono ?_
    rintro e w' ⟨vv, rfl, h⟩
    exact ⟨vv, 4, rfl, h⟩
theorem kof_any {sb l : Nat} {p : Int} {L : Led} {d : Nat} (hd : 1 ≤ d ∧ d ≤ 3) (w : World) (hS : KAt w sb l p L) :
    Calls Tryz.prog 12 #[.pointer (some ⟨sb, 0, none⟩), .agg #[.int .i64 14, .int .i64 0, .int .i64 0, .int .i64 d, .int .i64 0, .int .i64 0, .int .i64 0, .int .i64 0, .int .i64 0]] w fun e w' => ∃ vv, e = .returned (.tuple #[vv, .int .i64 (if L.ids d = [] then 5 else 0)]) ∧ IntsIn w' vv (natsI (L.ids d)) ∧ KAt w' sb l p L ∧ Keeps (fun k => k = l) w w' := by
  have := kdone_any sb l p L (Led.cmOf d) (Led.cmOf_enc hd) w hS
  by_cases h : L.ids d = []
  · obtain ⟨e1, e2, e3⟩ := Led.of_none h
    rw [e1, e2, e3] at this
    rw [if_pos h, h]
    exact this
  · obtain ⟨e1, e2, e3⟩ := Led.of_some h hS.led.few
    rw [e1, e2, e3] at this
    rw [if_neg h]
    exact this
theorem kdown_any {sb l : Nat} {p : Int} {L : Led} {n : Nat} (hn : 1 ≤ n ∧ n ≤ 12) (w : World) (hS : KAt w sb l p L) :
    Calls Tryz.prog 12 #[.pointer (some ⟨sb, 0, none⟩), .agg #[.int .i64 16, .int .i64 n, .int .i64 0, .int .i64 0, .int .i64 0, .int .i64 0, .int .i64 0, .int .i64 0, .int .i64 0]] w fun e w' => ∃ vv x, e = .returned (.tuple #[vv, .int .i64 x]) ∧ IntsIn w' vv (natsI (L.downN n)) ∧ KAt w' sb l p L ∧ Keeps (fun k => k = l) w w' := by
  have := kdone_any sb l p L (Led.cmDown n) (Led.cmDown_enc hn) w hS
  unfold Led.downN
  cases hq : L.tube n with
  | some q =>
    obtain ⟨e1, e2, e3⟩ := Led.down_some hq hS.led.few
    rw [e1, e2, e3] at this
    refine this.mono ?_
    rintro e w' ⟨vv, rfl, h⟩
    exact ⟨vv, 0, rfl, h⟩
  | none =>
    obtain ⟨e1, e2, e3⟩ := Led.down_none hq
    rw [e1, e2, e3] at this
    refine this.mono ?_
    rintro e w' ⟨vv, rfl, h⟩
    exact ⟨vv, 4, rfl, h⟩
theorem kup_any {sb l : Nat} {p : Int} {L : Led} {n : Nat} (hn : 1 ≤ n ∧ n ≤ 12) (w : World) (hS : KAt w sb l p L) :
    Calls Tryz.prog 12 #[.pointer (some ⟨sb, 0, none⟩), .agg #[.int .i64 15, .int .i64 n, .int .i64 0, .int .i64 0, .int .i64 0, .int .i64 0, .int .i64 0, .int .i64 0, .int .i64 0]] w fun e w' => ∃ vv x, e = .returned (.tuple #[vv, .int .i64 x]) ∧ IntsIn w' vv (natsI (L.upN n)) ∧ KAt w' sb l p L ∧ Keeps (fun k => k = l) w w' := by
  have := kdone_any sb l p L (Led.cmUp n) (Led.cmUp_enc hn) w hS
  unfold Led.upN
  cases hq : L.tube n with
  | some q =>
    obtain ⟨e1, e2, e3⟩ := Led.up_some hq hS.led.few
    rw [e1, e2, e3] at this
    refine this.mono ?_
    rintro e w' ⟨vv, rfl, h⟩
    exact ⟨vv, 0, rfl, h⟩
  | none =>
    obtain ⟨e1, e2, e3⟩ := Led.up_none hq
    rw [e1, e2, e3] at this
    refine this.mono ?_
    rintro e w' ⟨vv, rfl, h⟩
    exact ⟨vv, 4, rfl, h⟩
theorem kcont_any {sb l : Nat} {p : Int} {L : Led} {b : Nat} (hb : 1 ≤ b ∧ b ≤ 2) (w : World) (hS : KAt w sb l p L) :
    Calls Tryz.prog 12 #[.pointer (some ⟨sb, 0, none⟩), .agg #[.int .i64 13, .int .i64 0, .int .i64 0, .int .i64 0, .int .i64 0, .int .i64 b, .int .i64 0, .int .i64 0, .int .i64 0]] w fun e w' => ∃ vv x, e = .returned (.tuple #[vv, .int .i64 x]) ∧ IntsIn w' vv (Led.contQ (L.inB b)) ∧ KAt w' sb l p L ∧ Keeps (fun k => k = l) w w' := by
  have := kdone_any sb l p L (Led.cmCont b) (Led.cmCont_enc hb) w hS
  obtain ⟨e2, e3⟩ := Led.cont_step hS.inv hb.1 hS.led.few
  rw [e2, e3] at this
  refine this.mono ?_
  rintro e w' ⟨vv, rfl, h⟩
  exact ⟨vv, _, rfl, h⟩
theorem kwd_any {sb l : Nat} {p : Int} {L : Led} {d : Nat} (hd : 1 ≤ d ∧ d ≤ 3) (w : World) (hS : KAt w sb l p L) :
    Calls Tryz.prog 12 #[.pointer (some ⟨sb, 0, none⟩), .agg #[.int .i64 9, .int .i64 0, .int .i64 0, .int .i64 d, .int .i64 0, .int .i64 0, .int .i64 0, .int .i64 0, .int .i64 0]] w fun e w' => ∃ vv, e = .returned (.tuple #[vv, .int .i64 (if L.ids d = [] then 5 else 0)]) ∧ IntsIn w' vv (if L.ids d = [] then [] else [((L.hits d).length : Int)]) ∧ KAt w' sb l p (if L.ids d = [] then L else L.wdL d) ∧ Keeps (fun k => k = l) w w' := by
  have := kdone_any sb l p L (Led.cmWd d) (r_withdraw hd).enc w hS
  by_cases h : L.ids d = []
  · obtain ⟨e1, e2, e3⟩ := Led.wd_none h
    rw [e1, e2, e3] at this
    rw [if_pos h, if_pos h, if_pos h]
    exact this
  · obtain ⟨e1, e2, e3⟩ := Led.wd_some hS.inv h hS.led.few
    rw [e1, e2, e3] at this
    rw [if_neg h, if_neg h, if_neg h]
    exact this

end Go.Proofs.YtbpnllhhmookcaaGreatDoor

/- firnkeep.Withdrawn: its two arrays, as they are made. -/
namespace Go.Proofs.YtbpnllhhmookcaaGreatDoor
open Go.RowKit Go.Shelf

theorem ws_start {w w3 : World} {sb l : Nat} {p p0 : Int} {L L0 : Led} {k : Nat} (h : PS w sb l k p0 L0 p L w3) :
    WS w sb l w3.heap.size (w3.heap.size + 1) p L (fun _ => .slice none 0 0) (fun _ => []) (fun _ => false)
      ((w3.alloc (.cells #[.slice none 0 0, .slice none 0 0, .slice none 0 0, .slice none 0 0, .slice none 0 0, .slice none 0 0, .slice none 0 0, .slice none 0 0, .slice none 0 0, .slice none 0 0, .slice none 0 0, .slice none 0 0, .slice none 0 0] 42)).alloc (.cells #[.bool false, .bool false, .bool false, .bool false, .bool false, .bool false, .bool false, .bool false, .bool false, .bool false, .bool false, .bool false, .bool false] 45)) := by
  have hb2 : Below w3.heap.size w3 ((w3.alloc (.cells #[.slice none 0 0, .slice none 0 0, .slice none 0 0, .slice none 0 0, .slice none 0 0, .slice none 0 0, .slice none 0 0, .slice none 0 0, .slice none 0 0, .slice none 0 0, .slice none 0 0, .slice none 0 0, .slice none 0 0] 42)).alloc (.cells #[.bool false, .bool false, .bool false, .bool false, .bool false, .bool false, .bool false, .bool false, .bool false, .bool false, .bool false, .bool false, .bool false] 45)) := ((Below.refl _ w3).alloc (Nat.le_refl _) _).alloc (by simp) _
  have hlt := h.st.lt
  refine ⟨h.st.below hb2, ?_, ?_, fun _ _ => .inr ⟨rfl, rfl⟩, rfl, h.bel.trans (hb2.mono h.bel.size), ⟨h.far.1, h.far.2, h.bel.size, by have := h.bel.size; omega⟩, ⟨by omega, by omega, by omega, by omega, by omega⟩⟩
  · unfold Vec
    rw [Below.heap_alloc _ _ _ (by simp)]
    show (w3.heap.push _)[w3.heap.size]? = _
    rw [Array.getElem?_push_size]
  · unfold Vec
    show ((w3.heap.push _).push _)[w3.heap.size + 1]? = _
    rw [show w3.heap.size + 1 = (w3.heap.push (.cells #[.slice none 0 0, .slice none 0 0, .slice none 0 0, .slice none 0 0, .slice none 0 0, .slice none 0 0, .slice none 0 0, .slice none 0 0, .slice none 0 0, .slice none 0 0, .slice none 0 0, .slice none 0 0, .slice none 0 0] 42)).size by simp]
    exact Array.getElem?_push_size ..

end Go.Proofs.YtbpnllhhmookcaaGreatDoor

/- Withdrawn's mathematics: what is gone as the first loop finds it; the count of the second loop; lists are short. -/
namespace Go.Proofs.YtbpnllhhmookcaaGreatDoor
open Go.RowKit Go.Shelf

/-- What is gone, as the first loop finds it ahead of round c. -/
def gAt (L : Led) (d c j : Nat) : Bool := (List.range c).any fun z => decide (1 ≤ z) && ((L.ids d).contains z && (j == z || (L.downN z).contains j))
theorem gAt_succ (L : Led) (d c j : Nat) (hc : 1 ≤ c) : gAt L d (c + 1) j = (gAt L d c j || ((L.ids d).contains c && (j == c || (L.downN c).contains j))) := by
  unfold gAt
  rw [List.range_succ, List.any_append]
  simp [hc]
theorem among_nats (zs : List Nat) (c : Nat) : ((natsI zs).any fun x => x == (c : Int)) = zs.contains c := by
  induction zs with
  | nil => rfl
  | cons a l ih =>
    have e : natsI (a :: l) = (a : Int) :: natsI l := rfl
    rw [e, List.any_cons, ih, List.contains_cons]
    congr 1
    by_cases h : a = c
    · subst h; simp
    · rw [beq_eq_false_iff_ne.2 (by omega), beq_eq_false_iff_ne.2 (fun e => h e.symm)]
theorem natsI_len (zs : List Nat) : (natsI zs).length = zs.length := by simp [natsI]
theorem ids_few {L : Led} (d : Nat) (h : L.kvs.length ≤ 32) : (natsI (L.ids d)).length < 1000000 := by
  rw [natsI_len]
  have h1 : (L.ids d).length ≤ L.ts.length := by
    unfold Led.ids
    rw [List.length_map]
    exact List.length_filter_le _ _
  have h2 : L.kvs.length = L.bs.length + L.ts.length + L.ps.length := by simp [Led.kvs]; omega
  omega
theorem memG_few (S : Nat → Bool) : (natsI (memG S)).length < 1000000 := by
  rw [natsI_len]
  have := memTo_len S 1000
  unfold memG
  omega
theorem downN_few (L : Led) (n : Nat) : (natsI (L.downN n)).length < 1000000 := by
  unfold Led.downN
  split
  · exact memG_few _
  · exact Nat.zero_lt_succ _
theorem upN_few (L : Led) (n : Nat) : (natsI (L.upN n)).length < 1000000 := by
  unfold Led.upN
  split
  · exact memG_few _
  · exact Nat.zero_lt_succ _
theorem showN_few (L : Led) (n : Nat) : (L.showN n).length < 1000000 := by
  unfold Led.showN
  split
  · simp [showQ]
  · exact Nat.zero_lt_succ _
theorem ids_small {L : Led} (hI : L.Inv) (hS : L.Small) {d z : Nat} (h : z ∈ L.ids d) : 1 ≤ z ∧ z ≤ 12 := by
  obtain ⟨t, ht, rfl⟩ := List.mem_map.1 h
  have hm := (List.mem_filter.1 ht).1
  have h1 := (hI.ok.t1 t hm).1
  have h2 := (hS t.1 t.2 ((Led.tube_mem hI.ok).2 hm)).1
  omega
theorem gone_at {L : Led} (hI : L.Inv) (hS : L.Small) (d j : Nat) (h2 : j < 13) : gAt L d 13 j = L.goneS d j := by
  rw [Bool.eq_iff_iff, Led.goneS_iff L d j (by omega)]
  unfold gAt
  rw [List.any_eq_true]
  constructor
  · rintro ⟨z, hz, h⟩
    simp only [Bool.and_eq_true, Bool.or_eq_true, decide_eq_true_eq, beq_iff_eq, List.contains_iff_mem] at h
    obtain ⟨_, hid, h | h⟩ := h
    · subst h; exact .inl hid
    · refine .inr ⟨z, hid, ?_⟩
      unfold Led.downN at h
      rwa [if_pos (Led.ids_tube hI hid)] at h
  · intro h
    have key : ∃ z, z ∈ L.ids d ∧ (j = z ∨ j ∈ L.downN z) := by
      rcases h with h | ⟨z, hz, h⟩
      · exact ⟨j, h, .inl rfl⟩
      · refine ⟨z, hz, .inr ?_⟩
        unfold Led.downN
        rwa [if_pos (Led.ids_tube hI hz)]
    obtain ⟨z, hz, h⟩ := key
    have hs := ids_small hI hS hz
    refine ⟨z, List.mem_range.2 (by omega), ?_⟩
    simp only [Bool.and_eq_true, Bool.or_eq_true, decide_eq_true_eq, beq_iff_eq, List.contains_iff_mem]
    exact ⟨hs.1, hz, h⟩

/-- How many were struck below number c. -/
def hitC (L : Led) (d c : Nat) : Nat := ((List.range c).filter fun n => L.hitN d n).length
theorem hitC_succ (L : Led) (d c : Nat) : hitC L d (c + 1) = hitC L d c + if L.hitN d c then 1 else 0 := by
  unfold hitC
  rw [List.range_succ, List.filter_append, List.length_append]
  congr 1
  cases h : L.hitN d c <;> simp [h]
theorem hitC_le (L : Led) (d c : Nat) : hitC L d c ≤ c := by
  have := List.length_filter_le (fun n => L.hitN d n) (List.range c)
  rw [List.length_range] at this
  exact this
theorem tube_zero {L : Led} (hI : L.Inv) : L.tube 0 = .none := by
  cases h : L.tube 0 with
  | none => rfl
  | some q => have := (hI.ok.t1 _ ((Led.tube_mem hI.ok).1 h)).1; simp at this
theorem hitC_one {L : Led} (hI : L.Inv) (d : Nat) : hitC L d 1 = 0 := by
  have : hitC L d 1 = hitC L d 0 + if L.hitN d 0 then 1 else 0 := hitC_succ L d 0
  rw [this]
  have h0 : L.hitN d 0 = false := by unfold Led.hitN; rw [tube_zero hI]
  rw [h0]; rfl
theorem hitN_not {L : Led} {d n : Nat} (h : L.goneS d n = false) : L.hitN d n = false := by
  unfold Led.hitN
  split
  · rw [h]; rfl
  · rfl
theorem hitN_gone {L : Led} {d n : Nat} {q : PT} (h : L.goneS d n = true) (hq : L.tube n = some q) : L.hitN d n = !decide (q.status = 3) := by
  unfold Led.hitN
  rw [hq]
  simp [h]

end Go.Proofs.YtbpnllhhmookcaaGreatDoor
