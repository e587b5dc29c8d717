/- The closures that change a record: move, pour, use, take, giveBack, destroy, flip, turn. -/
import Derived.Test.YtbpnllhhmookcaaGreatDoorKk22
import Derived.Test.YtbpnllhhmookcaaGreatDoorKk13
import Derived.Test.YtbpnllhhmookcaaGreatDoorKk19
import Derived.Test.YtbpnllhhmookcaaGreatDoorKk18
import Derived.Test.YtbpnllhhmookcaaGreatDoorKk20
namespace Go.Proofs.YtbpnllhhmookcaaGreatDoor
open Go.RowKit Go.Shelf
attribute [local go_sem] run_store_cplx

theorem rec_set1 {u : World} {p : Nat} {q q' : PT} {i : Nat} {v : Value} (hR : RecBox u p q.cells) (h : q.cells.set! i v = q'.cells) : RecBox (u.setCell ⟨p, i, none⟩ v) p q'.cells ∧ Keeps (fun k => k = p) u (u.setCell ⟨p, i, none⟩ v) := by
  refine ⟨?_, (Keeps.refl (fun k => k = p) u).setCell (p := ⟨p, i, none⟩) (.inl rfl) _⟩
  rw [← h]; exact hR.set i v

set_option maxHeartbeats 4000000 in
theorem pour1_turns {w : World} {cb : Nat} {c : Nat → Int} {q : PT} {v : Nat} (hC : Has w cb c) (hl : cb < w.heap.size) (hv : c 4 = v) (hle : v ≤ q.left) (hq : q.Ok) :
    Turns 133 #[.pointer (some ⟨cb, 0, none⟩)] w.heap.size w q { q with left := q.left - v } := by
  intro u p hb hp hR
  have hz := hq.left
  have hE := hid (rec_set1 (q' := { q with left := q.left - v }) (i := 6) (v := .int .i64 ((q.left : Int) - v)) hR (by simp [PT.cells]; omega))
  obtain ⟨c0, c1, c2, c3, c4, c5, c6, c7, c8⟩ := hR.cells
  have f6 := hR.fz 6
  have k4 := (hb.cell (p := ⟨cb, 4, none⟩) hl).trans (hC.1 4 (by omega))
  rw [hv] at k4
  clear hR hC
  simp only [List.append_toArray, List.cons_append, List.nil_append]
  go_enter Tryz.func133, Tryz.ntmps133
  go_wp2_with fail
  go_region
  go_end0
  exact ⟨rfl, hE.out.1, hE.out.2.drew⟩

set_option maxHeartbeats 4000000 in
theorem pour2_turns {w : World} {cb : Nat} {c : Nat → Int} {q : PT} {v : Nat} (hC : Has w cb c) (hl : cb < w.heap.size) (hv : c 4 = v) (hle : v ≤ 16777216) (hq : q.Ok) :
    Turns 134 #[.pointer (some ⟨cb, 0, none⟩)] w.heap.size w q { q with left := q.left + v } := by
  intro u p hb hp hR
  have hz := hq.left
  have hE := hid (rec_set1 (q' := { q with left := q.left + v }) (i := 6) (v := .int .i64 ((q.left : Int) + v)) hR (by simp [PT.cells]))
  obtain ⟨c0, c1, c2, c3, c4, c5, c6, c7, c8⟩ := hR.cells
  have f6 := hR.fz 6
  have k4 := (hb.cell (p := ⟨cb, 4, none⟩) hl).trans (hC.1 4 (by omega))
  rw [hv] at k4
  clear hR hC
  simp only [List.append_toArray, List.cons_append, List.nil_append]
  go_enter Tryz.func134, Tryz.ntmps134
  go_wp2_with fail
  go_region
  go_end0
  exact ⟨rfl, hE.out.1, hE.out.2.drew⟩

set_option maxHeartbeats 4000000 in
theorem take_turns {w : World} {q : PT} : Turns 137 #[] w.heap.size w q (q.gone 2) := by
  intro u p hb hp hR
  have hL := leave_any p q 2 u hR
  simp only [List.append_toArray, List.cons_append, List.nil_append]
  go_enter Tryz.func137, Tryz.ntmps137
  go_wp2_with (go_at_call 138; refine hL.mono ?_; clear hL; rintro e u1 ⟨rfl, h1, h2⟩)
  go_end0
  exact ⟨rfl, h1, h2⟩

def PT.lostAll (q : PT) : PT := { (q.gone 3) with lost := q.left, left := 0 }

set_option maxHeartbeats 4000000 in
theorem destroy_turns {w : World} {q : PT} : Turns 142 #[] w.heap.size w q q.lostAll := by
  intro u p hb hp hR
  have hk : RecBox ((u.setCell ⟨p, 8, none⟩ (.int .i64 q.left)).setCell ⟨p, 6, none⟩ (.int .i64 0)) p ({ q with lost := q.left, left := 0 } : PT).cells ∧ Keeps (fun k => k = p) u ((u.setCell ⟨p, 8, none⟩ (.int .i64 q.left)).setCell ⟨p, 6, none⟩ (.int .i64 0)) := by
    refine ⟨?_, ((Keeps.refl (fun k => k = p) u).setCell (p := ⟨p, 8, none⟩) (.inl rfl) _).setCell (p := ⟨p, 6, none⟩) (.inl rfl) _⟩
    have := (hR.set 8 (.int .i64 q.left)).set 6 (.int .i64 0)
    simp only [PT.cells, Array.set!_eq_setIfInBounds, List.setIfInBounds_toArray, List.set_cons_zero, List.set_cons_succ] at this
    exact this
  have HK := hid hk
  have HL := hid (leave_any p _ 3 _ hk.1)
  obtain ⟨c0, c1, c2, c3, c4, c5, c6, c7, c8⟩ := hR.cells
  have f6 := hR.fz 6
  have f8 := hR.fz 8
  clear hR hk
  simp only [List.append_toArray, List.cons_append, List.nil_append]
  go_enter Tryz.func142, Tryz.ntmps142
  go_wp2_with (go_at_call 138; refine HL.out.mono ?_; clear HL; rintro e u1 ⟨rfl, h1, h2⟩)
  go_end0
  exact ⟨rfl, h1, HK.out.2.trans h2⟩


set_option maxHeartbeats 4000000 in
theorem use_turns {w : World} {cb : Nat} {c : Nat → Int} {q : PT} {v : Nat} (hC : Has w cb c) (hl : cb < w.heap.size) (hv : c 4 = v) (hle : v ≤ q.left) (hq : q.Ok) :
    Turns 136 #[.pointer (some ⟨cb, 0, none⟩)] w.heap.size w q { q with left := q.left - v, used := q.used + v } := by
  intro u p hb hp hR
  have hz := hq.left
  have hz7 := hq.used
  have hE := hid (rec_set1 (q' := { q with left := q.left - v }) (i := 6) (v := .int .i64 ((q.left : Int) - v)) hR (by simp [PT.cells]; omega))
  have hE2 := hid (rec_set1 (q' := { q with left := q.left - v, used := q.used + v }) (i := 7) (v := .int .i64 ((q.used : Int) + v)) (hE.out.1) (by simp [PT.cells]))
  obtain ⟨c0, c1, c2, c3, c4, c5, c6, c7, c8⟩ := hR.cells
  have f6 := hR.fz 6
  have f7 := hR.fz 7
  have k4 := (hb.cell (p := ⟨cb, 4, none⟩) hl).trans (hC.1 4 (by omega))
  rw [hv] at k4
  have hne : p ≠ cb := by omega
  clear hR hC
  simp only [List.append_toArray, List.cons_append, List.nil_append]
  go_enter Tryz.func136, Tryz.ntmps136
  go_wp2_with fail
  go_region
  go_wp2_with fail
  go_region
  go_end0
  exact ⟨rfl, hE2.out.1, (hE.out.2.trans hE2.out.2).drew.drew⟩

end Go.Proofs.YtbpnllhhmookcaaGreatDoor

/- The closure that gives a tube back. -/
namespace Go.Proofs.YtbpnllhhmookcaaGreatDoor
open Go.RowKit Go.Shelf
attribute [local go_sem] run_store_cplx

def PT.backAt (q : PT) (bx px py : Nat) : PT := { (q.stored bx px py) with thaws := min (q.thaws + 1) 9 }

set_option maxHeartbeats 4000000 in
theorem give_turns {w : World} {cb : Nat} {c : Nat → Int} {q : PT} {bx px py : Nat} (hq : q.Ok) (hC : Has w cb c) (hl : cb < w.heap.size) (h5 : c 5 = bx) (h6 : c 6 = px) (h7 : c 7 = py) (hx : px < 5) (hy : py < 5) :
    Turns 139 #[.pointer (some ⟨cb, 0, none⟩)] w.heap.size w q (q.backAt bx px py) := by
  intro u p hb hp hR
  have HS := hid (store_any p q bx px py u.drew hR)
  have hpl := @placeAt_any px py hx hy
  have k5 := (hb.cell (p := ⟨cb, 5, none⟩) hl).trans (hC.1 5 (by omega))
  have k6 := (hb.cell (p := ⟨cb, 6, none⟩) hl).trans (hC.1 6 (by omega))
  have k7 := (hb.cell (p := ⟨cb, 7, none⟩) hl).trans (hC.1 7 (by omega))
  have hth := hq.thaws
  rw [h5] at k5
  rw [h6] at k6
  rw [h7] at k7
  simp only [pl] at HS hpl
  clear hR hC
  simp only [List.append_toArray, List.cons_append, List.nil_append]
  go_enter Tryz.func139, Tryz.ntmps139
  go_wp2_with fail
  go_region_with (first
    | (go_at_call 124; refine (hpl _).mono ?_; rintro e w' ⟨rfl, rfl⟩)
    | (go_at_call 129; refine HS.out.mono ?_; clear HS; rintro e u1 ⟨rfl, hr1, hk1⟩))
  all_goals
    have hE := hid (fun t (ht : t = min ((q.thaws : Int) + 1) 9) => rec_set1 (q' := q.backAt bx px py) (i := 4) (v := .int .i64 t) hr1 (by subst ht; simp [PT.cells, PT.backAt, PT.stored]; omega))
    have c4 := hr1.cells.c4
    have f4 := hr1.fz 4
    simp only [PT.stored] at c4
    have HK := hid (((Keeps.refl (fun k => k = p) u).drew).trans hk1)
    clear hr1 hk1
    by_cases h9 : (q.thaws : Int) + 1 ≤ 9
    · obtain ⟨e1, e2⟩ := hE.out ((q.thaws : Int) + 1) (by omega)
      have HE := hid (And.intro e1 e2)
      clear hE e1 e2
      go_wp2
      go_end0
      exact ⟨rfl, HE.out.1, HK.out.trans HE.out.2⟩
    · obtain ⟨e1, e2⟩ := hE.out 9 (by omega)
      have HE := hid (And.intro e1 e2)
      clear hE e1 e2
      go_wp2
      go_end0
      exact ⟨rfl, HE.out.1, HK.out.trans HE.out.2⟩

end Go.Proofs.YtbpnllhhmookcaaGreatDoor

/- The closures that flip and turn. -/
namespace Go.Proofs.YtbpnllhhmookcaaGreatDoor
open Go.RowKit Go.Shelf
attribute [local go_sem] run_store_cplx

set_option maxHeartbeats 4000000 in
theorem flip_turns {w : World} {sb s : Nat} {q : PT} (hC : w.cell? ⟨sb, 0, none⟩ = some (.int .i64 s)) (hl : sb < w.heap.size) (hx : q.x < s) (hy : q.y < s) (hs : s < 6) :
    Turns 146 #[.pointer (some ⟨sb, 0, none⟩)] w.heap.size w q { q with x := s - 1 - q.x } := by
  intro u p hb hp hR
  have hfl := @flipped_any s q.x q.y hx hy hs
  have hE := hid (rec_set1 (q' := { q with x := s - 1 - q.x }) (i := 0) (v := .complex .f64 (fl (s - 1 - q.x)) (fl q.y)) hR (by simp [PT.cells, pl]))
  obtain ⟨c0, c1, c2, c3, c4, c5, c6, c7, c8⟩ := hR.cells
  have f0 := hR.fz 0
  have k0 := (hb.cell (p := ⟨sb, 0, none⟩) hl).trans hC
  simp only [pl] at hfl
  clear hR hC
  simp only [List.append_toArray, List.cons_append, List.nil_append]
  go_enter Tryz.func146, Tryz.ntmps146
  go_wp2_with fail
  go_region_with (go_at_call 147; refine (hfl _).mono ?_; rintro e w' ⟨rfl, rfl⟩)
  all_goals go_end0
  all_goals exact ⟨rfl, hE.out.1, hE.out.2.drew⟩

/-- So many quarters. -/
def turnXY (s : Nat) : Nat → Nat × Nat → Nat × Nat
  | 0, p => p
  | k + 1, p => (s - 1 - (turnXY s k p).2, (turnXY s k p).1)
theorem turnXY_lt {s : Nat} {p : Nat × Nat} (h1 : p.1 < s) (h2 : p.2 < s) : ∀ k, (turnXY s k p).1 < s ∧ (turnXY s k p).2 < s
  | 0 => ⟨h1, h2⟩
  | k + 1 => by have := turnXY_lt h1 h2 k; simp only [turnXY]; omega
def PT.turnedBy (q : PT) (s k : Nat) : PT := { q with x := (turnXY s k (q.x, q.y)).1, y := (turnXY s k (q.x, q.y)).2 }

set_option maxRecDepth 8000 in
set_option maxHeartbeats 4000000 in
theorem turn_turns {w : World} {cb sb s n : Nat} {c : Nat → Int} {q : PT} (hC : Has w cb c) (hl : cb < w.heap.size) (h8 : c 8 = n) (hn : n < 100) (hS : w.cell? ⟨sb, 0, none⟩ = some (.int .i64 s)) (hsl : sb < w.heap.size) (hx : q.x < s) (hy : q.y < s) (hs : s < 6) :
    Turns 144 #[.pointer (some ⟨cb, 0, none⟩), .pointer (some ⟨sb, 0, none⟩)] w.heap.size w q (q.turnedBy s n) := by
  intro u p hb hp hR
  have k8 := (hb.cell (p := ⟨cb, 8, none⟩) hl).trans (hC.1 8 (by omega))
  have k0 := (hb.cell (p := ⟨sb, 0, none⟩) hsl).trans hS
  have hus := hb.size
  rw [h8] at k8
  have HR := hid hR
  clear hR hC hS
  simp only [List.append_toArray, List.cons_append, List.nil_append]
  go_enter Tryz.func144, Tryz.ntmps144
  go_wp2_with fail
  go_loopg [6] n (fun gk i wr => ∃ m : Nat, m + gk = n ∧ i = .int .i64 m ∧ RecBox wr p (q.turnedBy s m).cells ∧ Keeps (fun k => k = p) u wr)
  case atStart => exact ⟨0, by omega, rfl, HR.out, Keeps.refl _ _⟩
  case round =>
    obtain ⟨m, hm, rfl, hr, hk⟩ := hrel
    have HM := hid hm
    have hmle : m ≤ n := by omega
    clear hm
    by_cases hlt : m < n
    · have hlt' : (m : Int) < (n : Int) := by omega
      have hb2 := turnXY_lt (p := (q.x, q.y)) hx hy m
      have hfl := @turned_any s (q.turnedBy s m).x (q.turnedBy s m).y hb2.1 hb2.2 hs
      have hE := hid (rec_set1 (q' := q.turnedBy s (m + 1)) (i := 0) (v := .complex .f64 (fl (s - 1 - (q.turnedBy s m).y)) (fl (q.turnedBy s m).x)) hr (by simp [PT.cells, pl, PT.turnedBy, turnXY]))
      have c0 := hr.cells.c0
      have f0 := hr.fz 0
      have k1 := (hk.cell (p := ⟨sb, 0, none⟩) (by show sb < _; omega) (by show sb ≠ p; omega)).trans k0
      have HK := hid hk
      simp only [pl] at hfl
      clear hr hk hb2
      generalize (q.turnedBy s m).x = xx at *
      generalize (q.turnedBy s m).y = yy at *
      go_wp2_with fail
      go_region_with (go_at_call 145; refine (hfl _).mono ?_; rintro e w' ⟨rfl, rfl⟩)
      all_goals go_wp2_with fail
      all_goals
        go_roundg (gk - 1)
        case measure => have := HM.out; omega
        case rel => exact ⟨m + 1, by have := HM.out; omega, by go_num, hE.out.1, (HK.out.trans hE.out.2).drew⟩
    · have hme : m = n := by omega
      subst hme
      have hge : (m : Int) ≤ (m : Int) := by omega
      go_wp2
      go_end0
      exact ⟨rfl, hr, hk⟩

end Go.Proofs.YtbpnllhhmookcaaGreatDoor

/- The closure that moves a tube. -/
namespace Go.Proofs.YtbpnllhhmookcaaGreatDoor
open Go.RowKit Go.Shelf
attribute [local go_sem] run_store_cplx

set_option maxHeartbeats 4000000 in
theorem move_turns {w : World} {cb : Nat} {c : Nat → Int} {q : PT} {bx px py : Nat} (hC : Has w cb c) (hl : cb < w.heap.size) (h5 : c 5 = bx) (h6 : c 6 = px) (h7 : c 7 = py) (hx : px < 5) (hy : py < 5) :
    Turns 132 #[.pointer (some ⟨cb, 0, none⟩)] w.heap.size w q (q.stored bx px py) := by
  intro u p hb hp hR
  have HS := hid (store_any p q bx px py u.drew hR)
  have hpl := @placeAt_any px py hx hy
  have k5 := (hb.cell (p := ⟨cb, 5, none⟩) hl).trans (hC.1 5 (by omega))
  have k6 := (hb.cell (p := ⟨cb, 6, none⟩) hl).trans (hC.1 6 (by omega))
  have k7 := (hb.cell (p := ⟨cb, 7, none⟩) hl).trans (hC.1 7 (by omega))
  rw [h5] at k5
  rw [h6] at k6
  rw [h7] at k7
  simp only [pl] at HS hpl
  clear hR hC
  simp only [List.append_toArray, List.cons_append, List.nil_append]
  go_enter Tryz.func132, Tryz.ntmps132
  go_wp2_with fail
  go_region_with (first
    | (go_at_call 124; refine (hpl _).mono ?_; rintro e w' ⟨rfl, rfl⟩)
    | (go_at_call 129; refine HS.out.mono ?_; clear HS; rintro e u1 ⟨rfl, hr1, hk1⟩))
  all_goals go_end0
  all_goals exact ⟨rfl, hr1, ((Keeps.refl _ u).drew).trans hk1⟩

end Go.Proofs.YtbpnllhhmookcaaGreatDoor

/- What Show tells: numbers of a record. -/
namespace Go.Proofs.YtbpnllhhmookcaaGreatDoor
open Go.RowKit Go.Shelf
attribute [local go_sem] run_store_cplx

def showQ (q : PT) : List Int := [q.donor, q.began, q.left, q.used, q.lost, q.status, q.thaws, q.box, q.x, q.y]

theorem ints_new {B : Nat} (w : World) (zs : List Int) (hB : B ≤ w.heap.size) (hz : zs.length ≤ maxLen) {s : Nat} (hs : w.heap.size = s) : (w.alloc (.cells (intCells zs).toArray 3)).ownsRow B 3 1 (.slice (some ⟨s, 0, none⟩) zs.length zs.length) zs.length (intCells zs) := by
  subst hs
  have hl : (intCells zs).length = zs.length := by simp [intCells]
  refine ⟨by simp [intCells], .inr ⟨w.heap.size, zs.length, (intCells zs).toArray, rfl, hB, World.alloc_heap_new w _, Nat.le_refl _, hz, by simp [hl], ?_⟩⟩
  rw [Nat.mul_one, ← hl]; simp

set_option maxRecDepth 8000 in
set_option maxHeartbeats 1000000 in
theorem recNumbers_any (q : PT) (h : q.Ok) (w : World) :
    Calls Tryz.prog 148 #[q.val] w fun e w' => ∃ v, e = .returned v ∧ w'.ownsRow w.heap.size 3 1 v (showQ q).length (intCells (showQ q)) ∧ Below w.heap.size w w' := by
  have hx := @x_any q.x q.y h.x
  have hy := @y_any q.x q.y h.y
  have HE := hid (fun u (hu : u.heap.size = w.heap.size + 1) => ints_new (B := w.heap.size) u (showQ q) (by omega) (by show 10 ≤ maxLen; unfold maxLen; omega) hu)
  unfold PT.val PT.cells
  simp only [pl] at hx hy ⊢
  generalize fl q.x = fa at *
  generalize fl q.y = fb at *
  go_enter Tryz.func148, Tryz.ntmps148
  go_wp2_with fail
  refine wp_region_then 22 (by kernel_rfl) (by decide) (by kernel_rfl) (by kernel_rfl) (by kernel_rfl) (by kernel_rfl) ?_
  simp only [List.take_succ_cons, List.take_zero]
  repeat (go_big_quiet_step (first
    | (go_at_call 149; exact Calls.quiet_of_same (hx _))
    | (go_at_call 150; exact Calls.quiet_of_same (hy _))))
  refine wpQuiet_nil ?_
  rintro w2 ⟨nq, rfl⟩
  simp only [List.drop_succ_cons, List.drop_zero]
  go_wp2
  go_ret
  have hb1 : Below w.heap.size w (w.alloc (.cells #[.complex .f64 fa fb, .int .i64 q.box, .int .i64 q.donor, .int .i64 q.status, .int .i64 q.thaws, .int .i64 q.began, .int .i64 q.left, .int .i64 q.used, .int .i64 q.lost] 182)) := (Below.refl _ w).alloc (Nat.le_refl _) _
  exact ⟨_, rfl, HE.out ((w.alloc (.cells #[.complex .f64 fa fb, .int .i64 q.box, .int .i64 q.donor, .int .i64 q.status, .int .i64 q.thaws, .int .i64 q.began, .int .i64 q.left, .int .i64 q.used, .int .i64 q.lost] 182)).drewN nq) (by show (w.alloc _).heap.size = _; simp), (below_drewN hb1 nq).alloc (by have := hb1.size; exact this) _⟩

end Go.Proofs.YtbpnllhhmookcaaGreatDoor

/- A command on a ledger, as mathematics: its error, what it leaves, what it answers. -/
namespace Go.Proofs.YtbpnllhhmookcaaGreatDoor
open Go.RowKit Go.Shelf

abbrev Asks := List (Int × Bool)
def askAll (r : Int) (l : Asks) : Int := l.foldl (fun r p => askI r p.1 p.2) r
theorem askAll_append (r : Int) (a b : Asks) : askAll r (a ++ b) = askAll (askAll r a) b := by simp [askAll]

def PT.less (q : PT) (v : Nat) : PT := { q with left := q.left - v }
def PT.more (q : PT) (v : Nat) : PT := { q with left := q.left + v }
def PT.usedBy (q : PT) (v : Nat) : PT := { q with left := q.left - v, used := q.used + v }
def PT.flippedIn (q : PT) (s : Nat) : PT := { q with x := s - 1 - q.x }

namespace Led
variable (L : Led) (m : Cm)

def asksT : Asks :=
  if m.k = 4 ∨ m.k = 5 then [(6, decide (m.o ≤ m.t)), (8, decide ((L.tubeD m.t).left < m.v)), (7, ((L.tubeD m.t).status : Int) != 1), (4, !(L.tube m.t).isSome)]
  else if m.k = 3 ∨ m.k = 7 then [(7, ((L.tubeD m.t).status : Int) != 1), (4, !(L.tube m.t).isSome)]
  else if m.k = 12 ∨ m.k = 15 ∨ m.k = 16 then [(4, !(L.tube m.t).isSome)]
  else if m.k = 6 then [(8, decide ((L.tubeD m.t).left < m.v) || decide (1000000 < ((L.tubeD m.t).used : Int) + m.v)), (7, ((L.tubeD m.t).status : Int) == 3), (4, !(L.tube m.t).isSome)]
  else if m.k = 8 then [(7, ((L.tubeD m.t).status : Int) != 2), (4, !(L.tube m.t).isSome)]
  else if m.k = 2 then [(4, (L.tube m.t).isSome)]
  else []
def asksO : Asks :=
  if m.k = 4 then [(4, (L.tube m.o).isSome)]
  else if m.k = 5 then [(8, decide (1000000 < ((L.tubeD m.o).left : Int) + m.v)), (8, decide (1000000 < (L.pouredN m.t m.o : Int) + m.v)), (7, ((L.tubeD m.o).status : Int) != 1), (4, !(L.tube m.o).isSome)]
  else []
def asksD : Asks := if m.k = 9 ∨ m.k = 14 then [(5, ((ofN m.d L.ts).length : Int) == 0)] else []
def occ : Nat := occN m.x m.y (L.ts.filter (inBox m.b))
def asksB : Asks :=
  if m.k = 2 ∨ m.k = 3 ∨ m.k = 4 ∨ m.k = 8 then
    [(10, !(decide ((m.x : Int) < L.sideN m.b) && decide ((m.y : Int) < L.sideN m.b)) || (((L.occ m : Nat) : Int) != 0 && !((m.k : Int) == 3 && ((L.occ m : Nat) : Int) == m.t))), (9, (L.sideN m.b : Int) == 0)]
  else if m.k = 10 ∨ m.k = 11 ∨ m.k = 13 then [(9, (L.sideN m.b : Int) == 0)]
  else if m.k = 1 then [(9, (L.sideN m.b : Int) != 0)]
  else []
def err : Int := askAll 0 (L.asksT m ++ L.asksO m ++ L.asksD m ++ L.asksB m)

/-- What a donor's withdrawal destroys. -/
def goneS (d : Nat) : Nat → Bool := downS (orL (fun _ => false) (((L.ts.filter fun t => decide ((t.2.donor : Int) = d)).map Prod.fst))) L.ps
def hits (d : Nat) : List TN := L.ts.filter fun t => L.goneS d t.1 && !decide (t.2.status = 3)

def putT (n : Nat) (q : PT) : Led := { L with ts := insT L.ts n q }
def pourL : Led :=
  let L1 := L.putT m.t ((L.tubeD m.t).less m.v)
  let L2 := L1.putT m.o ((L1.tubeD m.o).more m.v)
  { L2 with ps := insP L2.ps m.t m.o (L2.pouredN m.t m.o + m.v) }
def chg (f : PT → PT) (l : List TN) : Led := l.foldl (fun L t => L.putT t.1 (f t.2)) L

def act : Led :=
  if m.k = 1 then { L with bs := insB L.bs m.b m.n }
  else if m.k = 2 then L.putT m.t ⟨m.x, m.y, m.b, m.d, 1, 0, m.v, m.v, 0, 0⟩
  else if m.k = 3 then L.putT m.t ((L.tubeD m.t).stored m.b m.x m.y)
  else if m.k = 4 then (L.putT m.o ⟨m.x, m.y, m.b, (L.tubeD m.t).donor, 1, 0, 0, 0, 0, 0⟩).pourL m
  else if m.k = 5 then L.pourL m
  else if m.k = 6 then L.putT m.t ((L.tubeD m.t).usedBy m.v)
  else if m.k = 7 then L.putT m.t ((L.tubeD m.t).gone 2)
  else if m.k = 8 then L.putT m.t ((L.tubeD m.t).backAt m.b m.x m.y)
  else if m.k = 9 then L.chg PT.lostAll (L.hits m.d)
  else if m.k = 10 then L.chg (fun q => q.turnedBy (L.sideN m.b) m.n) (L.ts.filter (inBox m.b))
  else if m.k = 11 then L.chg (fun q => q.flippedIn (L.sideN m.b)) (L.ts.filter (inBox m.b))
  else L

def contQ (l : List TN) : List Int := l.flatMap fun t => [(t.1 : Int), (t.2.x : Int), (t.2.y : Int)]
def tell : List Int :=
  if m.k = 9 then [((L.hits m.d).length : Int)]
  else if m.k = 12 then showQ (L.tubeD m.t)
  else if m.k = 13 then contQ (L.ts.filter (inBox m.b))
  else if m.k = 14 then ofN m.d L.ts
  else if m.k = 15 then natsI (memG (kinS (upS (single m.t) L.ps) m.t))
  else if m.k = 16 then natsI (memG (kinS (downS (single m.t) L.ps) m.t))
  else []

end Led
end Go.Proofs.YtbpnllhhmookcaaGreatDoor
