/- firnlaw's Does is true for every script, and leaves it as it was, on no condition (does_card_holds: the tied card of the row, at the end; ahead of it the walk of plays and Does, and a script as an argument). -/
import Derived.Test.YtbpnllhhmookcaaGreatDoorKm07
import Derived.Test.YtbpnllhhmookcaaGreatDoorKk40
import Derived.Test.YtbpnllhhmookcaaGreatDoorKk41
import Derived.Test.YtbpnllhhmookcaaGreatDoorCards
import Derived.SevenTiedAt
import Derived.Stop.Joined
namespace Go.Proofs.YtbpnllhhmookcaaGreatDoor
open Go.RowKit Go.Shelf

def OpD.cell (o : OpD) (j : Nat) : Value := [Value.int .i64 o.k, .int .i64 o.on, .int .i64 (o.c 0), .int .i64 (o.c 1), .int .i64 (o.c 2), .int .i64 (o.c 3), .int .i64 (o.c 4), .int .i64 (o.c 5), .int .i64 (o.c 6), .int .i64 (o.c 7), .int .i64 (o.c 8), .string o.fr, .int .i64 o.nn, .int .i64 (o.l 0), .int .i64 (o.l 1), .int .i64 (o.l 2), .int .i64 (o.l 3)].getD j undef
/-- A script among the arguments. -/
def OpsIn (w : World) (v : Value) (n : Nat) (R : Nat → OpD) : Prop := ∃ oa cap, v = .slice oa n cap ∧ n ≤ maxLen ∧ ∀ i, i < n → ∃ a : Addr, oa = some a ∧ a.block < w.heap.size ∧ (∀ j, j < 17 → w.cell? (a.add (i * 17 + j)) = some ((R i).cell j)) ∧ I64 (R i).on ∧ I64 (R i).nn ∧ (R i).fr.size ≤ maxLen

theorem lpick_256 (w : World) : Calls Tryz.prog 24 #[.int .i64 256, .int .i64 300] w fun e w' => e = .returned (.int .i64 (256 : Nat)) ∧ w' = w := by
  go_enter Tryz.func24, Tryz.ntmps24
  go_wp2
  go_ret
  exact ⟨rfl, rfl⟩
theorem step_any (B wb : Nat) (v : Value) (qs : List PD) (o : OpD) (hk : 1 ≤ o.k ∧ o.k ≤ 3) (ho : I64 o.on) (hn : I64 o.nn) (hs : o.fr.size ≤ maxLen) (w : World) (h : WI B w wb v qs) (hB : B ≤ w.heap.size) (hl : qs.length ≤ 900) (hq : 1 ≤ qs.length) :
    Calls Tryz.prog 19 #[.pointer (some ⟨wb, 0, none⟩), o.val] w (StepPost B w wb qs) := by
  have : o.k = 1 ∨ o.k = 2 ∨ o.k = 3 := by omega
  rcases this with e | e | e
  · exact step_open B wb v qs o e hn w h hB hl
  · exact step_do B wb v qs o e ho hs w h hl hq
  · exact step_frame B wb v qs o e ho hs w h hl hq

/-- What lies in memory while a script is played. -/
structure PW (w : World) (wb : Nat) (m : Nat) (wr : World) : Prop where
  wi : ∃ v qs, WI w.heap.size wr wb v qs ∧ 1 ≤ qs.length ∧ qs.length ≤ m
  bel : Below w.heap.size w wr
theorem PW.step {w : World} {wb m : Nat} {wr w' : World} (h : PW w wb m wr) {e : Ending} {v : Value} {qs : List PD} (hv : WI w.heap.size wr wb v qs ∧ 1 ≤ qs.length ∧ qs.length ≤ m) (hp : StepPost w.heap.size wr wb qs e w') : e = .returned (.bool true) ∧ PW w wb (m + 1) w' ∧ TagK wr w' := by
  obtain ⟨he, v', qs', h1, h2, h3, h4, h5⟩ := hp
  exact ⟨he, ⟨⟨v', qs', h1, by omega, by omega⟩, below_keeps h.bel h4 (fun _ e => e)⟩, h5⟩

set_option maxRecDepth 8000 in
set_option maxHeartbeats 4000000 in
theorem lplays_any (v : Value) (n : Nat) (R : Nat → OpD) (w : World) (hR : OpsIn w v n R) :
    Calls Tryz.prog 8 #[v, .int .i64 3] w fun e w' => e = .returned (.bool true) ∧ Below w.heap.size w w' := by
  have HR := hid hR
  obtain ⟨oa, cap, rfl, hn, hel⟩ := hR
  have HEl := hid hel
  clear hel HR
  have hb0 : Below w.heap.size w (w.alloc (.cells #[.slice none 0 0] 53)) := (Below.refl _ w).alloc (Nat.le_refl _) _
  have hW0 : WI w.heap.size (w.alloc (.cells #[.slice none 0 0] 53)) w.heap.size (.slice none 0 0) [] := ⟨heap_alloc_new w _, World.ownsRow_nil _ _ _ _, (fun g hg => by simp [Value.ownBlock] at hg), (fun q hq => by cases hq), List.Pairwise.nil, List.Pairwise.nil, ⟨Nat.le_refl _, fun q hq => by cases hq⟩⟩
  have HBg := hid (begins_any w.heap.size w.heap.size (.slice none 0 0) [] 256 256 (by omega) (hid (fun u => lpick_256 u)) _ hW0 hb0.size (by simp))
  have HB0 := hid hb0
  clear hb0 hW0
  go_enter Tryz.func8, Tryz.ntmps8
  go_wp2_with fail
  refine HBg.out.mono ?_
  clear HBg
  rintro e w1 ⟨rfl, v1, qs1, hW1, h1, h2, h3, h4, h5⟩
  have hP1 : PW w w.heap.size 1 w1 := ⟨⟨v1, qs1, hW1, by have := h3 ⟨by omega, by omega⟩; omega, by simpa using h1⟩, below_keeps HB0.out h4 (fun _ e => e)⟩
  have HP := hid hP1
  clear HB0 hW1 h1 h2 h3 h4 h5 hP1
  generalize hwb : w.heap.size = wb at *
  have HWb := hid hwb
  clear hwb
  go_wp2_with fail
  go_loopg [6, 8] 3 (fun gk okv iv wr => ∃ j : Nat, j + gk = 3 ∧ okv = .bool true ∧ iv = .int .i64 j ∧ PW w wb (1 + j) wr ∧ wr.heap[w1.heap.size]? = some (.cells #[.int .i64 1, .int .i64 0, .int .i64 0, .int .i64 0, .int .i64 0, .int .i64 1, .int .i64 0, .int .i64 0, .int .i64 3, .int .i64 2, .int .i64 5, .int .i64 0, .int .i64 2, .int .i64 100, .int .i64 1, .int .i64 0, .int .i64 1, .int .i64 0, .int .i64 12, .int .i64 5, .int .i64 0, .int .i64 0, .int .i64 0, .int .i64 0, .int .i64 0, .int .i64 0, .int .i64 0] 31 (0, 0)))
  case atStart =>
    refine ⟨0, by omega, rfl, rfl, ?_, ?_⟩
    · exact ⟨HP.out.wi.elim fun v h => h.elim fun qs h => ⟨v, qs, h.1.below ((Below.refl _ w1).alloc (Nat.le_refl _) _), h.2⟩, HP.out.bel.trans (((Below.refl _ w1).alloc (Nat.le_refl _) _).mono HP.out.bel.size)⟩
    · exact heap_alloc_new w1 _
  case round =>
    clear HP
    generalize w1.heap.size = cb at *
    obtain ⟨j, hj3, rfl, rfl, hP, hC⟩ := hrel
    have hj : j = 0 ∨ j = 1 ∨ j = 2 ∨ j = 3 := by omega
    rcases hj with e | e | e | e
    · subst e
      have c0 : wr.cell? ⟨cb, 0, none⟩ = some (.int .i64 1) := by simp only [World.cell?, hC]; rfl
      have c1 : wr.cell? ⟨cb, 1, none⟩ = some (.int .i64 0) := by simp only [World.cell?, hC]; rfl
      have c2 : wr.cell? ⟨cb, 2, none⟩ = some (.int .i64 0) := by simp only [World.cell?, hC]; rfl
      have c3 : wr.cell? ⟨cb, 3, none⟩ = some (.int .i64 0) := by simp only [World.cell?, hC]; rfl
      have c4 : wr.cell? ⟨cb, 4, none⟩ = some (.int .i64 0) := by simp only [World.cell?, hC]; rfl
      have c5 : wr.cell? ⟨cb, 5, none⟩ = some (.int .i64 1) := by simp only [World.cell?, hC]; rfl
      have c6 : wr.cell? ⟨cb, 6, none⟩ = some (.int .i64 0) := by simp only [World.cell?, hC]; rfl
      have c7 : wr.cell? ⟨cb, 7, none⟩ = some (.int .i64 0) := by simp only [World.cell?, hC]; rfl
      have c8 : wr.cell? ⟨cb, 8, none⟩ = some (.int .i64 3) := by simp only [World.cell?, hC]; rfl
      obtain ⟨v, qs, hv⟩ := hP.wi
      have HS := hid (step_any w.heap.size wb v qs ⟨2, 0, fun i => ([1, 0, 0, 0, 0, 1, 0, 0, 3] : List Int).getD i 0, ⟨#[]⟩, 0, fun _ => 0⟩ ⟨by decide, by decide⟩ ⟨by decide, by decide⟩ ⟨by decide, by decide⟩ (by decide) wr hv.1 hP.bel.size (by omega) hv.2.1)
      have HPP := hid hP
      have HV := hid hv
      have HCC := hid hC
      unfold OpD.val at HS
      clear hP hv hC
      go_wp2_with fail
      refine HS.out.mono ?_
      clear HS
      intro e w2 hsp
      obtain ⟨rfl, hP2, ht2⟩ := HPP.out.step HV.out hsp
      have HE := hid (And.intro hP2 ((ht2 cb _ _ HCC.out (by decide) (by decide) (by decide) (by decide)).trans HCC.out))
      clear HPP HV HCC hsp hP2 ht2
      go_wp2_with fail
      go_roundg 2
      case measure => omega
      case rel => exact ⟨1, by omega, rfl, by go_num, HE.out.1, HE.out.2⟩
    · subst e
      have c0 : wr.cell? ⟨cb, 9, none⟩ = some (.int .i64 2) := by simp only [World.cell?, hC]; rfl
      have c1 : wr.cell? ⟨cb, 10, none⟩ = some (.int .i64 5) := by simp only [World.cell?, hC]; rfl
      have c2 : wr.cell? ⟨cb, 11, none⟩ = some (.int .i64 0) := by simp only [World.cell?, hC]; rfl
      have c3 : wr.cell? ⟨cb, 12, none⟩ = some (.int .i64 2) := by simp only [World.cell?, hC]; rfl
      have c4 : wr.cell? ⟨cb, 13, none⟩ = some (.int .i64 100) := by simp only [World.cell?, hC]; rfl
      have c5 : wr.cell? ⟨cb, 14, none⟩ = some (.int .i64 1) := by simp only [World.cell?, hC]; rfl
      have c6 : wr.cell? ⟨cb, 15, none⟩ = some (.int .i64 0) := by simp only [World.cell?, hC]; rfl
      have c7 : wr.cell? ⟨cb, 16, none⟩ = some (.int .i64 1) := by simp only [World.cell?, hC]; rfl
      have c8 : wr.cell? ⟨cb, 17, none⟩ = some (.int .i64 0) := by simp only [World.cell?, hC]; rfl
      obtain ⟨v, qs, hv⟩ := hP.wi
      have HS := hid (step_any w.heap.size wb v qs ⟨2, 0, fun i => ([2, 5, 0, 2, 100, 1, 0, 1, 0] : List Int).getD i 0, ⟨#[]⟩, 0, fun _ => 0⟩ ⟨by decide, by decide⟩ ⟨by decide, by decide⟩ ⟨by decide, by decide⟩ (by decide) wr hv.1 hP.bel.size (by omega) hv.2.1)
      have HPP := hid hP
      have HV := hid hv
      have HCC := hid hC
      unfold OpD.val at HS
      clear hP hv hC
      go_wp2_with fail
      refine HS.out.mono ?_
      clear HS
      intro e w2 hsp
      obtain ⟨rfl, hP2, ht2⟩ := HPP.out.step HV.out hsp
      have HE := hid (And.intro hP2 ((ht2 cb _ _ HCC.out (by decide) (by decide) (by decide) (by decide)).trans HCC.out))
      clear HPP HV HCC hsp hP2 ht2
      go_wp2_with fail
      go_roundg 1
      case measure => omega
      case rel => exact ⟨2, by omega, rfl, by go_num, HE.out.1, HE.out.2⟩
    · subst e
      have c0 : wr.cell? ⟨cb, 18, none⟩ = some (.int .i64 12) := by simp only [World.cell?, hC]; rfl
      have c1 : wr.cell? ⟨cb, 19, none⟩ = some (.int .i64 5) := by simp only [World.cell?, hC]; rfl
      have c2 : wr.cell? ⟨cb, 20, none⟩ = some (.int .i64 0) := by simp only [World.cell?, hC]; rfl
      have c3 : wr.cell? ⟨cb, 21, none⟩ = some (.int .i64 0) := by simp only [World.cell?, hC]; rfl
      have c4 : wr.cell? ⟨cb, 22, none⟩ = some (.int .i64 0) := by simp only [World.cell?, hC]; rfl
      have c5 : wr.cell? ⟨cb, 23, none⟩ = some (.int .i64 0) := by simp only [World.cell?, hC]; rfl
      have c6 : wr.cell? ⟨cb, 24, none⟩ = some (.int .i64 0) := by simp only [World.cell?, hC]; rfl
      have c7 : wr.cell? ⟨cb, 25, none⟩ = some (.int .i64 0) := by simp only [World.cell?, hC]; rfl
      have c8 : wr.cell? ⟨cb, 26, none⟩ = some (.int .i64 0) := by simp only [World.cell?, hC]; rfl
      obtain ⟨v, qs, hv⟩ := hP.wi
      have HS := hid (step_any w.heap.size wb v qs ⟨2, 0, fun i => ([12, 5, 0, 0, 0, 0, 0, 0, 0] : List Int).getD i 0, ⟨#[]⟩, 0, fun _ => 0⟩ ⟨by decide, by decide⟩ ⟨by decide, by decide⟩ ⟨by decide, by decide⟩ (by decide) wr hv.1 hP.bel.size (by omega) hv.2.1)
      have HPP := hid hP
      have HV := hid hv
      have HCC := hid hC
      unfold OpD.val at HS
      clear hP hv hC
      go_wp2_with fail
      refine HS.out.mono ?_
      clear HS
      intro e w2 hsp
      obtain ⟨rfl, hP2, ht2⟩ := HPP.out.step HV.out hsp
      have HE := hid (And.intro hP2 ((ht2 cb _ _ HCC.out (by decide) (by decide) (by decide) (by decide)).trans HCC.out))
      clear HPP HV HCC hsp hP2 ht2
      go_wp2_with fail
      go_roundg 0
      case measure => omega
      case rel => exact ⟨3, by omega, rfl, by go_num, HE.out.1, HE.out.2⟩
    · subst e
      have HPP := hid hP
      clear hP hC
      go_wp2_with fail
      go_loopg [6, 9] 60 (fun gk okv iv wr => ∃ j : Nat, j + gk = 60 ∧ j ≤ n ∧ okv = .bool true ∧ iv = .int .i64 j ∧ PW w wb (4 + j) wr)
      case atStart => exact ⟨0, by omega, by omega, rfl, rfl, HPP.out⟩
      case round =>
        clear HPP
        obtain ⟨j, hj60, hjn, rfl, rfl, hP⟩ := hrel
        have HJ := hid hj60
        clear hj60
        by_cases hlt : j < n ∧ j < 60
        · obtain ⟨a, rfl, hab, hcell, ho, hnn, hfs⟩ := HEl.out j hlt.1
          have hl1 : (j : Int) < (n : Int) := by omega
          have hl2 : (j : Int) < 60 := by omega
          have hab : a.block < w.heap.size := by have := HWb.out; omega
          have hbw := hP.bel
          have x0 : wr.cell? (a.add (j * 17)) = some (.int .i64 (R j).k) := by exact (hbw.cell (by rw [Addr.add_block]; exact hab)).trans (hcell 0 (by omega))
          have x1 : wr.cell? ⟨(a.add (j * 17)).block, (a.add (j * 17)).off + 1, none⟩ = some (.int .i64 (R j).on) := by show wr.cell? ((a.add (j * 17)).add 1) = _; rw [Addr.addadd]; exact (hbw.cell (by rw [Addr.add_block]; exact hab)).trans (hcell 1 (by omega))
          have x2 : wr.cell? ⟨(a.add (j * 17)).block, (a.add (j * 17)).off + 2, none⟩ = some (.int .i64 ((R j).c 0)) := by show wr.cell? ((a.add (j * 17)).add 2) = _; rw [Addr.addadd]; exact (hbw.cell (by rw [Addr.add_block]; exact hab)).trans (hcell 2 (by omega))
          have x3 : wr.cell? ⟨(a.add (j * 17)).block, (a.add (j * 17)).off + 3, none⟩ = some (.int .i64 ((R j).c 1)) := by show wr.cell? ((a.add (j * 17)).add 3) = _; rw [Addr.addadd]; exact (hbw.cell (by rw [Addr.add_block]; exact hab)).trans (hcell 3 (by omega))
          have x4 : wr.cell? ⟨(a.add (j * 17)).block, (a.add (j * 17)).off + 4, none⟩ = some (.int .i64 ((R j).c 2)) := by show wr.cell? ((a.add (j * 17)).add 4) = _; rw [Addr.addadd]; exact (hbw.cell (by rw [Addr.add_block]; exact hab)).trans (hcell 4 (by omega))
          have x5 : wr.cell? ⟨(a.add (j * 17)).block, (a.add (j * 17)).off + 5, none⟩ = some (.int .i64 ((R j).c 3)) := by show wr.cell? ((a.add (j * 17)).add 5) = _; rw [Addr.addadd]; exact (hbw.cell (by rw [Addr.add_block]; exact hab)).trans (hcell 5 (by omega))
          have x6 : wr.cell? ⟨(a.add (j * 17)).block, (a.add (j * 17)).off + 6, none⟩ = some (.int .i64 ((R j).c 4)) := by show wr.cell? ((a.add (j * 17)).add 6) = _; rw [Addr.addadd]; exact (hbw.cell (by rw [Addr.add_block]; exact hab)).trans (hcell 6 (by omega))
          have x7 : wr.cell? ⟨(a.add (j * 17)).block, (a.add (j * 17)).off + 7, none⟩ = some (.int .i64 ((R j).c 5)) := by show wr.cell? ((a.add (j * 17)).add 7) = _; rw [Addr.addadd]; exact (hbw.cell (by rw [Addr.add_block]; exact hab)).trans (hcell 7 (by omega))
          have x8 : wr.cell? ⟨(a.add (j * 17)).block, (a.add (j * 17)).off + 8, none⟩ = some (.int .i64 ((R j).c 6)) := by show wr.cell? ((a.add (j * 17)).add 8) = _; rw [Addr.addadd]; exact (hbw.cell (by rw [Addr.add_block]; exact hab)).trans (hcell 8 (by omega))
          have x9 : wr.cell? ⟨(a.add (j * 17)).block, (a.add (j * 17)).off + 9, none⟩ = some (.int .i64 ((R j).c 7)) := by show wr.cell? ((a.add (j * 17)).add 9) = _; rw [Addr.addadd]; exact (hbw.cell (by rw [Addr.add_block]; exact hab)).trans (hcell 9 (by omega))
          have x10 : wr.cell? ⟨(a.add (j * 17)).block, (a.add (j * 17)).off + 10, none⟩ = some (.int .i64 ((R j).c 8)) := by show wr.cell? ((a.add (j * 17)).add 10) = _; rw [Addr.addadd]; exact (hbw.cell (by rw [Addr.add_block]; exact hab)).trans (hcell 10 (by omega))
          have x11 : wr.cell? ⟨(a.add (j * 17)).block, (a.add (j * 17)).off + 11, none⟩ = some (.string (R j).fr) := by show wr.cell? ((a.add (j * 17)).add 11) = _; rw [Addr.addadd]; exact (hbw.cell (by rw [Addr.add_block]; exact hab)).trans (hcell 11 (by omega))
          have x12 : wr.cell? ⟨(a.add (j * 17)).block, (a.add (j * 17)).off + 12, none⟩ = some (.int .i64 (R j).nn) := by show wr.cell? ((a.add (j * 17)).add 12) = _; rw [Addr.addadd]; exact (hbw.cell (by rw [Addr.add_block]; exact hab)).trans (hcell 12 (by omega))
          have x13 : wr.cell? ⟨(a.add (j * 17)).block, (a.add (j * 17)).off + 13, none⟩ = some (.int .i64 ((R j).l 0)) := by show wr.cell? ((a.add (j * 17)).add 13) = _; rw [Addr.addadd]; exact (hbw.cell (by rw [Addr.add_block]; exact hab)).trans (hcell 13 (by omega))
          have x14 : wr.cell? ⟨(a.add (j * 17)).block, (a.add (j * 17)).off + 14, none⟩ = some (.int .i64 ((R j).l 1)) := by show wr.cell? ((a.add (j * 17)).add 14) = _; rw [Addr.addadd]; exact (hbw.cell (by rw [Addr.add_block]; exact hab)).trans (hcell 14 (by omega))
          have x15 : wr.cell? ⟨(a.add (j * 17)).block, (a.add (j * 17)).off + 15, none⟩ = some (.int .i64 ((R j).l 2)) := by show wr.cell? ((a.add (j * 17)).add 15) = _; rw [Addr.addadd]; exact (hbw.cell (by rw [Addr.add_block]; exact hab)).trans (hcell 15 (by omega))
          have x16 : wr.cell? ⟨(a.add (j * 17)).block, (a.add (j * 17)).off + 16, none⟩ = some (.int .i64 ((R j).l 3)) := by show wr.cell? ((a.add (j * 17)).add 16) = _; rw [Addr.addadd]; exact (hbw.cell (by rw [Addr.add_block]; exact hab)).trans (hcell 16 (by omega))
          have HPP := hid hP
          have HO := hid (And.intro ho (And.intro hnn hfs))
          clear hcell ho hnn hfs hbw hP
          by_cases hk : 1 ≤ (R j).k ∧ (R j).k ≤ 3
          · obtain ⟨v, qs, hv⟩ := HPP.out.wi
            have HS := hid (step_any w.heap.size wb v qs (R j) hk HO.out.1 HO.out.2.1 HO.out.2.2 wr hv.1 HPP.out.bel.size (by omega) hv.2.1)
            have HV := hid hv
            obtain ⟨hk1, hk3⟩ := hk
            unfold OpD.val at HS
            clear hv HO
            go_wp2_with fail
            refine HS.out.mono ?_
            clear HS x0 x1 x2 x3 x4 x5 x6 x7 x8 x9 x10 x11 x12 x13 x14 x15 x16
            intro e w2 hsp
            obtain ⟨rfl, hP2, _⟩ := HPP.out.step HV.out hsp
            have HE := hid hP2
            clear HPP HV hsp hP2
            go_wp2_with fail
            go_roundg (59 - j)
            case measure => have := HJ.out; omega
            case rel => exact ⟨j + 1, by have := HJ.out; omega, by omega, rfl, by go_num, HE.out⟩
          · have HE := hid (show PW w wb (4 + (j + 1)) wr from ⟨HPP.out.wi.elim fun v h => h.elim fun qs h => ⟨v, qs, h.1, h.2.1, by omega⟩, HPP.out.bel⟩)
            clear HPP HO
            by_cases hk1 : 1 ≤ (R j).k
            · have hk3 : ¬ (R j).k ≤ 3 := fun h => hk ⟨hk1, h⟩
              clear hk
              go_wp2_with fail
              go_roundg (59 - j)
              case measure => have := HJ.out; omega
              case rel => exact ⟨j + 1, by have := HJ.out; omega, by omega, rfl, by go_num, HE.out⟩
            · clear hk
              go_wp2_with fail
              go_roundg (59 - j)
              case measure => have := HJ.out; omega
              case rel => exact ⟨j + 1, by have := HJ.out; omega, by omega, rfl, by go_num, HE.out⟩
        · have HPP := hid hP
          have hge : ¬ ((j : Int) < (n : Int) ∧ (j : Int) < 60) := by omega
          obtain ⟨v, qs, hWI, hq1, hq2⟩ := hP.wi
          obtain ⟨gr, capr, rfl⟩ := own_form2 (by omega) hWI.row
          have HV := hid (And.intro hWI hP.bel)
          have hq100 : qs.length ≤ 64 := by have := HJ.out; omega
          clear HEl hP hlt HPP
          by_cases hA : (j : Int) < (n : Int)
          · have hB : ¬ (j : Int) < 60 := fun h => hge ⟨hA, h⟩
            clear hge
            go_wp2_with fail
            go_loopg [6, 10] qs.length (fun gk okv iv wr => ∃ i : Nat, i + gk = qs.length ∧ okv = .bool true ∧ iv = .int .i64 i ∧ WI w.heap.size wr wb (.slice (some ⟨gr, 0, none⟩) qs.length capr) qs ∧ Below w.heap.size w wr)
            case atStart => exact ⟨0, by omega, rfl, rfl, HV.out.1, HV.out.2⟩
            case round =>
              clear HV
              obtain ⟨i, hil, rfl, rfl, hWI, hbl⟩ := hrel
              have HIl := hid hil
              clear hil
              have wc := hWI.cell
              by_cases hi : i < qs.length
              · have hii : (i : Int) < (qs.length : Int) := by omega
                have rc : wr.cell? ⟨gr, i, none⟩ = some (.pointer (some ⟨(qs[i]).p, 0, none⟩)) := by
                  have := hWI.row.cells (g := gr) rfl i (.pointer (some ⟨(qs[i]).p, 0, none⟩)) (by simp [ptrs, hi])
                  rwa [add_zero_at2] at this
                have hqi := hWI.each _ (List.getElem_mem hi)
                have p0 := hqi.pair.c0
                have p2 := hqi.pair.c2
                have HSm := hid (fun nq => lsame_any (qs[i]).l (qs[i]).b ((qs[i]).n / 8) (qs[i]).L (wr.drewN nq) (hqi.led.below (below_drewN (Below.refl _ wr) nq)) hqi.inv (hqi.bk.below (below_drewN (Below.refl _ wr) nq)))
                have HWI := hid (And.intro hWI hbl)
                have HQI := hid hqi
                clear hWI hbl hqi
                go_wp2_with fail
                refine wp_region_then 20 (by kernel_rfl) (by decide) (by kernel_rfl) (by kernel_rfl) (by kernel_rfl) (by kernel_rfl) ?_
                simp only [List.take_succ_cons, List.take_zero]
                repeat (go_big_quiet_step (fail))
                refine wpQuiet_nil ?_
                rintro w2 ⟨nq, rfl⟩
                simp only [List.drop_succ_cons, List.drop_zero]
                go_wp2_with fail
                refine (HSm.out nq).mono ?_
                clear HSm
                rintro e w3 ⟨rfl, hL3, hX3, hk3⟩
                have hq2 : PairI (wr.drewN nq) (qs[i]).p (qs[i]).l (qs[i]).d (qs[i]).b (qs[i]).n (qs[i]).L := HQI.out.below (below_drewN (Below.refl _ wr) nq)
                have hW2 := HWI.out.1.below (below_drewN (Below.refl _ wr) nq)
                have hI3 : PD.I qs[i] w3 := ⟨hq2.pair.keeps hk3 (hq2.pair.neL hq2.led), hq2.disk.keeps hk3 (hq2.disk.neL hq2.led), hL3, hq2.inv, hX3, hq2.n1⟩
                have hW3 := hW2.turn hi (q' := qs[i]) ⟨rfl, rfl⟩ hI3 (hk3.mono (fun g _ e => .inl e))
                rw [List.set_getElem_self] at hW3
                have HE := hid (And.intro hW3 (below_keeps (below_drewN HWI.out.2 nq) hk3 (fun g e => by rw [e]; exact (HWI.out.1.far.2 _ (List.getElem_mem hi)).2)))
                clear HWI HQI hL3 hX3 hk3 hq2 hW2 hI3 hW3 wc rc p0 p2
                go_wp2_with fail
                go_roundg (qs.length - (i + 1))
                case measure => have := HIl.out; omega
                case rel => exact ⟨i + 1, by have := HIl.out; omega, rfl, by go_num, HE.out.1, HE.out.2⟩
              · have hii : ¬ (i : Int) < (qs.length : Int) := by omega
                have HBl := hid hbl
                clear hWI hbl
                go_wp2
                go_ret
                exact ⟨rfl, HBl.out⟩
          · clear hge
            go_wp2_with fail
            go_loopg [6, 10] qs.length (fun gk okv iv wr => ∃ i : Nat, i + gk = qs.length ∧ okv = .bool true ∧ iv = .int .i64 i ∧ WI w.heap.size wr wb (.slice (some ⟨gr, 0, none⟩) qs.length capr) qs ∧ Below w.heap.size w wr)
            case atStart => exact ⟨0, by omega, rfl, rfl, HV.out.1, HV.out.2⟩
            case round =>
              clear HV
              obtain ⟨i, hil, rfl, rfl, hWI, hbl⟩ := hrel
              have HIl := hid hil
              clear hil
              have wc := hWI.cell
              by_cases hi : i < qs.length
              · have hii : (i : Int) < (qs.length : Int) := by omega
                have rc : wr.cell? ⟨gr, i, none⟩ = some (.pointer (some ⟨(qs[i]).p, 0, none⟩)) := by
                  have := hWI.row.cells (g := gr) rfl i (.pointer (some ⟨(qs[i]).p, 0, none⟩)) (by simp [ptrs, hi])
                  rwa [add_zero_at2] at this
                have hqi := hWI.each _ (List.getElem_mem hi)
                have p0 := hqi.pair.c0
                have p2 := hqi.pair.c2
                have HSm := hid (fun nq => lsame_any (qs[i]).l (qs[i]).b ((qs[i]).n / 8) (qs[i]).L (wr.drewN nq) (hqi.led.below (below_drewN (Below.refl _ wr) nq)) hqi.inv (hqi.bk.below (below_drewN (Below.refl _ wr) nq)))
                have HWI := hid (And.intro hWI hbl)
                have HQI := hid hqi
                clear hWI hbl hqi
                go_wp2_with fail
                refine wp_region_then 20 (by kernel_rfl) (by decide) (by kernel_rfl) (by kernel_rfl) (by kernel_rfl) (by kernel_rfl) ?_
                simp only [List.take_succ_cons, List.take_zero]
                repeat (go_big_quiet_step (fail))
                refine wpQuiet_nil ?_
                rintro w2 ⟨nq, rfl⟩
                simp only [List.drop_succ_cons, List.drop_zero]
                go_wp2_with fail
                refine (HSm.out nq).mono ?_
                clear HSm
                rintro e w3 ⟨rfl, hL3, hX3, hk3⟩
                have hq2 : PairI (wr.drewN nq) (qs[i]).p (qs[i]).l (qs[i]).d (qs[i]).b (qs[i]).n (qs[i]).L := HQI.out.below (below_drewN (Below.refl _ wr) nq)
                have hW2 := HWI.out.1.below (below_drewN (Below.refl _ wr) nq)
                have hI3 : PD.I qs[i] w3 := ⟨hq2.pair.keeps hk3 (hq2.pair.neL hq2.led), hq2.disk.keeps hk3 (hq2.disk.neL hq2.led), hL3, hq2.inv, hX3, hq2.n1⟩
                have hW3 := hW2.turn hi (q' := qs[i]) ⟨rfl, rfl⟩ hI3 (hk3.mono (fun g _ e => .inl e))
                rw [List.set_getElem_self] at hW3
                have HE := hid (And.intro hW3 (below_keeps (below_drewN HWI.out.2 nq) hk3 (fun g e => by rw [e]; exact (HWI.out.1.far.2 _ (List.getElem_mem hi)).2)))
                clear HWI HQI hL3 hX3 hk3 hq2 hW2 hI3 hW3 wc rc p0 p2
                go_wp2_with fail
                go_roundg (qs.length - (i + 1))
                case measure => have := HIl.out; omega
                case rel => exact ⟨i + 1, by have := HIl.out; omega, rfl, by go_num, HE.out.1, HE.out.2⟩
              · have hii : ¬ (i : Int) < (qs.length : Int) := by omega
                have HBl := hid hbl
                clear hWI hbl
                go_wp2
                go_ret
                exact ⟨rfl, HBl.out⟩

theorem does_law (v : Value) (n : Nat) (R : Nat → OpD) (w : World) (hR : OpsIn w v n R) :
    Calls Tryz.prog 3 #[v] w fun e w' => e = .returned (.bool true) ∧ Below w.heap.size w w' := by
  have HP := hid (lplays_any v n R w hR)
  clear hR
  go_enter Tryz.func3, Tryz.ntmps3
  go_wp2_with fail
  refine HP.out.mono ?_
  clear HP
  rintro e w1 ⟨rfl, hb⟩
  have HB := hid hb
  clear hb
  go_wp2
  go_ret
  exact ⟨rfl, HB.out⟩

end Go.Proofs.YtbpnllhhmookcaaGreatDoor

/- A script of steps among the arguments: what its slice holds. -/
namespace Go.Proofs.YtbpnllhhmookcaaGreatDoor
open Go.ChangeShapes Go.WideShapes Go.ChangeAt Go.RowKit Go.Shelf Go.Deep

theorem Tryz.cellsOp : Tryz.prog.cellsOf 60 = 17 := by kernel_rfl
theorem Tryz.cellsCmd : Tryz.prog.cellsOf 31 = 9 := by kernel_rfl
theorem Tryz.cellsLoss : Tryz.prog.cellsOf 58 = 4 := by kernel_rfl
theorem Tryz.cellsStr : Tryz.prog.cellsOf 9 = 1 := by kernel_rfl

theorem list9 {α : Type} {l : List α} (h : l.length = 9) : ∃ c0 c1 c2 c3 c4 c5 c6 c7 c8, l = [c0, c1, c2, c3, c4, c5, c6, c7, c8] := by
  match l, h with
  | [c0, c1, c2, c3, c4, c5, c6, c7, c8], _ => exact ⟨c0, c1, c2, c3, c4, c5, c6, c7, c8, rfl⟩
theorem cmd_cells {H : Type} {enc : TypeId × Value → H} {w : World} {base n : Nat} {spare : Nat → Bool} {held : Bool} {cs : List Value} {x : DataW H × List MemPlace}
    (h : DataW.trod enc Tryz.prog w base spare held n 31 cs = some x) : ∃ z : Nat → Int, cs = [.int .i64 (z 0), .int .i64 (z 1), .int .i64 (z 2), .int .i64 (z 3), .int .i64 (z 4), .int .i64 (z 5), .int .i64 (z 6), .int .i64 (z 7), .int .i64 (z 8)] ∧ ∀ j, I64 (z j) := by
  obtain ⟨xs, k, _, hx, hcl, hlen, hall⟩ := DataW.trod_struct Tryz.underlying31 h
  obtain ⟨v0, v1, v2, v3, v4, v5, v6, v7, v8, rfl⟩ := list9 (hcl.trans Tryz.cellsCmd)
  obtain ⟨y0, y1, y2, y3, y4, y5, y6, y7, y8, rfl⟩ := list9 hlen
  have g0 := hall 0 _ rfl
  have g1 := hall 1 _ rfl
  have g2 := hall 2 _ rfl
  have g3 := hall 3 _ rfl
  have g4 := hall 4 _ rfl
  have g5 := hall 5 _ rfl
  have g6 := hall 6 _ rfl
  have g7 := hall 7 _ rfl
  have g8 := hall 8 _ rfl
  obtain ⟨n0, e0, rfl, w0⟩ := DataW.trod_int Tryz.underlying3 g0
  obtain ⟨n1, e1, rfl, w1⟩ := DataW.trod_int Tryz.underlying3 g1
  obtain ⟨n2, e2, rfl, w2⟩ := DataW.trod_int Tryz.underlying3 g2
  obtain ⟨n3, e3, rfl, w3⟩ := DataW.trod_int Tryz.underlying3 g3
  obtain ⟨n4, e4, rfl, w4⟩ := DataW.trod_int Tryz.underlying3 g4
  obtain ⟨n5, e5, rfl, w5⟩ := DataW.trod_int Tryz.underlying3 g5
  obtain ⟨n6, e6, rfl, w6⟩ := DataW.trod_int Tryz.underlying3 g6
  obtain ⟨n7, e7, rfl, w7⟩ := DataW.trod_int Tryz.underlying3 g7
  obtain ⟨n8, e8, rfl, w8⟩ := DataW.trod_int Tryz.underlying3 g8
  simp [Tryz.cellsI] at e0 e1 e2 e3 e4 e5 e6 e7 e8
  subst e0 e1 e2 e3 e4 e5 e6 e7 e8
  refine ⟨fun i => [n0, n1, n2, n3, n4, n5, n6, n7, n8].getD i 0, rfl, fun i => ?_⟩
  match i with
  | 0 => exact .of_wf w0
  | 1 => exact .of_wf w1
  | 2 => exact .of_wf w2
  | 3 => exact .of_wf w3
  | 4 => exact .of_wf w4
  | 5 => exact .of_wf w5
  | 6 => exact .of_wf w6
  | 7 => exact .of_wf w7
  | 8 => exact .of_wf w8
  | m + 9 => exact ⟨by simp, by simp⟩

theorem list4 {α : Type} {l : List α} (h : l.length = 4) : ∃ c0 c1 c2 c3, l = [c0, c1, c2, c3] := by
  match l, h with
  | [c0, c1, c2, c3], _ => exact ⟨c0, c1, c2, c3, rfl⟩
theorem loss_cells {H : Type} {enc : TypeId × Value → H} {w : World} {base n : Nat} {spare : Nat → Bool} {held : Bool} {cs : List Value} {x : DataW H × List MemPlace}
    (h : DataW.trod enc Tryz.prog w base spare held n 58 cs = some x) : ∃ z : Nat → Int, cs = [.int .i64 (z 0), .int .i64 (z 1), .int .i64 (z 2), .int .i64 (z 3)] ∧ ∀ j, I64 (z j) := by
  obtain ⟨xs, k, _, hx, hcl, hlen, hall⟩ := DataW.trod_struct Tryz.underlying58 h
  obtain ⟨v0, v1, v2, v3, rfl⟩ := list4 (hcl.trans Tryz.cellsLoss)
  obtain ⟨y0, y1, y2, y3, rfl⟩ := list4 hlen
  have g0 := hall 0 _ rfl
  have g1 := hall 1 _ rfl
  have g2 := hall 2 _ rfl
  have g3 := hall 3 _ rfl
  obtain ⟨n0, e0, rfl, w0⟩ := DataW.trod_int Tryz.underlying3 g0
  obtain ⟨n1, e1, rfl, w1⟩ := DataW.trod_int Tryz.underlying3 g1
  obtain ⟨n2, e2, rfl, w2⟩ := DataW.trod_int Tryz.underlying3 g2
  obtain ⟨n3, e3, rfl, w3⟩ := DataW.trod_int Tryz.underlying3 g3
  simp [Tryz.cellsI] at e0 e1 e2 e3
  subst e0 e1 e2 e3
  refine ⟨fun i => [n0, n1, n2, n3].getD i 0, rfl, fun i => ?_⟩
  match i with
  | 0 => exact .of_wf w0
  | 1 => exact .of_wf w1
  | 2 => exact .of_wf w2
  | 3 => exact .of_wf w3
  | m + 4 => exact ⟨by simp, by simp⟩

theorem list6 {α : Type} {l : List α} (h : l.length = 6) : ∃ c0 c1 c2 c3 c4 c5, l = [c0, c1, c2, c3, c4, c5] := by
  match l, h with
  | [c0, c1, c2, c3, c4, c5], _ => exact ⟨c0, c1, c2, c3, c4, c5, rfl⟩
theorem list17 {α : Type} {l : List α} (h : l.length = 17) : ∃ c0 c1 c2 c3 c4 c5 c6 c7 c8 c9 c10 c11 c12 c13 c14 c15 c16, l = [c0, c1, c2, c3, c4, c5, c6, c7, c8, c9, c10, c11, c12, c13, c14, c15, c16] := by
  match l, h with
  | [c0, c1, c2, c3, c4, c5, c6, c7, c8, c9, c10, c11, c12, c13, c14, c15, c16], _ => exact ⟨c0, c1, c2, c3, c4, c5, c6, c7, c8, c9, c10, c11, c12, c13, c14, c15, c16, rfl⟩

set_option maxRecDepth 100000 in
theorem op_cells {H : Type} {enc : TypeId × Value → H} {w : World} {base n : Nat} {spare : Nat → Bool} {held : Bool} {cs : List Value} {x : DataW H × List MemPlace}
    (h : DataW.trod enc Tryz.prog w base spare held n 60 cs = some x) : ∃ o : OpD, (cs.length = 17 ∧ ∀ j, j < 17 → cs[j]? = some (o.cell j)) ∧ I64 o.on ∧ I64 o.nn ∧ o.fr.size ≤ maxLen := by
  obtain ⟨xs, k, _, hx, hcl, hlen, hall⟩ := DataW.trod_struct Tryz.underlying60 h
  obtain ⟨v0, v1, v2, v3, v4, v5, v6, v7, v8, v9, v10, v11, v12, v13, v14, v15, v16, rfl⟩ := list17 (hcl.trans Tryz.cellsOp)
  obtain ⟨y0, y1, y2, y3, y4, y5, rfl⟩ := list6 hlen
  have g0 := hall 0 _ rfl
  have g1 := hall 1 _ rfl
  have g2 := hall 2 _ rfl
  have g3 := hall 3 _ rfl
  have g4 := hall 4 _ rfl
  have g5 := hall 5 _ rfl
  clear hall
  obtain ⟨n0, e0, rfl, w0⟩ := DataW.trod_int Tryz.underlying3 g0
  obtain ⟨n1, e1, rfl, w1⟩ := DataW.trod_int Tryz.underlying3 g1
  obtain ⟨zc, e2, w2⟩ := cmd_cells g2
  obtain ⟨s3, e3, rfl, w3⟩ := DataW.trod_string Tryz.underlying9 g3
  obtain ⟨n4, e4, rfl, w4⟩ := DataW.trod_int Tryz.underlying3 g4
  obtain ⟨zl, e5, w5⟩ := loss_cells g5
  simp [Tryz.cellsI] at e0 e1 e4
  simp [Tryz.cellsCmd] at e2
  simp [Tryz.cellsStr] at e3
  simp [Tryz.cellsLoss] at e5
  obtain ⟨rfl, rfl, rfl, rfl, rfl, rfl, rfl, rfl, rfl⟩ := e2
  obtain ⟨rfl, rfl, rfl, rfl⟩ := e5
  subst e0 e1 e3 e4
  refine ⟨⟨n0, n1, zc, s3, n4, zl⟩, ⟨rfl, fun j hj => ?_⟩, .of_wf w1, .of_wf w4, w3⟩
  have hj' : ¬ 17 ≤ j := by omega
  match j with
  | 0 => rfl
  | 1 => rfl
  | 2 => rfl
  | 3 => rfl
  | 4 => rfl
  | 5 => rfl
  | 6 => rfl
  | 7 => rfl
  | 8 => rfl
  | 9 => rfl
  | 10 => rfl
  | 11 => rfl
  | 12 => rfl
  | 13 => rfl
  | 14 => rfl
  | 15 => rfl
  | 16 => rfl
  | m + 17 => omega

set_option maxRecDepth 100000 in
/-- A slice of steps that came in. -/
theorem open_ops {H : Type} {enc : TypeId × Value → H} {W : World} {base : Nat} {v : Value} {d : DataW H} {p : List MemPlace}
    (hval : Value.okWide Tryz.prog W .any base 22 v) (h : DataW.Trod enc Tryz.prog W 0 (fun _ => true) true 22 v d p) : ∃ n R, OpsIn W v n R := by
  obtain ⟨a1, len1, cap1, rfl⟩ := okWide_slice Tryz.underlying22 hval
  obtain ⟨fuel, hf⟩ := h
  rcases open_slice Tryz.underlying22 hf with ⟨hcs, _⟩ | ⟨a, len, cap, m, n, D, Pl, hcs, hb, hl, hm, hmm, _, hx⟩
  · simp [Value.cells] at hcs
    obtain ⟨rfl, rfl, rfl⟩ := hcs
    exact ⟨0, fun _ => ⟨0, 0, fun _ => 0, .empty, 0, fun _ => 0⟩, none, 0, rfl, by unfold maxLen; omega, fun i hi => by omega⟩
  · simp [Value.cells] at hcs
    obtain ⟨rfl, rfl, rfl⟩ := hcs
    simp only [if_true] at hmm
    subst hmm
    have each : ∀ i, i < len1 → ∃ o : OpD, (∀ j, j < 17 → W.cell? (a.add (i * 17 + j)) = some (o.cell j)) ∧ I64 o.on ∧ I64 o.nn ∧ o.fr.size ≤ maxLen := fun i hi => by
      obtain ⟨cs', h1, h2⟩ := hx i (by omega)
      rw [Tryz.cellsOp] at h1
      obtain ⟨_, hlen, hcell⟩ := World.cells?_some h1
      obtain ⟨o, hz, h3⟩ := op_cells h2
      refine ⟨o, fun j hj => ?_, h3⟩
      have := hcell j hj
      rw [Addr.addadd, hz.2 j hj] at this
      exact this
    have ⟨R, hR⟩ : ∃ R : Nat → OpD, ∀ i, i < len1 → (∀ j, j < 17 → W.cell? (a.add (i * 17 + j)) = some ((R i).cell j)) ∧ I64 (R i).on ∧ I64 (R i).nn ∧ (R i).fr.size ≤ maxLen := by
      classical
      refine ⟨fun i => if h : i < len1 then (each i h).choose else ⟨0, 0, fun _ => 0, .empty, 0, fun _ => 0⟩, fun i h => ?_⟩
      simp only [h, dif_pos]
      exact (each i h).choose_spec
    refine ⟨len1, R, some a, _, rfl, by omega, fun i hi => ⟨a, rfl, ?_, (hR i hi).1, (hR i hi).2⟩⟩
    have := cell_lt ((hR i hi).1 0 (by omega))
    rwa [Addr.add_block] at this

end Go.Proofs.YtbpnllhhmookcaaGreatDoor

/- firnlaw's Does is true for every script, and leaves it as it was: the row, and its tied card. -/
namespace Go.Proofs.YtbpnllhhmookcaaGreatDoor
open Go.ChangeShapes Go.WideShapes Go.ChangeAt Go.RowKit

theorem Tryz.ownKD : ownKnob Tryz.prog.godebug = none := by kernel_rfl

set_option maxRecDepth 100000 in
theorem does_lifted (os : Os) (started : os.Started) (H : Type) (enc : TypeId × Value → H) :
    ReturnsInHanded {} Tryz.checked os 3 .any (fun w args => (Rows.doesSpec.pre enc Tryz.prog Tryz.f3 [] false w args ∧ laidMetH Tryz.prog Rows.doesRow.laid w) ∧ sizedMet enc Tryz.prog Tryz.f3 (OpenSpec.ofChange Rows.doesSpec) false w args)
      (Rows.doesSpec.post enc Tryz.prog Tryz.f3 false true false false) := by
  refine returnsInHanded_of_change_and (C := Tryz.checked) (X := fun w _ => laidMetH Tryz.prog Rows.doesRow.laid w) (fun _ _ _ hh h => h.of_heap hh) Tryz.ownKD started (by kernel_rfl) Tryz.func3
    (ChangeSpec.witness_at (enc := enc) (C := Tryz.checked) (os := os) (X := fun w _ => laidMetH Tryz.prog Rows.doesRow.laid w) false (laidW Tryz.prog os) #[.slice none 0 0] 8 rfl (by kernel_rfl) (by kernel_rfl) (by kernel_rfl) (by kernel_rfl) (by kernel_rfl) (laidW_met os _)) ?_
  intro W base args ds gs before hval0 hW _ _ _ _
  have hval : ∀ (j : Nat) t v, Tryz.f3.params[j]? = some t → args[j]? = some v → Value.okWide Tryz.prog W .any base t v := hval0
  have hW' := hW
  obtain ⟨p, q, hA0, hV, rfl, hfz, hnd⟩ := hW
  have hA : DataW.TrodAll enc Tryz.prog W 0 (fun _ => true) true Tryz.f3.params.toList args.toList ds p := hA0
  rw [Tryz.params3] at hA hval
  obtain ⟨v0, d0, rfl, rfl, h0⟩ := trodAll_one hA
  obtain ⟨rfl, rfl⟩ := trodVars_none hV
  obtain ⟨n, R, hR⟩ := open_ops (hval 0 22 v0 rfl rfl) h0
  clear hA0 hval0
  simp only [List.append_nil] at hW'
  have hlt : ∀ x ∈ p, x.block < W.heap.size := fun x hx => by simpa using hW'.lt x hx
  refine (does_law v0 n R W hR).mono fun e W' ⟨he, hb⟩ => ?_
  subst he
  refine ⟨_, rfl, _, _, _, [], p, [], hW', ?_, ?_, rfl, hb.frame _, fun h => by cases h⟩
  · exact trodAll_mk1 (shut_bool Tryz.underlying4 true)
  · exact trodAll_mk1 (Below.trod Tryz.laidOut (by kernel_rfl) (of_decide_eq_true (by kernel_rfl)) h0 hb hlt)

theorem does_holds : Rows.DoesSaid :=
  OpenClaim.holds_of_wide 3 Tryz.f3 rfl rfl rfl rfl rfl rfl rfl ⟨rfl, rfl, rfl, rfl, rfl⟩ rfl rfl rfl rfl rfl (by kernel_rfl) Tryz.func3 (by kernel_rfl)
    (of_decide_eq_true (by kernel_rfl)) (by unfold Func.isWrapper; rw [if_neg (by decide +kernel)]; exact ⟨rfl, rfl⟩)
    (fun os started H enc _ => does_lifted os started H enc)

theorem does_card_holds : Rows.DoesCardSaid :=
  Claim7.holds_tied_plain_at .later [] [.data, .pinned] true (true, "12de8b7f49acbbcbc10c7a7e36a504ef805acf3bb81f1afc6079669064ac4c59") false
    does_holds (fun _ h => by cases h) (by kernel_rfl) (fun _ h => by cases h) does_row_tie rfl ⟨rfl, rfl⟩ (by kernel_rfl) rfl
    (fun f fn hf hfn => by
      obtain rfl : f = 3 := Option.some.inj ((show Tryz.prog.funcNamed Rows.doesRow.func = some 3 by kernel_rfl).symm.trans hf) |>.symm
      obtain rfl : fn = Tryz.f3 := (Option.some.inj (Tryz.func3.symm.trans hfn)).symm
      exact ⟨by kernel_rfl, fun j t ht => by
        rw [Tryz.params3] at ht
        have hm : t ∈ [22] := by simpa using Array.mem_of_getElem? ht
        have hall : ([22].all fun u => !Tryz.prog.wantsStandIn u) = true := by kernel_rfl
        exact (show Tryz.prog.wantsStandIn t = false by simpa using List.all_eq_true.1 hall t hm)⟩)
    (by kernel_rfl)

#print axioms does_card_holds
end Go.Proofs.YtbpnllhhmookcaaGreatDoor
