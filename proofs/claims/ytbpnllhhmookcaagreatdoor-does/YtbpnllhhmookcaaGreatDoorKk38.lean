/- firnkeep: command. -/
import Derived.Test.YtbpnllhhmookcaaGreatDoorKk37
namespace Go.Proofs.YtbpnllhhmookcaaGreatDoor
open Go.RowKit Go.Shelf

theorem I64.tdiv {c : Int} (h : I64 c) (k : Int) (hk : 1 ≤ k) : I64 (c.tdiv k) := by
  obtain ⟨h1, h2⟩ := h
  have hd : ∀ a : Int, 0 ≤ a → 0 ≤ a.tdiv k ∧ a.tdiv k ≤ a := fun a ha => by
    rw [Int.tdiv_eq_ediv_of_nonneg ha]
    exact ⟨Int.ediv_nonneg ha (by omega), Int.ediv_le_self _ ha⟩
  rcases Int.le_total 0 c with h0 | h0
  · have := hd c h0; exact ⟨by omega, by omega⟩
  · have := hd (-c) (by omega)
    rw [Int.neg_tdiv] at this
    exact ⟨by omega, by omega⟩

set_option maxRecDepth 8000 in
set_option maxHeartbeats 16000000 in
theorem command_any (rk ra rb rv rp : Int) (hk : I64 rk) (ha : I64 ra) (hb : I64 rb) (hv : I64 rv) (hp : I64 rp) (w : World) :
    Calls Tryz.prog 10 #[.agg #[.int .i64 rk, .int .i64 ra, .int .i64 rb, .int .i64 rv, .int .i64 rp]] w (CmdEnds w) := by
  have Ha := hid (pick_any ra ha 12 (by omega) (by omega))
  have Hb := hid (pick_any rb hb 12 (by omega) (by omega))
  have Hv := hid (pick_any rv hv 60 (by omega) (by omega))
  have Hp := hid (pick_any rp hp 4 (by omega) (by omega))
  have Hp4 := hid (pick_any _ (hp.tdiv 4 (by omega)) 4 (by omega) (by omega))
  have Hp16 := hid (pick_any _ (hp.tdiv 16 (by omega)) 2 (by omega) (by omega))
  have Hk := hid (pick_any rk hk 14 (by omega) (by omega))
  have Hv3 := hid (pick_any rv hv 3 (by omega) (by omega))
  have Hb3 := hid (pick_any rb hb 3 (by omega) (by omega))
  obtain ⟨k1, k2⟩ := hk
  obtain ⟨a1, a2⟩ := ha
  obtain ⟨b1, b2⟩ := hb
  obtain ⟨v1, v2⟩ := hv
  obtain ⟨p1, p2⟩ := hp
  go_enter Tryz.func10, Tryz.ntmps10
  go_wp2_with fail
  refine (Ha.out _).mono ?_
  rintro e w1 ⟨z1, rfl, hz1, rfl⟩
  go_wp2_with fail
  refine (Hb.out _).mono ?_
  rintro e w1 ⟨z2, rfl, hz2, rfl⟩
  go_wp2_with fail
  refine (Hv.out _).mono ?_
  rintro e w1 ⟨z3, rfl, hz3, rfl⟩
  go_wp2_with fail
  refine (Hp.out _).mono ?_
  rintro e w1 ⟨z4, rfl, hz4, rfl⟩
  go_wp2_with fail
  refine (Hp4.out _).mono ?_
  rintro e w1 ⟨z5, rfl, hz5, rfl⟩
  go_wp2_with fail
  refine (Hp16.out _).mono ?_
  rintro e w1 ⟨z6, rfl, hz6, rfl⟩
  go_wp2_with fail
  refine (Hk.out _).mono ?_
  rintro e w1 ⟨z7, rfl, hz7, rfl⟩
  clear Ha Hb Hv Hp Hp4 Hp16 Hk
  have hbw : Below w.heap.size w (w.alloc (.cells #[.int .i64 rk, .int .i64 ra, .int .i64 rb, .int .i64 rv, .int .i64 rp] 34)) := (Below.refl _ w).alloc (Nat.le_refl _) _
  have hsz : (w.alloc (.cells #[.int .i64 rk, .int .i64 ra, .int .i64 rb, .int .i64 rv, .int .i64 rp] 34)).heap.size = w.heap.size + 1 := by simp
  have HB := hid (fun (arr : Array Value) => hbw.alloc (by omega) (.cells arr 31))
  clear hbw hsz
  have hkk : z7 = 0 ∨ z7 = 1 ∨ z7 = 2 ∨ z7 = 3 ∨ z7 = 4 ∨ z7 = 5 ∨ z7 = 6 ∨ z7 = 7 ∨ z7 = 8 ∨ z7 = 9 ∨ z7 = 10 ∨ z7 = 11 ∨ z7 = 12 ∨ z7 = 13 := by omega
  clear hz7
  rcases hkk with rfl | rfl | rfl | rfl | rfl | rfl | rfl | rfl | rfl | rfl | rfl | rfl | rfl | rfl
  case inl =>
    go_wp2_with (go_at_call 15; refine (Hv3.out _).mono ?_; rintro e w1 ⟨z8, rfl, hz8, rfl⟩)
    exact bodyPost_ret (v := .agg #[.int .i64 (1), .int .i64 (0), .int .i64 (0), .int .i64 (0), .int .i64 (0), .int .i64 (1 + (z6 : Int)), .int .i64 (0), .int .i64 (0), .int .i64 (2 + (z8 : Int))]) (by simp [results, Tryz.results10, go_sem]) rfl ⟨⟨1, 0, 0, 0, 0, 1 + z6, 0, 0, 2 + z8⟩, congrArg Ending.returned (cm_val ⟨1, 0, 0, 0, 0, 1 + z6, 0, 0, 2 + z8⟩ rfl rfl rfl rfl rfl (by simp) rfl rfl (by simp)), r_newbox (by omega) (by omega), HB.out _⟩
  case inr.inl =>
    go_wp2_with (go_at_call 15; refine (Hb3.out _).mono ?_; rintro e w1 ⟨z8, rfl, hz8, rfl⟩)
    exact bodyPost_ret (v := .agg #[.int .i64 (2), .int .i64 (1 + (z1 : Int)), .int .i64 (0), .int .i64 (1 + (z8 : Int)), .int .i64 (1 + (z3 : Int)), .int .i64 (1 + (z6 : Int)), .int .i64 ((z4 : Int)), .int .i64 ((z5 : Int)), .int .i64 (0)]) (by simp [results, Tryz.results10, go_sem]) rfl ⟨⟨2, 1 + z1, 0, 1 + z8, 1 + z3, 1 + z6, z4, z5, 0⟩, congrArg Ending.returned (cm_val ⟨2, 1 + z1, 0, 1 + z8, 1 + z3, 1 + z6, z4, z5, 0⟩ rfl (by simp) rfl (by simp) (by simp) (by simp) (by simp) (by simp) rfl), r_register (by omega) (by omega) (by omega) (by omega) (by omega) (by omega), HB.out _⟩
  case inr.inr.inl =>
    go_wp2_with (go_at_call 15; refine (Hb3.out _).mono ?_; rintro e w1 ⟨z8, rfl, hz8, rfl⟩)
    exact bodyPost_ret (v := .agg #[.int .i64 (2), .int .i64 (1 + (z1 : Int)), .int .i64 (0), .int .i64 (1 + (z8 : Int)), .int .i64 (1 + (z3 : Int)), .int .i64 (1 + (z6 : Int)), .int .i64 ((z4 : Int)), .int .i64 ((z5 : Int)), .int .i64 (0)]) (by simp [results, Tryz.results10, go_sem]) rfl ⟨⟨2, 1 + z1, 0, 1 + z8, 1 + z3, 1 + z6, z4, z5, 0⟩, congrArg Ending.returned (cm_val ⟨2, 1 + z1, 0, 1 + z8, 1 + z3, 1 + z6, z4, z5, 0⟩ rfl (by simp) rfl (by simp) (by simp) (by simp) (by simp) (by simp) rfl), r_register (by omega) (by omega) (by omega) (by omega) (by omega) (by omega), HB.out _⟩
  case inr.inr.inr.inl =>
    go_wp2_with (go_at_call 15; refine (Hb3.out _).mono ?_; rintro e w1 ⟨z8, rfl, hz8, rfl⟩)
    exact bodyPost_ret (v := .agg #[.int .i64 (2), .int .i64 (1 + (z1 : Int)), .int .i64 (0), .int .i64 (1 + (z8 : Int)), .int .i64 (1 + (z3 : Int)), .int .i64 (1 + (z6 : Int)), .int .i64 ((z4 : Int)), .int .i64 ((z5 : Int)), .int .i64 (0)]) (by simp [results, Tryz.results10, go_sem]) rfl ⟨⟨2, 1 + z1, 0, 1 + z8, 1 + z3, 1 + z6, z4, z5, 0⟩, congrArg Ending.returned (cm_val ⟨2, 1 + z1, 0, 1 + z8, 1 + z3, 1 + z6, z4, z5, 0⟩ rfl (by simp) rfl (by simp) (by simp) (by simp) (by simp) (by simp) rfl), r_register (by omega) (by omega) (by omega) (by omega) (by omega) (by omega), HB.out _⟩
  case inr.inr.inr.inr.inl =>
    go_wp2
    exact bodyPost_ret (v := .agg #[.int .i64 (3), .int .i64 (1 + (z1 : Int)), .int .i64 (0), .int .i64 (0), .int .i64 (0), .int .i64 (1 + (z6 : Int)), .int .i64 ((z4 : Int)), .int .i64 ((z5 : Int)), .int .i64 (0)]) (by simp [results, Tryz.results10, go_sem]) rfl ⟨⟨3, 1 + z1, 0, 0, 0, 1 + z6, z4, z5, 0⟩, congrArg Ending.returned (cm_val ⟨3, 1 + z1, 0, 0, 0, 1 + z6, z4, z5, 0⟩ rfl (by simp) rfl rfl rfl (by simp) (by simp) (by simp) rfl), r_place (by omega) (by omega) (by omega) (by omega) (by omega), HB.out _⟩
  case inr.inr.inr.inr.inr.inl =>
    go_wp2
    exact bodyPost_ret (v := .agg #[.int .i64 (4), .int .i64 (1 + (z1 : Int)), .int .i64 (1 + (z2 : Int)), .int .i64 (0), .int .i64 (1 + (z3 : Int)), .int .i64 (1 + (z6 : Int)), .int .i64 ((z4 : Int)), .int .i64 ((z5 : Int)), .int .i64 (0)]) (by simp [results, Tryz.results10, go_sem]) rfl ⟨⟨4, 1 + z1, 1 + z2, 0, 1 + z3, 1 + z6, z4, z5, 0⟩, congrArg Ending.returned (cm_val ⟨4, 1 + z1, 1 + z2, 0, 1 + z3, 1 + z6, z4, z5, 0⟩ rfl (by simp) (by simp) rfl (by simp) (by simp) (by simp) (by simp) rfl), r_aliquot (by omega) (by omega) (by omega) (by omega) (by omega) (by omega), HB.out _⟩
  case inr.inr.inr.inr.inr.inr.inl =>
    go_wp2
    exact bodyPost_ret (v := .agg #[.int .i64 (4), .int .i64 (1 + (z1 : Int)), .int .i64 (1 + (z2 : Int)), .int .i64 (0), .int .i64 (1 + (z3 : Int)), .int .i64 (1 + (z6 : Int)), .int .i64 ((z4 : Int)), .int .i64 ((z5 : Int)), .int .i64 (0)]) (by simp [results, Tryz.results10, go_sem]) rfl ⟨⟨4, 1 + z1, 1 + z2, 0, 1 + z3, 1 + z6, z4, z5, 0⟩, congrArg Ending.returned (cm_val ⟨4, 1 + z1, 1 + z2, 0, 1 + z3, 1 + z6, z4, z5, 0⟩ rfl (by simp) (by simp) rfl (by simp) (by simp) (by simp) (by simp) rfl), r_aliquot (by omega) (by omega) (by omega) (by omega) (by omega) (by omega), HB.out _⟩
  case inr.inr.inr.inr.inr.inr.inr.inl =>
    go_wp2
    exact bodyPost_ret (v := .agg #[.int .i64 (5), .int .i64 (1 + (z1 : Int)), .int .i64 (1 + (z2 : Int)), .int .i64 (0), .int .i64 (1 + (z3 : Int)), .int .i64 (0), .int .i64 (0), .int .i64 (0), .int .i64 (0)]) (by simp [results, Tryz.results10, go_sem]) rfl ⟨⟨5, 1 + z1, 1 + z2, 0, 1 + z3, 0, 0, 0, 0⟩, congrArg Ending.returned (cm_val ⟨5, 1 + z1, 1 + z2, 0, 1 + z3, 0, 0, 0, 0⟩ rfl (by simp) (by simp) rfl (by simp) rfl rfl rfl rfl), r_pour (by omega) (by omega) (by omega), HB.out _⟩
  case inr.inr.inr.inr.inr.inr.inr.inr.inl =>
    go_wp2
    exact bodyPost_ret (v := .agg #[.int .i64 (5), .int .i64 (1 + (z1 : Int)), .int .i64 (1 + (z2 : Int)), .int .i64 (0), .int .i64 (1 + (z3 : Int)), .int .i64 (0), .int .i64 (0), .int .i64 (0), .int .i64 (0)]) (by simp [results, Tryz.results10, go_sem]) rfl ⟨⟨5, 1 + z1, 1 + z2, 0, 1 + z3, 0, 0, 0, 0⟩, congrArg Ending.returned (cm_val ⟨5, 1 + z1, 1 + z2, 0, 1 + z3, 0, 0, 0, 0⟩ rfl (by simp) (by simp) rfl (by simp) rfl rfl rfl rfl), r_pour (by omega) (by omega) (by omega), HB.out _⟩
  case inr.inr.inr.inr.inr.inr.inr.inr.inr.inl =>
    go_wp2
    exact bodyPost_ret (v := .agg #[.int .i64 (6), .int .i64 (1 + (z1 : Int)), .int .i64 (0), .int .i64 (0), .int .i64 (1 + (z3 : Int)), .int .i64 (0), .int .i64 (0), .int .i64 (0), .int .i64 (0)]) (by simp [results, Tryz.results10, go_sem]) rfl ⟨⟨6, 1 + z1, 0, 0, 1 + z3, 0, 0, 0, 0⟩, congrArg Ending.returned (cm_val ⟨6, 1 + z1, 0, 0, 1 + z3, 0, 0, 0, 0⟩ rfl (by simp) rfl rfl (by simp) rfl rfl rfl rfl), r_use (by omega) (by omega), HB.out _⟩
  case inr.inr.inr.inr.inr.inr.inr.inr.inr.inr.inl =>
    go_wp2
    exact bodyPost_ret (v := .agg #[.int .i64 (7), .int .i64 (1 + (z1 : Int)), .int .i64 (0), .int .i64 (0), .int .i64 (0), .int .i64 (0), .int .i64 (0), .int .i64 (0), .int .i64 (0)]) (by simp [results, Tryz.results10, go_sem]) rfl ⟨⟨7, 1 + z1, 0, 0, 0, 0, 0, 0, 0⟩, congrArg Ending.returned (cm_val ⟨7, 1 + z1, 0, 0, 0, 0, 0, 0, 0⟩ rfl (by simp) rfl rfl rfl rfl rfl rfl rfl), r_take (by omega), HB.out _⟩
  case inr.inr.inr.inr.inr.inr.inr.inr.inr.inr.inr.inl =>
    go_wp2
    exact bodyPost_ret (v := .agg #[.int .i64 (8), .int .i64 (1 + (z1 : Int)), .int .i64 (0), .int .i64 (0), .int .i64 (0), .int .i64 (1 + (z6 : Int)), .int .i64 ((z4 : Int)), .int .i64 ((z5 : Int)), .int .i64 (0)]) (by simp [results, Tryz.results10, go_sem]) rfl ⟨⟨8, 1 + z1, 0, 0, 0, 1 + z6, z4, z5, 0⟩, congrArg Ending.returned (cm_val ⟨8, 1 + z1, 0, 0, 0, 1 + z6, z4, z5, 0⟩ rfl (by simp) rfl rfl rfl (by simp) (by simp) (by simp) rfl), r_place (by omega) (by omega) (by omega) (by omega) (by omega), HB.out _⟩
  case inr.inr.inr.inr.inr.inr.inr.inr.inr.inr.inr.inr.inl =>
    cases hbb : (bits BinOp.and IntKind.i64 rv 3 == 0) with
    | true =>
      go_wp2_with (go_at_call 15; refine (Hb3.out _).mono ?_; rintro e w1 ⟨z8, rfl, hz8, rfl⟩)
      exact bodyPost_ret (v := .agg #[.int .i64 (9), .int .i64 (0), .int .i64 (0), .int .i64 (1 + (z8 : Int)), .int .i64 (0), .int .i64 (0), .int .i64 (0), .int .i64 (0), .int .i64 (0)]) (by simp [results, Tryz.results10, go_sem]) rfl ⟨⟨9, 0, 0, 1 + z8, 0, 0, 0, 0, 0⟩, congrArg Ending.returned (cm_val ⟨9, 0, 0, 1 + z8, 0, 0, 0, 0, 0⟩ rfl rfl rfl (by simp) rfl rfl rfl rfl rfl), r_withdraw (by omega), HB.out _⟩
    | false =>
      go_wp2
      exact bodyPost_ret (v := .agg #[.int .i64 (11), .int .i64 (0), .int .i64 (0), .int .i64 (0), .int .i64 (0), .int .i64 (1 + (z6 : Int)), .int .i64 (0), .int .i64 (0), .int .i64 (0)]) (by simp [results, Tryz.results10, go_sem]) rfl ⟨⟨11, 0, 0, 0, 0, 1 + z6, 0, 0, 0⟩, congrArg Ending.returned (cm_val ⟨11, 0, 0, 0, 0, 1 + z6, 0, 0, 0⟩ rfl rfl rfl rfl rfl (by simp) rfl rfl rfl), r_flip (by omega), HB.out _⟩
  case inr.inr.inr.inr.inr.inr.inr.inr.inr.inr.inr.inr.inr =>
    go_wp2_with (go_at_call 15; refine (Hv3.out _).mono ?_; rintro e w1 ⟨z8, rfl, hz8, rfl⟩)
    exact bodyPost_ret (v := .agg #[.int .i64 (10), .int .i64 (0), .int .i64 (0), .int .i64 (0), .int .i64 (0), .int .i64 (1 + (z6 : Int)), .int .i64 (0), .int .i64 (0), .int .i64 (1 + (z8 : Int))]) (by simp [results, Tryz.results10, go_sem]) rfl ⟨⟨10, 0, 0, 0, 0, 1 + z6, 0, 0, 1 + z8⟩, congrArg Ending.returned (cm_val ⟨10, 0, 0, 0, 0, 1 + z6, 0, 0, 1 + z8⟩ rfl rfl rfl rfl rfl (by simp) rfl rfl (by simp)), r_turn (by omega) (by omega), HB.out _⟩

end Go.Proofs.YtbpnllhhmookcaaGreatDoor

/- firnkeep: store; may. -/
namespace Go.Proofs.YtbpnllhhmookcaaGreatDoor
open Go.RowKit Go.Shelf

theorem done_lit {sb l : Nat} {v : Value} {p : Int} {L : Led} (m : Cm) {mv : Value} {e : Int} {zs : List Int} {L' : Led} (hm : encB m.ints = true) (hv : m.val = mv) (hE : L.stepE 32 m = e) (hN : L.stepN 32 m = zs) (hL : L.stepL 32 m = L') (w : World) (hS : StoreAt w sb l v p L) :
    Calls Tryz.prog 12 #[.pointer (some ⟨sb, 0, none⟩), mv] w fun en w' => ∃ vv, en = .returned (.tuple #[vv, .int .i64 e]) ∧ IntsIn w' vv zs ∧ StoreAt w' sb l v p L' ∧ Keeps (fun k => k = l) w w' := by
  subst hv hE hN hL
  exact done_any sb l v p L m hm w hS

def lg1 : Led := ⟨[(1, 3)], [], []⟩
def lg2 : Led := ⟨[(1, 3)], [(5, ⟨0, 1, 1, 2, 1, 0, 100, 100, 0, 0⟩)], []⟩
def lg3 : Led := ⟨[(1, 3)], [(5, ⟨0, 1, 1, 2, 1, 0, 100, 70, 0, 0⟩), (9, ⟨2, 2, 1, 2, 1, 0, 0, 30, 0, 0⟩)], [(5, 9, 30)]⟩

theorem lg_a : Led.none.stepE 32 ⟨1, 0, 0, 0, 0, 1, 0, 0, 3⟩ = 0 ∧ Led.none.stepN 32 ⟨1, 0, 0, 0, 0, 1, 0, 0, 3⟩ = [] ∧ Led.none.stepL 32 ⟨1, 0, 0, 0, 0, 1, 0, 0, 3⟩ = lg1 := ⟨by kernel_rfl, by kernel_rfl, by kernel_rfl⟩
theorem lg_b : lg1.stepE 32 ⟨2, 5, 0, 2, 100, 1, 0, 1, 0⟩ = 0 ∧ lg1.stepN 32 ⟨2, 5, 0, 2, 100, 1, 0, 1, 0⟩ = [] ∧ lg1.stepL 32 ⟨2, 5, 0, 2, 100, 1, 0, 1, 0⟩ = lg2 := ⟨by kernel_rfl, by kernel_rfl, by kernel_rfl⟩
theorem lg_c : lg2.stepE 32 ⟨4, 5, 9, 0, 30, 1, 2, 2, 0⟩ = 0 ∧ lg2.stepN 32 ⟨4, 5, 9, 0, 30, 1, 2, 2, 0⟩ = [] ∧ lg2.stepL 32 ⟨4, 5, 9, 0, 30, 1, 2, 2, 0⟩ = lg3 := ⟨by kernel_rfl, by kernel_rfl, by kernel_rfl⟩
theorem lg_d : lg3.stepE 32 ⟨12, 9, 0, 0, 0, 0, 0, 0, 0⟩ = 0 ∧ lg3.stepN 32 ⟨12, 9, 0, 0, 0, 0, 0, 0, 0⟩ = [2, 0, 30, 0, 0, 1, 0, 1, 2, 2] ∧ lg3.stepL 32 ⟨12, 9, 0, 0, 0, 0, 0, 0, 0⟩ = lg3 := ⟨by kernel_rfl, by kernel_rfl, by kernel_rfl⟩
theorem lg_e : lg3.stepE 32 ⟨16, 5, 0, 0, 0, 0, 0, 0, 0⟩ = 0 ∧ lg3.stepN 32 ⟨16, 5, 0, 0, 0, 0, 0, 0, 0⟩ = [9] ∧ lg3.stepL 32 ⟨16, 5, 0, 0, 0, 0, 0, 0, 0⟩ = lg3 := ⟨by kernel_rfl, by kernel_rfl, by kernel_rfl⟩

theorem IntsIn.keepsL {w w' : World} {v : Value} {zs : List Int} (h : IntsIn w v zs) {l : Nat} {L : Led} {lim : Nat} (hl : LedgerAt w l L lim) (hk : Keeps (fun k => k = l) w w') : IntsIn w' v zs := by
  rcases h with ⟨g, cap, rfl, hg, hc⟩ | h
  · refine .inl ⟨g, cap, rfl, Nat.lt_of_lt_of_le hg hk.size, fun j hj => ?_⟩
    obtain ⟨⟨r, n₀, hb, _⟩, _⟩ := hl
    have hne : g ≠ l := by
      rintro rfl
      have h0 := hc 0 (by omega)
      rw [hb.c0] at h0; cases h0
    rw [World.cell?_of_block (w := w) (hk.block g hg hne)]
    exact hc j hj
  · exact .inr h

theorem ints10 (w : World) : IntsIn (w.alloc (.cells #[.int .i64 2, .int .i64 0, .int .i64 30, .int .i64 0, .int .i64 0, .int .i64 1, .int .i64 0, .int .i64 1, .int .i64 2, .int .i64 2] 3)) (.slice (some ⟨w.heap.size, 0, none⟩) 10 10) [2, 0, 30, 0, 0, 1, 0, 1, 2, 2] := by
  refine .inl ⟨w.heap.size, 10, rfl, by simp, fun i hi => ?_⟩
  rw [World.cell?_alloc_new]
  match i, hi with
  | 0, _ => rfl
  | 1, _ => rfl
  | 2, _ => rfl
  | 3, _ => rfl
  | 4, _ => rfl
  | 5, _ => rfl
  | 6, _ => rfl
  | 7, _ => rfl
  | 8, _ => rfl
  | 9, _ => rfl
  | n + 10, h => simp at h; omega
theorem ints1 (w : World) : IntsIn (w.alloc (.cells #[.int .i64 9] 3)) (.slice (some ⟨w.heap.size, 0, none⟩) 1 1) [9] := by
  refine .inl ⟨w.heap.size, 1, rfl, by simp, fun i hi => ?_⟩
  rw [World.cell?_alloc_new]
  match i, hi with
  | 0, _ => rfl
  | n + 1, h => simp at h

theorem newBox_alloc (w0 : World) (g : Nat) : NewBox (w0.alloc (.cells #[.pointer none, .slice (some ⟨g, 0, none⟩) 32768 32768, .int .i64 0] 70)) w0.heap.size g := by
  unfold NewBox
  show (w0.heap.push _)[w0.heap.size]? = _
  rw [Array.getElem?_push_size]
theorem below_keeps {w w1 w2 : World} (h : Below w.heap.size w w1) {X : Nat → Prop} (hk : Keeps X w1 w2) (hx : ∀ k, X k → w.heap.size ≤ k) : Below w.heap.size w w2 :=
  h.trans (hk.toBelow hx h.size)
theorem IntsIn.drewN {w : World} {v : Value} {zs : List Int} (h : IntsIn w v zs) (n : Nat) : IntsIn (w.drewN n) v zs := h

set_option maxRecDepth 8000 in
set_option maxHeartbeats 600000 in
theorem kstore_any (w : World) :
    Calls Tryz.prog 9 #[] w fun e w' => ∃ sb l, e = .returned (.tuple #[.pointer (some ⟨sb, 0, none⟩), .bool true]) ∧ (∃ g, StoreAt w' sb l (.slice (some ⟨g, 0, none⟩) 32768 32768) 0 lg3) ∧ w.heap.size ≤ sb ∧ w.heap.size ≤ l ∧ Below w.heap.size w w' := by
  obtain ⟨i0, hi, hz0, hz1, hz2⟩ := info_parts Tryz.infoByte
  go_enter Tryz.func9, Tryz.ntmps9
  go_wp2_with (at_make; refine wpList_make_full _ rfl _ _ 68 rfl w.heap.size 5 i0 (.int .u8 0) 1 Tryz.underlying68 hi hz0 hz1 .i64 .i64 _ _ 32768 rfl rfl rfl rfl (by rw [hz2]; omega) (by unfold maxLen; omega) (by simp) ?_; intro w0 hown0 hgrow0)
  obtain ⟨hg0, hc0⟩ := made_zero hown0
  have hB0 : Below w.heap.size w w0 := Below.grown (Below.refl _ _) hgrow0 (by simp) (fun k hk => by cases hk)
  clear hown0 hgrow0 hi hz0 hz1 hz2
  have hN : NewBox (w0.alloc (.cells #[.pointer none, .slice (some ⟨w.heap.size, 0, none⟩) 32768 32768, .int .i64 0] 70)) w0.heap.size w.heap.size := newBox_alloc w0 w.heap.size
  have hBa : Below w.heap.size w (w0.alloc (.cells #[.pointer none, .slice (some ⟨w.heap.size, 0, none⟩) 32768 32768, .int .i64 0] 70)) := hB0.alloc hB0.size _
  have HO := hid (sopen_any w0.heap.size w.heap.size _ hN (by simp; omega) (fun j hj => (World.cell?_alloc_lt w0 _ (a := ⟨w.heap.size, j, none⟩) hg0).trans (hc0 j hj)))
  have HW := hid hB0.size
  have HB := hid hBa
  clear hN hBa hB0 hg0 hc0
  go_wp2_with fail
  refine HO.out.mono ?_
  clear HO
  rintro e w1 ⟨l, rfl, hS1, hl1, hk1⟩
  generalize hsb : w0.heap.size = sb at *
  have HL := hid (show w.heap.size ≤ l by have := HB.out.size; omega)
  have HB1 := hid (show Below w.heap.size w w1 from below_keeps HB.out hk1 (fun k h => by subst h; exact HW.out))
  clear HB hk1 hl1 hsb
  have HS := hid hS1
  clear hS1
  go_wp2_with fail
  refine (done_lit ⟨1, 0, 0, 0, 0, 1, 0, 0, 3⟩ (by decide +kernel) rfl lg_a.1 lg_a.2.1 lg_a.2.2 _ HS.out).mono ?_
  clear HS
  rintro e w2 ⟨v2, rfl, -, hS2, hk2⟩
  have HS := hid hS2
  clear hS2
  go_wp2_with fail
  refine (done_lit ⟨2, 5, 0, 2, 100, 1, 0, 1, 0⟩ (by decide +kernel) rfl lg_b.1 lg_b.2.1 lg_b.2.2 _ HS.out).mono ?_
  clear HS
  rintro e w3 ⟨v3, rfl, -, hS3, hk3⟩
  have HS := hid hS3
  clear hS3
  go_wp2_with fail
  refine (done_lit ⟨4, 5, 9, 0, 30, 1, 2, 2, 0⟩ (by decide +kernel) rfl lg_c.1 lg_c.2.1 lg_c.2.2 _ HS.out).mono ?_
  clear HS
  rintro e w4 ⟨v4, rfl, -, hS4, hk4⟩
  have HS := hid hS4
  clear hS4
  go_wp2_with fail
  refine (done_lit ⟨12, 9, 0, 0, 0, 0, 0, 0, 0⟩ (by decide +kernel) rfl lg_d.1 lg_d.2.1 lg_d.2.2 _ HS.out).mono ?_
  clear HS
  rintro e w5 ⟨v5, rfl, hi5, hS5, hk5⟩
  have HS := hid hS5
  clear hS5
  go_wp2_with fail
  refine (done_lit ⟨16, 5, 0, 0, 0, 0, 0, 0, 0⟩ (by decide +kernel) rfl lg_e.1 lg_e.2.1 lg_e.2.2 _ HS.out).mono ?_
  rintro e w6 ⟨v6, rfl, hi6, hS6, hk6⟩
  have hi5' := hi5.keepsL HS.out.led hk6
  have HK := hid (below_keeps HB1.out ((((hk2.trans hk3).trans hk4).trans hk5).trans hk6) (fun k h => h ▸ HL.out))
  clear HS hi5 hk2 hk3 hk4 hk5 hk6 HB1
  have HS := hid hS6
  have H5 := hid hi5'
  have H6 := hid hi6
  clear hS6 hi5' hi6
  have HQ1 := hid (same_any v5 _ [2, 0, 30, 0, 0, 1, 0, 1, 2, 2] _ (H5.out.below' ((Below.refl _ _).alloc (Nat.le_refl _) _)) (ints10 w6) (by simp))
  go_wp2_with fail
  refine HQ1.out.mono ?_
  clear HQ1
  rintro e w7 ⟨rfl, nd, rfl⟩
  have h6 : IntsIn ((w6.alloc (.cells #[.int .i64 2, .int .i64 0, .int .i64 30, .int .i64 0, .int .i64 0, .int .i64 1, .int .i64 0, .int .i64 1, .int .i64 2, .int .i64 2] 3)).drewN nd) v6 [9] := (H6.out.below' ((Below.refl _ w6).alloc (Nat.le_refl _) _)).drewN nd
  have hbb : Below w6.heap.size w6 ((w6.alloc (.cells #[.int .i64 2, .int .i64 0, .int .i64 30, .int .i64 0, .int .i64 0, .int .i64 1, .int .i64 0, .int .i64 1, .int .i64 2, .int .i64 2] 3)).drewN nd) := below_drewN ((Below.refl w6.heap.size w6).alloc (Nat.le_refl _) _) nd
  have HK7 := hid (HK.out.trans (hbb.mono HK.out.size))
  have HS7 := hid (HS.out.below hbb)
  have H67 := hid h6
  clear H5 H6 HS HK hbb h6
  generalize ((w6.alloc (.cells #[.int .i64 2, .int .i64 0, .int .i64 30, .int .i64 0, .int .i64 0, .int .i64 1, .int .i64 0, .int .i64 1, .int .i64 2, .int .i64 2] 3)).drewN nd) = w7 at *
  have HQ2 := hid (same_any v6 _ [9] _ (H67.out.below' ((Below.refl _ w7).alloc (Nat.le_refl _) _)) (ints1 w7) (by simp))
  go_wp2_with fail
  refine HQ2.out.mono ?_
  clear HQ2
  rintro e w8 ⟨rfl, nd2, rfl⟩
  go_wp2
  go_ret2
  have hbb : Below w7.heap.size w7 ((w7.alloc (.cells #[.int .i64 9] 3)).drewN nd2) := below_drewN ((Below.refl _ w7).alloc (Nat.le_refl _) _) nd2
  exact ⟨sb, l, rfl, ⟨w.heap.size, HS7.out.below hbb⟩, HW.out, HL.out, HK7.out.trans (hbb.mono HK7.out.size)⟩

end Go.Proofs.YtbpnllhhmookcaaGreatDoor
