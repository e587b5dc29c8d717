/- Places: complex numbers of small integers: what the functions of a place return. -/
import Derived.Test.YtbpnllhhmookcaaGreatDoorKk09
namespace Go.Proofs.YtbpnllhhmookcaaGreatDoor
open Go.RowKit Go.Shelf

/-- A small number's bits as a float. -/
def fl (n : Nat) : Nat := match n with
  | 0 => 0
  | 1 => 4607182418800017408
  | 2 => 4611686018427387904
  | 3 => 4613937818241073152
  | _ => 4616189618054758400
/-- A place of a box. -/
def pl (x y : Nat) : Value := .complex .f64 (fl x) (fl y)
theorem lt5 {n : Nat} (h : n < 5) : n = 0 ∨ n = 1 ∨ n = 2 ∨ n = 3 ∨ n = 4 := by omega
theorem fl_of {n : Nat} (h : n < 5) : floatOfInt FloatKind.f64 (n : Int) = fl n := by
  rcases lt5 h with rfl | rfl | rfl | rfl | rfl <;> kernel_rfl
theorem fl_back {n : Nat} (h : n < 5) (w : World) : (convert 223 3 (.float .f64 (fl n))).run Tryz.prog w = .ok (.int .i64 n) w := by
  rcases lt5 h with rfl | rfl | rfl | rfl | rfl <;> kernel_rfl
theorem fl_inj {a b : Nat} (ha : a < 5) (hb : b < 5) : (fl a = fl b) ↔ a = b := by
  rcases lt5 ha with rfl | rfl | rfl | rfl | rfl <;> rcases lt5 hb with rfl | rfl | rfl | rfl | rfl <;> simp [fl]

theorem placeAt_any {x y : Nat} (hx : x < 5) (hy : y < 5) (w : World) :
    Calls Tryz.prog 124 #[.int .i64 x, .int .i64 y] w fun e w' => e = .returned (pl x y) ∧ w' = w := by
  have h1 := fl_of hx
  have h2 := fl_of hy
  go_enter Tryz.func124, Tryz.ntmps124
  go_wp2
  go_ret
  exact ⟨rfl, rfl⟩
theorem x_any {x y : Nat} (hx : x < 5) (w : World) :
    Calls Tryz.prog 149 #[pl x y] w fun e w' => e = .returned (.int .i64 x) ∧ w' = w := by
  have h1 := fl_back hx w
  unfold pl
  generalize fl x = a at *
  generalize fl y = b at *
  go_enter Tryz.func149, Tryz.ntmps149
  go_wp2
  go_ret
  exact ⟨rfl, rfl⟩
theorem y_any {x y : Nat} (hy : y < 5) (w : World) :
    Calls Tryz.prog 150 #[pl x y] w fun e w' => e = .returned (.int .i64 y) ∧ w' = w := by
  have h1 := fl_back hy w
  unfold pl
  generalize fl x = a at *
  generalize fl y = b at *
  go_enter Tryz.func150, Tryz.ntmps150
  go_wp2
  go_ret
  exact ⟨rfl, rfl⟩
theorem isIn_any {x y : Nat} (hx : x < 5) (hy : y < 5) (s : Int) (w : World) :
    Calls Tryz.prog 126 #[pl x y, .int .i64 s] w fun e w' => e = .returned (.bool (decide ((x : Int) < s) && decide ((y : Int) < s))) ∧ w' = w := by
  have h1 := @x_any x y hx
  have h2 := @y_any x y hy
  generalize pl x y = p at *
  go_enter Tryz.func126, Tryz.ntmps126
  by_cases hs : (x : Int) < s
  · by_cases ht : (y : Int) < s
    · go_wp2_with (first | (go_at_call 149; refine (h1 _).mono ?_; rintro e w' ⟨rfl, rfl⟩) | (go_at_call 150; refine (h2 _).mono ?_; rintro e w' ⟨rfl, rfl⟩))
      go_ret
      exact ⟨by simp [hs, ht], rfl⟩
    · go_wp2_with (first | (go_at_call 149; refine (h1 _).mono ?_; rintro e w' ⟨rfl, rfl⟩) | (go_at_call 150; refine (h2 _).mono ?_; rintro e w' ⟨rfl, rfl⟩))
      go_ret
      have hd : decide ((y : Int) < s) = false := by simpa using ht
      exact ⟨by simp [hs, hd], rfl⟩
  · go_wp2_with (first | (go_at_call 149; refine (h1 _).mono ?_; rintro e w' ⟨rfl, rfl⟩) | (go_at_call 150; refine (h2 _).mono ?_; rintro e w' ⟨rfl, rfl⟩))
    go_ret
    have hd : decide ((x : Int) < s) = false := by simpa using hs
    exact ⟨by simp [hd], rfl⟩


/-- Half of what a side is above 1. -/
def hf (s : Nat) : Nat := match s with
  | 1 => 0
  | 2 => 4602678819172646912
  | 3 => 4607182418800017408
  | 4 => 4609434218613702656
  | _ => 4611686018427387904
theorem side5 {s : Nat} (h : 1 ≤ s) (h' : s < 6) : s = 1 ∨ s = 2 ∨ s = 3 ∨ s = 4 ∨ s = 5 := by omega
theorem fl_sub {s : Nat} (h : 1 ≤ s) (h' : s < 6) : floatOfInt FloatKind.f64 ((s : Int) - 1) = fl (s - 1) := by
  have := fl_of (n := s - 1) (by omega)
  rw [← this]; congr 1; omega
theorem hf_of {s : Nat} (h : 1 ≤ s) (h' : s < 6) (w : World) : (binOp BinOp.quo 223 (.float .f64 (fl (s - 1))) (.float .f64 4611686018427387904)).run Tryz.prog w = .ok (.float .f64 (hf s)) w := by
  rcases side5 h h' with rfl | rfl | rfl | rfl | rfl <;> kernel_rfl
theorem middle_any {s : Nat} (h : 1 ≤ s) (h' : s < 6) (w : World) :
    Calls Tryz.prog 169 #[.int .i64 s] w fun e w' => e = .returned (.complex .f64 (hf s) (hf s)) ∧ w' = w := by
  have h1 := fl_sub h h'
  have h2 := hf_of h h' w
  have h3 : (1 : Int) ≤ s := by omega
  have h4 : (s : Int) < 6 := by omega
  generalize fl (s - 1) = a at *
  generalize hf s = c at *
  go_enter Tryz.func169, Tryz.ntmps169
  go_wp2
  go_ret
  exact ⟨rfl, rfl⟩

theorem turned_of {p d q r m : Value} {s : Nat} (h : 1 ≤ s) (h' : s < 6) (hm : m = .complex .f64 (hf s) (hf s)) (h1 : ∀ w, (binOp BinOp.sub 180 p m).run Tryz.prog w = .ok d w) (h2 : ∀ w, (binOp BinOp.mul 180 d (.complex .f64 0 4607182418800017408)).run Tryz.prog w = .ok q w) (h3 : ∀ w, (binOp BinOp.add 180 q m).run Tryz.prog w = .ok r w) (w : World) :
    Calls Tryz.prog 145 #[p, .int .i64 s] w fun e w' => e = .returned r ∧ w' = w := by
  have hc := @middle_any s h h'
  rw [← hm] at hc
  clear hm h h'
  go_enter Tryz.func145, Tryz.ntmps145
  go_wp2_with (go_at_call 169; refine (hc _).mono ?_; rintro e w' ⟨rfl, rfl⟩)
  go_ret
  exact ⟨rfl, rfl⟩

theorem turned_any {s x y : Nat} (hx : x < s) (hy : y < s) (hs : s < 6) (w : World) :
    Calls Tryz.prog 145 #[pl x y, .int .i64 s] w fun e w' => e = .returned (pl (s - 1 - y) x) ∧ w' = w := by
  rcases side5 (show 1 ≤ s by omega) hs with rfl | rfl | rfl | rfl | rfl
  · rcases (show x = 0 by omega) with rfl
    · rcases (show y = 0 by omega) with rfl
      · exact turned_of (d := .complex .f64 0 0) (q := .complex .f64 0 0) (by omega) (by omega) rfl (fun _ => by kernel_rfl) (fun _ => by kernel_rfl) (fun _ => by kernel_rfl) w
  · rcases (show x = 0 ∨ x = 1 by omega) with rfl | rfl
    · rcases (show y = 0 ∨ y = 1 by omega) with rfl | rfl
      · exact turned_of (d := .complex .f64 13826050856027422720 13826050856027422720) (q := .complex .f64 4602678819172646912 13826050856027422720) (by omega) (by omega) rfl (fun _ => by kernel_rfl) (fun _ => by kernel_rfl) (fun _ => by kernel_rfl) w
      · exact turned_of (d := .complex .f64 13826050856027422720 4602678819172646912) (q := .complex .f64 13826050856027422720 13826050856027422720) (by omega) (by omega) rfl (fun _ => by kernel_rfl) (fun _ => by kernel_rfl) (fun _ => by kernel_rfl) w
    · rcases (show y = 0 ∨ y = 1 by omega) with rfl | rfl
      · exact turned_of (d := .complex .f64 4602678819172646912 13826050856027422720) (q := .complex .f64 4602678819172646912 4602678819172646912) (by omega) (by omega) rfl (fun _ => by kernel_rfl) (fun _ => by kernel_rfl) (fun _ => by kernel_rfl) w
      · exact turned_of (d := .complex .f64 4602678819172646912 4602678819172646912) (q := .complex .f64 13826050856027422720 4602678819172646912) (by omega) (by omega) rfl (fun _ => by kernel_rfl) (fun _ => by kernel_rfl) (fun _ => by kernel_rfl) w
  · rcases (show x = 0 ∨ x = 1 ∨ x = 2 by omega) with rfl | rfl | rfl
    · rcases (show y = 0 ∨ y = 1 ∨ y = 2 by omega) with rfl | rfl | rfl
      · exact turned_of (d := .complex .f64 13830554455654793216 13830554455654793216) (q := .complex .f64 4607182418800017408 13830554455654793216) (by omega) (by omega) rfl (fun _ => by kernel_rfl) (fun _ => by kernel_rfl) (fun _ => by kernel_rfl) w
      · exact turned_of (d := .complex .f64 13830554455654793216 0) (q := .complex .f64 9223372036854775808 13830554455654793216) (by omega) (by omega) rfl (fun _ => by kernel_rfl) (fun _ => by kernel_rfl) (fun _ => by kernel_rfl) w
      · exact turned_of (d := .complex .f64 13830554455654793216 4607182418800017408) (q := .complex .f64 13830554455654793216 13830554455654793216) (by omega) (by omega) rfl (fun _ => by kernel_rfl) (fun _ => by kernel_rfl) (fun _ => by kernel_rfl) w
    · rcases (show y = 0 ∨ y = 1 ∨ y = 2 by omega) with rfl | rfl | rfl
      · exact turned_of (d := .complex .f64 0 13830554455654793216) (q := .complex .f64 4607182418800017408 0) (by omega) (by omega) rfl (fun _ => by kernel_rfl) (fun _ => by kernel_rfl) (fun _ => by kernel_rfl) w
      · exact turned_of (d := .complex .f64 0 0) (q := .complex .f64 0 0) (by omega) (by omega) rfl (fun _ => by kernel_rfl) (fun _ => by kernel_rfl) (fun _ => by kernel_rfl) w
      · exact turned_of (d := .complex .f64 0 4607182418800017408) (q := .complex .f64 13830554455654793216 0) (by omega) (by omega) rfl (fun _ => by kernel_rfl) (fun _ => by kernel_rfl) (fun _ => by kernel_rfl) w
    · rcases (show y = 0 ∨ y = 1 ∨ y = 2 by omega) with rfl | rfl | rfl
      · exact turned_of (d := .complex .f64 4607182418800017408 13830554455654793216) (q := .complex .f64 4607182418800017408 4607182418800017408) (by omega) (by omega) rfl (fun _ => by kernel_rfl) (fun _ => by kernel_rfl) (fun _ => by kernel_rfl) w
      · exact turned_of (d := .complex .f64 4607182418800017408 0) (q := .complex .f64 0 4607182418800017408) (by omega) (by omega) rfl (fun _ => by kernel_rfl) (fun _ => by kernel_rfl) (fun _ => by kernel_rfl) w
      · exact turned_of (d := .complex .f64 4607182418800017408 4607182418800017408) (q := .complex .f64 13830554455654793216 4607182418800017408) (by omega) (by omega) rfl (fun _ => by kernel_rfl) (fun _ => by kernel_rfl) (fun _ => by kernel_rfl) w
  · rcases (show x = 0 ∨ x = 1 ∨ x = 2 ∨ x = 3 by omega) with rfl | rfl | rfl | rfl
    · rcases (show y = 0 ∨ y = 1 ∨ y = 2 ∨ y = 3 by omega) with rfl | rfl | rfl | rfl
      · exact turned_of (d := .complex .f64 13832806255468478464 13832806255468478464) (q := .complex .f64 4609434218613702656 13832806255468478464) (by omega) (by omega) rfl (fun _ => by kernel_rfl) (fun _ => by kernel_rfl) (fun _ => by kernel_rfl) w
      · exact turned_of (d := .complex .f64 13832806255468478464 13826050856027422720) (q := .complex .f64 4602678819172646912 13832806255468478464) (by omega) (by omega) rfl (fun _ => by kernel_rfl) (fun _ => by kernel_rfl) (fun _ => by kernel_rfl) w
      · exact turned_of (d := .complex .f64 13832806255468478464 4602678819172646912) (q := .complex .f64 13826050856027422720 13832806255468478464) (by omega) (by omega) rfl (fun _ => by kernel_rfl) (fun _ => by kernel_rfl) (fun _ => by kernel_rfl) w
      · exact turned_of (d := .complex .f64 13832806255468478464 4609434218613702656) (q := .complex .f64 13832806255468478464 13832806255468478464) (by omega) (by omega) rfl (fun _ => by kernel_rfl) (fun _ => by kernel_rfl) (fun _ => by kernel_rfl) w
    · rcases (show y = 0 ∨ y = 1 ∨ y = 2 ∨ y = 3 by omega) with rfl | rfl | rfl | rfl
      · exact turned_of (d := .complex .f64 13826050856027422720 13832806255468478464) (q := .complex .f64 4609434218613702656 13826050856027422720) (by omega) (by omega) rfl (fun _ => by kernel_rfl) (fun _ => by kernel_rfl) (fun _ => by kernel_rfl) w
      · exact turned_of (d := .complex .f64 13826050856027422720 13826050856027422720) (q := .complex .f64 4602678819172646912 13826050856027422720) (by omega) (by omega) rfl (fun _ => by kernel_rfl) (fun _ => by kernel_rfl) (fun _ => by kernel_rfl) w
      · exact turned_of (d := .complex .f64 13826050856027422720 4602678819172646912) (q := .complex .f64 13826050856027422720 13826050856027422720) (by omega) (by omega) rfl (fun _ => by kernel_rfl) (fun _ => by kernel_rfl) (fun _ => by kernel_rfl) w
      · exact turned_of (d := .complex .f64 13826050856027422720 4609434218613702656) (q := .complex .f64 13832806255468478464 13826050856027422720) (by omega) (by omega) rfl (fun _ => by kernel_rfl) (fun _ => by kernel_rfl) (fun _ => by kernel_rfl) w
    · rcases (show y = 0 ∨ y = 1 ∨ y = 2 ∨ y = 3 by omega) with rfl | rfl | rfl | rfl
      · exact turned_of (d := .complex .f64 4602678819172646912 13832806255468478464) (q := .complex .f64 4609434218613702656 4602678819172646912) (by omega) (by omega) rfl (fun _ => by kernel_rfl) (fun _ => by kernel_rfl) (fun _ => by kernel_rfl) w
      · exact turned_of (d := .complex .f64 4602678819172646912 13826050856027422720) (q := .complex .f64 4602678819172646912 4602678819172646912) (by omega) (by omega) rfl (fun _ => by kernel_rfl) (fun _ => by kernel_rfl) (fun _ => by kernel_rfl) w
      · exact turned_of (d := .complex .f64 4602678819172646912 4602678819172646912) (q := .complex .f64 13826050856027422720 4602678819172646912) (by omega) (by omega) rfl (fun _ => by kernel_rfl) (fun _ => by kernel_rfl) (fun _ => by kernel_rfl) w
      · exact turned_of (d := .complex .f64 4602678819172646912 4609434218613702656) (q := .complex .f64 13832806255468478464 4602678819172646912) (by omega) (by omega) rfl (fun _ => by kernel_rfl) (fun _ => by kernel_rfl) (fun _ => by kernel_rfl) w
    · rcases (show y = 0 ∨ y = 1 ∨ y = 2 ∨ y = 3 by omega) with rfl | rfl | rfl | rfl
      · exact turned_of (d := .complex .f64 4609434218613702656 13832806255468478464) (q := .complex .f64 4609434218613702656 4609434218613702656) (by omega) (by omega) rfl (fun _ => by kernel_rfl) (fun _ => by kernel_rfl) (fun _ => by kernel_rfl) w
      · exact turned_of (d := .complex .f64 4609434218613702656 13826050856027422720) (q := .complex .f64 4602678819172646912 4609434218613702656) (by omega) (by omega) rfl (fun _ => by kernel_rfl) (fun _ => by kernel_rfl) (fun _ => by kernel_rfl) w
      · exact turned_of (d := .complex .f64 4609434218613702656 4602678819172646912) (q := .complex .f64 13826050856027422720 4609434218613702656) (by omega) (by omega) rfl (fun _ => by kernel_rfl) (fun _ => by kernel_rfl) (fun _ => by kernel_rfl) w
      · exact turned_of (d := .complex .f64 4609434218613702656 4609434218613702656) (q := .complex .f64 13832806255468478464 4609434218613702656) (by omega) (by omega) rfl (fun _ => by kernel_rfl) (fun _ => by kernel_rfl) (fun _ => by kernel_rfl) w
  · rcases (show x = 0 ∨ x = 1 ∨ x = 2 ∨ x = 3 ∨ x = 4 by omega) with rfl | rfl | rfl | rfl | rfl
    · rcases (show y = 0 ∨ y = 1 ∨ y = 2 ∨ y = 3 ∨ y = 4 by omega) with rfl | rfl | rfl | rfl | rfl
      · exact turned_of (d := .complex .f64 13835058055282163712 13835058055282163712) (q := .complex .f64 4611686018427387904 13835058055282163712) (by omega) (by omega) rfl (fun _ => by kernel_rfl) (fun _ => by kernel_rfl) (fun _ => by kernel_rfl) w
      · exact turned_of (d := .complex .f64 13835058055282163712 13830554455654793216) (q := .complex .f64 4607182418800017408 13835058055282163712) (by omega) (by omega) rfl (fun _ => by kernel_rfl) (fun _ => by kernel_rfl) (fun _ => by kernel_rfl) w
      · exact turned_of (d := .complex .f64 13835058055282163712 0) (q := .complex .f64 9223372036854775808 13835058055282163712) (by omega) (by omega) rfl (fun _ => by kernel_rfl) (fun _ => by kernel_rfl) (fun _ => by kernel_rfl) w
      · exact turned_of (d := .complex .f64 13835058055282163712 4607182418800017408) (q := .complex .f64 13830554455654793216 13835058055282163712) (by omega) (by omega) rfl (fun _ => by kernel_rfl) (fun _ => by kernel_rfl) (fun _ => by kernel_rfl) w
      · exact turned_of (d := .complex .f64 13835058055282163712 4611686018427387904) (q := .complex .f64 13835058055282163712 13835058055282163712) (by omega) (by omega) rfl (fun _ => by kernel_rfl) (fun _ => by kernel_rfl) (fun _ => by kernel_rfl) w
    · rcases (show y = 0 ∨ y = 1 ∨ y = 2 ∨ y = 3 ∨ y = 4 by omega) with rfl | rfl | rfl | rfl | rfl
      · exact turned_of (d := .complex .f64 13830554455654793216 13835058055282163712) (q := .complex .f64 4611686018427387904 13830554455654793216) (by omega) (by omega) rfl (fun _ => by kernel_rfl) (fun _ => by kernel_rfl) (fun _ => by kernel_rfl) w
      · exact turned_of (d := .complex .f64 13830554455654793216 13830554455654793216) (q := .complex .f64 4607182418800017408 13830554455654793216) (by omega) (by omega) rfl (fun _ => by kernel_rfl) (fun _ => by kernel_rfl) (fun _ => by kernel_rfl) w
      · exact turned_of (d := .complex .f64 13830554455654793216 0) (q := .complex .f64 9223372036854775808 13830554455654793216) (by omega) (by omega) rfl (fun _ => by kernel_rfl) (fun _ => by kernel_rfl) (fun _ => by kernel_rfl) w
      · exact turned_of (d := .complex .f64 13830554455654793216 4607182418800017408) (q := .complex .f64 13830554455654793216 13830554455654793216) (by omega) (by omega) rfl (fun _ => by kernel_rfl) (fun _ => by kernel_rfl) (fun _ => by kernel_rfl) w
      · exact turned_of (d := .complex .f64 13830554455654793216 4611686018427387904) (q := .complex .f64 13835058055282163712 13830554455654793216) (by omega) (by omega) rfl (fun _ => by kernel_rfl) (fun _ => by kernel_rfl) (fun _ => by kernel_rfl) w
    · rcases (show y = 0 ∨ y = 1 ∨ y = 2 ∨ y = 3 ∨ y = 4 by omega) with rfl | rfl | rfl | rfl | rfl
      · exact turned_of (d := .complex .f64 0 13835058055282163712) (q := .complex .f64 4611686018427387904 0) (by omega) (by omega) rfl (fun _ => by kernel_rfl) (fun _ => by kernel_rfl) (fun _ => by kernel_rfl) w
      · exact turned_of (d := .complex .f64 0 13830554455654793216) (q := .complex .f64 4607182418800017408 0) (by omega) (by omega) rfl (fun _ => by kernel_rfl) (fun _ => by kernel_rfl) (fun _ => by kernel_rfl) w
      · exact turned_of (d := .complex .f64 0 0) (q := .complex .f64 0 0) (by omega) (by omega) rfl (fun _ => by kernel_rfl) (fun _ => by kernel_rfl) (fun _ => by kernel_rfl) w
      · exact turned_of (d := .complex .f64 0 4607182418800017408) (q := .complex .f64 13830554455654793216 0) (by omega) (by omega) rfl (fun _ => by kernel_rfl) (fun _ => by kernel_rfl) (fun _ => by kernel_rfl) w
      · exact turned_of (d := .complex .f64 0 4611686018427387904) (q := .complex .f64 13835058055282163712 0) (by omega) (by omega) rfl (fun _ => by kernel_rfl) (fun _ => by kernel_rfl) (fun _ => by kernel_rfl) w
    · rcases (show y = 0 ∨ y = 1 ∨ y = 2 ∨ y = 3 ∨ y = 4 by omega) with rfl | rfl | rfl | rfl | rfl
      · exact turned_of (d := .complex .f64 4607182418800017408 13835058055282163712) (q := .complex .f64 4611686018427387904 4607182418800017408) (by omega) (by omega) rfl (fun _ => by kernel_rfl) (fun _ => by kernel_rfl) (fun _ => by kernel_rfl) w
      · exact turned_of (d := .complex .f64 4607182418800017408 13830554455654793216) (q := .complex .f64 4607182418800017408 4607182418800017408) (by omega) (by omega) rfl (fun _ => by kernel_rfl) (fun _ => by kernel_rfl) (fun _ => by kernel_rfl) w
      · exact turned_of (d := .complex .f64 4607182418800017408 0) (q := .complex .f64 0 4607182418800017408) (by omega) (by omega) rfl (fun _ => by kernel_rfl) (fun _ => by kernel_rfl) (fun _ => by kernel_rfl) w
      · exact turned_of (d := .complex .f64 4607182418800017408 4607182418800017408) (q := .complex .f64 13830554455654793216 4607182418800017408) (by omega) (by omega) rfl (fun _ => by kernel_rfl) (fun _ => by kernel_rfl) (fun _ => by kernel_rfl) w
      · exact turned_of (d := .complex .f64 4607182418800017408 4611686018427387904) (q := .complex .f64 13835058055282163712 4607182418800017408) (by omega) (by omega) rfl (fun _ => by kernel_rfl) (fun _ => by kernel_rfl) (fun _ => by kernel_rfl) w
    · rcases (show y = 0 ∨ y = 1 ∨ y = 2 ∨ y = 3 ∨ y = 4 by omega) with rfl | rfl | rfl | rfl | rfl
      · exact turned_of (d := .complex .f64 4611686018427387904 13835058055282163712) (q := .complex .f64 4611686018427387904 4611686018427387904) (by omega) (by omega) rfl (fun _ => by kernel_rfl) (fun _ => by kernel_rfl) (fun _ => by kernel_rfl) w
      · exact turned_of (d := .complex .f64 4611686018427387904 13830554455654793216) (q := .complex .f64 4607182418800017408 4611686018427387904) (by omega) (by omega) rfl (fun _ => by kernel_rfl) (fun _ => by kernel_rfl) (fun _ => by kernel_rfl) w
      · exact turned_of (d := .complex .f64 4611686018427387904 0) (q := .complex .f64 0 4611686018427387904) (by omega) (by omega) rfl (fun _ => by kernel_rfl) (fun _ => by kernel_rfl) (fun _ => by kernel_rfl) w
      · exact turned_of (d := .complex .f64 4611686018427387904 4607182418800017408) (q := .complex .f64 13830554455654793216 4611686018427387904) (by omega) (by omega) rfl (fun _ => by kernel_rfl) (fun _ => by kernel_rfl) (fun _ => by kernel_rfl) w
      · exact turned_of (d := .complex .f64 4611686018427387904 4611686018427387904) (q := .complex .f64 13835058055282163712 4611686018427387904) (by omega) (by omega) rfl (fun _ => by kernel_rfl) (fun _ => by kernel_rfl) (fun _ => by kernel_rfl) w


theorem flipped_of {p q q2 r m : Value} {dr di ni s : Nat} (h : 1 ≤ s) (h' : s < 6) (hm : m = .complex .f64 (hf s) (hf s)) (h1 : ∀ w, (binOp BinOp.sub 180 p m).run Tryz.prog w = .ok (.complex .f64 dr di) w) (h0 : ∀ w, (Op.unary UnOp.neg (.float .f64 di)).run Tryz.prog w = .ok (.float .f64 ni) w) (h2 : ∀ w, (binOp BinOp.mul 180 (.complex .f64 dr ni) (.complex .f64 0 4607182418800017408)).run Tryz.prog w = .ok q w) (h2b : ∀ w, (binOp BinOp.mul 180 q (.complex .f64 0 4607182418800017408)).run Tryz.prog w = .ok q2 w) (h3 : ∀ w, (binOp BinOp.add 180 q2 m).run Tryz.prog w = .ok r w) (w : World) :
    Calls Tryz.prog 147 #[p, .int .i64 s] w fun e w' => e = .returned r ∧ w' = w := by
  have hc := @middle_any s h h'
  rw [← hm] at hc
  clear hm h h'
  go_enter Tryz.func147, Tryz.ntmps147
  go_wp2_with (go_at_call 169; refine (hc _).mono ?_; rintro e w' ⟨rfl, rfl⟩)
  go_ret
  exact ⟨rfl, rfl⟩
theorem flipped_any {s x y : Nat} (hx : x < s) (hy : y < s) (hs : s < 6) (w : World) :
    Calls Tryz.prog 147 #[pl x y, .int .i64 s] w fun e w' => e = .returned (pl (s - 1 - x) y) ∧ w' = w := by
  rcases side5 (show 1 ≤ s by omega) hs with rfl | rfl | rfl | rfl | rfl
  · rcases (show x = 0 by omega) with rfl
    · rcases (show y = 0 by omega) with rfl
      · exact flipped_of (dr := 0) (di := 0) (ni := 9223372036854775808) (q := .complex .f64 0 0) (q2 := .complex .f64 0 0) (by omega) (by omega) rfl (fun _ => by kernel_rfl) (fun _ => by kernel_rfl) (fun _ => by kernel_rfl) (fun _ => by kernel_rfl) (fun _ => by kernel_rfl) w
  · rcases (show x = 0 ∨ x = 1 by omega) with rfl | rfl
    · rcases (show y = 0 ∨ y = 1 by omega) with rfl | rfl
      · exact flipped_of (dr := 13826050856027422720) (di := 13826050856027422720) (ni := 4602678819172646912) (q := .complex .f64 13826050856027422720 13826050856027422720) (q2 := .complex .f64 4602678819172646912 13826050856027422720) (by omega) (by omega) rfl (fun _ => by kernel_rfl) (fun _ => by kernel_rfl) (fun _ => by kernel_rfl) (fun _ => by kernel_rfl) (fun _ => by kernel_rfl) w
      · exact flipped_of (dr := 13826050856027422720) (di := 4602678819172646912) (ni := 13826050856027422720) (q := .complex .f64 4602678819172646912 13826050856027422720) (q2 := .complex .f64 4602678819172646912 4602678819172646912) (by omega) (by omega) rfl (fun _ => by kernel_rfl) (fun _ => by kernel_rfl) (fun _ => by kernel_rfl) (fun _ => by kernel_rfl) (fun _ => by kernel_rfl) w
    · rcases (show y = 0 ∨ y = 1 by omega) with rfl | rfl
      · exact flipped_of (dr := 4602678819172646912) (di := 13826050856027422720) (ni := 4602678819172646912) (q := .complex .f64 13826050856027422720 4602678819172646912) (q2 := .complex .f64 13826050856027422720 13826050856027422720) (by omega) (by omega) rfl (fun _ => by kernel_rfl) (fun _ => by kernel_rfl) (fun _ => by kernel_rfl) (fun _ => by kernel_rfl) (fun _ => by kernel_rfl) w
      · exact flipped_of (dr := 4602678819172646912) (di := 4602678819172646912) (ni := 13826050856027422720) (q := .complex .f64 4602678819172646912 4602678819172646912) (q2 := .complex .f64 13826050856027422720 4602678819172646912) (by omega) (by omega) rfl (fun _ => by kernel_rfl) (fun _ => by kernel_rfl) (fun _ => by kernel_rfl) (fun _ => by kernel_rfl) (fun _ => by kernel_rfl) w
  · rcases (show x = 0 ∨ x = 1 ∨ x = 2 by omega) with rfl | rfl | rfl
    · rcases (show y = 0 ∨ y = 1 ∨ y = 2 by omega) with rfl | rfl | rfl
      · exact flipped_of (dr := 13830554455654793216) (di := 13830554455654793216) (ni := 4607182418800017408) (q := .complex .f64 13830554455654793216 13830554455654793216) (q2 := .complex .f64 4607182418800017408 13830554455654793216) (by omega) (by omega) rfl (fun _ => by kernel_rfl) (fun _ => by kernel_rfl) (fun _ => by kernel_rfl) (fun _ => by kernel_rfl) (fun _ => by kernel_rfl) w
      · exact flipped_of (dr := 13830554455654793216) (di := 0) (ni := 9223372036854775808) (q := .complex .f64 0 13830554455654793216) (q2 := .complex .f64 4607182418800017408 0) (by omega) (by omega) rfl (fun _ => by kernel_rfl) (fun _ => by kernel_rfl) (fun _ => by kernel_rfl) (fun _ => by kernel_rfl) (fun _ => by kernel_rfl) w
      · exact flipped_of (dr := 13830554455654793216) (di := 4607182418800017408) (ni := 13830554455654793216) (q := .complex .f64 4607182418800017408 13830554455654793216) (q2 := .complex .f64 4607182418800017408 4607182418800017408) (by omega) (by omega) rfl (fun _ => by kernel_rfl) (fun _ => by kernel_rfl) (fun _ => by kernel_rfl) (fun _ => by kernel_rfl) (fun _ => by kernel_rfl) w
    · rcases (show y = 0 ∨ y = 1 ∨ y = 2 by omega) with rfl | rfl | rfl
      · exact flipped_of (dr := 0) (di := 13830554455654793216) (ni := 4607182418800017408) (q := .complex .f64 13830554455654793216 0) (q2 := .complex .f64 9223372036854775808 13830554455654793216) (by omega) (by omega) rfl (fun _ => by kernel_rfl) (fun _ => by kernel_rfl) (fun _ => by kernel_rfl) (fun _ => by kernel_rfl) (fun _ => by kernel_rfl) w
      · exact flipped_of (dr := 0) (di := 0) (ni := 9223372036854775808) (q := .complex .f64 0 0) (q2 := .complex .f64 0 0) (by omega) (by omega) rfl (fun _ => by kernel_rfl) (fun _ => by kernel_rfl) (fun _ => by kernel_rfl) (fun _ => by kernel_rfl) (fun _ => by kernel_rfl) w
      · exact flipped_of (dr := 0) (di := 4607182418800017408) (ni := 13830554455654793216) (q := .complex .f64 4607182418800017408 0) (q2 := .complex .f64 0 4607182418800017408) (by omega) (by omega) rfl (fun _ => by kernel_rfl) (fun _ => by kernel_rfl) (fun _ => by kernel_rfl) (fun _ => by kernel_rfl) (fun _ => by kernel_rfl) w
    · rcases (show y = 0 ∨ y = 1 ∨ y = 2 by omega) with rfl | rfl | rfl
      · exact flipped_of (dr := 4607182418800017408) (di := 13830554455654793216) (ni := 4607182418800017408) (q := .complex .f64 13830554455654793216 4607182418800017408) (q2 := .complex .f64 13830554455654793216 13830554455654793216) (by omega) (by omega) rfl (fun _ => by kernel_rfl) (fun _ => by kernel_rfl) (fun _ => by kernel_rfl) (fun _ => by kernel_rfl) (fun _ => by kernel_rfl) w
      · exact flipped_of (dr := 4607182418800017408) (di := 0) (ni := 9223372036854775808) (q := .complex .f64 0 4607182418800017408) (q2 := .complex .f64 13830554455654793216 0) (by omega) (by omega) rfl (fun _ => by kernel_rfl) (fun _ => by kernel_rfl) (fun _ => by kernel_rfl) (fun _ => by kernel_rfl) (fun _ => by kernel_rfl) w
      · exact flipped_of (dr := 4607182418800017408) (di := 4607182418800017408) (ni := 13830554455654793216) (q := .complex .f64 4607182418800017408 4607182418800017408) (q2 := .complex .f64 13830554455654793216 4607182418800017408) (by omega) (by omega) rfl (fun _ => by kernel_rfl) (fun _ => by kernel_rfl) (fun _ => by kernel_rfl) (fun _ => by kernel_rfl) (fun _ => by kernel_rfl) w
  · rcases (show x = 0 ∨ x = 1 ∨ x = 2 ∨ x = 3 by omega) with rfl | rfl | rfl | rfl
    · rcases (show y = 0 ∨ y = 1 ∨ y = 2 ∨ y = 3 by omega) with rfl | rfl | rfl | rfl
      · exact flipped_of (dr := 13832806255468478464) (di := 13832806255468478464) (ni := 4609434218613702656) (q := .complex .f64 13832806255468478464 13832806255468478464) (q2 := .complex .f64 4609434218613702656 13832806255468478464) (by omega) (by omega) rfl (fun _ => by kernel_rfl) (fun _ => by kernel_rfl) (fun _ => by kernel_rfl) (fun _ => by kernel_rfl) (fun _ => by kernel_rfl) w
      · exact flipped_of (dr := 13832806255468478464) (di := 13826050856027422720) (ni := 4602678819172646912) (q := .complex .f64 13826050856027422720 13832806255468478464) (q2 := .complex .f64 4609434218613702656 13826050856027422720) (by omega) (by omega) rfl (fun _ => by kernel_rfl) (fun _ => by kernel_rfl) (fun _ => by kernel_rfl) (fun _ => by kernel_rfl) (fun _ => by kernel_rfl) w
      · exact flipped_of (dr := 13832806255468478464) (di := 4602678819172646912) (ni := 13826050856027422720) (q := .complex .f64 4602678819172646912 13832806255468478464) (q2 := .complex .f64 4609434218613702656 4602678819172646912) (by omega) (by omega) rfl (fun _ => by kernel_rfl) (fun _ => by kernel_rfl) (fun _ => by kernel_rfl) (fun _ => by kernel_rfl) (fun _ => by kernel_rfl) w
      · exact flipped_of (dr := 13832806255468478464) (di := 4609434218613702656) (ni := 13832806255468478464) (q := .complex .f64 4609434218613702656 13832806255468478464) (q2 := .complex .f64 4609434218613702656 4609434218613702656) (by omega) (by omega) rfl (fun _ => by kernel_rfl) (fun _ => by kernel_rfl) (fun _ => by kernel_rfl) (fun _ => by kernel_rfl) (fun _ => by kernel_rfl) w
    · rcases (show y = 0 ∨ y = 1 ∨ y = 2 ∨ y = 3 by omega) with rfl | rfl | rfl | rfl
      · exact flipped_of (dr := 13826050856027422720) (di := 13832806255468478464) (ni := 4609434218613702656) (q := .complex .f64 13832806255468478464 13826050856027422720) (q2 := .complex .f64 4602678819172646912 13832806255468478464) (by omega) (by omega) rfl (fun _ => by kernel_rfl) (fun _ => by kernel_rfl) (fun _ => by kernel_rfl) (fun _ => by kernel_rfl) (fun _ => by kernel_rfl) w
      · exact flipped_of (dr := 13826050856027422720) (di := 13826050856027422720) (ni := 4602678819172646912) (q := .complex .f64 13826050856027422720 13826050856027422720) (q2 := .complex .f64 4602678819172646912 13826050856027422720) (by omega) (by omega) rfl (fun _ => by kernel_rfl) (fun _ => by kernel_rfl) (fun _ => by kernel_rfl) (fun _ => by kernel_rfl) (fun _ => by kernel_rfl) w
      · exact flipped_of (dr := 13826050856027422720) (di := 4602678819172646912) (ni := 13826050856027422720) (q := .complex .f64 4602678819172646912 13826050856027422720) (q2 := .complex .f64 4602678819172646912 4602678819172646912) (by omega) (by omega) rfl (fun _ => by kernel_rfl) (fun _ => by kernel_rfl) (fun _ => by kernel_rfl) (fun _ => by kernel_rfl) (fun _ => by kernel_rfl) w
      · exact flipped_of (dr := 13826050856027422720) (di := 4609434218613702656) (ni := 13832806255468478464) (q := .complex .f64 4609434218613702656 13826050856027422720) (q2 := .complex .f64 4602678819172646912 4609434218613702656) (by omega) (by omega) rfl (fun _ => by kernel_rfl) (fun _ => by kernel_rfl) (fun _ => by kernel_rfl) (fun _ => by kernel_rfl) (fun _ => by kernel_rfl) w
    · rcases (show y = 0 ∨ y = 1 ∨ y = 2 ∨ y = 3 by omega) with rfl | rfl | rfl | rfl
      · exact flipped_of (dr := 4602678819172646912) (di := 13832806255468478464) (ni := 4609434218613702656) (q := .complex .f64 13832806255468478464 4602678819172646912) (q2 := .complex .f64 13826050856027422720 13832806255468478464) (by omega) (by omega) rfl (fun _ => by kernel_rfl) (fun _ => by kernel_rfl) (fun _ => by kernel_rfl) (fun _ => by kernel_rfl) (fun _ => by kernel_rfl) w
      · exact flipped_of (dr := 4602678819172646912) (di := 13826050856027422720) (ni := 4602678819172646912) (q := .complex .f64 13826050856027422720 4602678819172646912) (q2 := .complex .f64 13826050856027422720 13826050856027422720) (by omega) (by omega) rfl (fun _ => by kernel_rfl) (fun _ => by kernel_rfl) (fun _ => by kernel_rfl) (fun _ => by kernel_rfl) (fun _ => by kernel_rfl) w
      · exact flipped_of (dr := 4602678819172646912) (di := 4602678819172646912) (ni := 13826050856027422720) (q := .complex .f64 4602678819172646912 4602678819172646912) (q2 := .complex .f64 13826050856027422720 4602678819172646912) (by omega) (by omega) rfl (fun _ => by kernel_rfl) (fun _ => by kernel_rfl) (fun _ => by kernel_rfl) (fun _ => by kernel_rfl) (fun _ => by kernel_rfl) w
      · exact flipped_of (dr := 4602678819172646912) (di := 4609434218613702656) (ni := 13832806255468478464) (q := .complex .f64 4609434218613702656 4602678819172646912) (q2 := .complex .f64 13826050856027422720 4609434218613702656) (by omega) (by omega) rfl (fun _ => by kernel_rfl) (fun _ => by kernel_rfl) (fun _ => by kernel_rfl) (fun _ => by kernel_rfl) (fun _ => by kernel_rfl) w
    · rcases (show y = 0 ∨ y = 1 ∨ y = 2 ∨ y = 3 by omega) with rfl | rfl | rfl | rfl
      · exact flipped_of (dr := 4609434218613702656) (di := 13832806255468478464) (ni := 4609434218613702656) (q := .complex .f64 13832806255468478464 4609434218613702656) (q2 := .complex .f64 13832806255468478464 13832806255468478464) (by omega) (by omega) rfl (fun _ => by kernel_rfl) (fun _ => by kernel_rfl) (fun _ => by kernel_rfl) (fun _ => by kernel_rfl) (fun _ => by kernel_rfl) w
      · exact flipped_of (dr := 4609434218613702656) (di := 13826050856027422720) (ni := 4602678819172646912) (q := .complex .f64 13826050856027422720 4609434218613702656) (q2 := .complex .f64 13832806255468478464 13826050856027422720) (by omega) (by omega) rfl (fun _ => by kernel_rfl) (fun _ => by kernel_rfl) (fun _ => by kernel_rfl) (fun _ => by kernel_rfl) (fun _ => by kernel_rfl) w
      · exact flipped_of (dr := 4609434218613702656) (di := 4602678819172646912) (ni := 13826050856027422720) (q := .complex .f64 4602678819172646912 4609434218613702656) (q2 := .complex .f64 13832806255468478464 4602678819172646912) (by omega) (by omega) rfl (fun _ => by kernel_rfl) (fun _ => by kernel_rfl) (fun _ => by kernel_rfl) (fun _ => by kernel_rfl) (fun _ => by kernel_rfl) w
      · exact flipped_of (dr := 4609434218613702656) (di := 4609434218613702656) (ni := 13832806255468478464) (q := .complex .f64 4609434218613702656 4609434218613702656) (q2 := .complex .f64 13832806255468478464 4609434218613702656) (by omega) (by omega) rfl (fun _ => by kernel_rfl) (fun _ => by kernel_rfl) (fun _ => by kernel_rfl) (fun _ => by kernel_rfl) (fun _ => by kernel_rfl) w
  · rcases (show x = 0 ∨ x = 1 ∨ x = 2 ∨ x = 3 ∨ x = 4 by omega) with rfl | rfl | rfl | rfl | rfl
    · rcases (show y = 0 ∨ y = 1 ∨ y = 2 ∨ y = 3 ∨ y = 4 by omega) with rfl | rfl | rfl | rfl | rfl
      · exact flipped_of (dr := 13835058055282163712) (di := 13835058055282163712) (ni := 4611686018427387904) (q := .complex .f64 13835058055282163712 13835058055282163712) (q2 := .complex .f64 4611686018427387904 13835058055282163712) (by omega) (by omega) rfl (fun _ => by kernel_rfl) (fun _ => by kernel_rfl) (fun _ => by kernel_rfl) (fun _ => by kernel_rfl) (fun _ => by kernel_rfl) w
      · exact flipped_of (dr := 13835058055282163712) (di := 13830554455654793216) (ni := 4607182418800017408) (q := .complex .f64 13830554455654793216 13835058055282163712) (q2 := .complex .f64 4611686018427387904 13830554455654793216) (by omega) (by omega) rfl (fun _ => by kernel_rfl) (fun _ => by kernel_rfl) (fun _ => by kernel_rfl) (fun _ => by kernel_rfl) (fun _ => by kernel_rfl) w
      · exact flipped_of (dr := 13835058055282163712) (di := 0) (ni := 9223372036854775808) (q := .complex .f64 0 13835058055282163712) (q2 := .complex .f64 4611686018427387904 0) (by omega) (by omega) rfl (fun _ => by kernel_rfl) (fun _ => by kernel_rfl) (fun _ => by kernel_rfl) (fun _ => by kernel_rfl) (fun _ => by kernel_rfl) w
      · exact flipped_of (dr := 13835058055282163712) (di := 4607182418800017408) (ni := 13830554455654793216) (q := .complex .f64 4607182418800017408 13835058055282163712) (q2 := .complex .f64 4611686018427387904 4607182418800017408) (by omega) (by omega) rfl (fun _ => by kernel_rfl) (fun _ => by kernel_rfl) (fun _ => by kernel_rfl) (fun _ => by kernel_rfl) (fun _ => by kernel_rfl) w
      · exact flipped_of (dr := 13835058055282163712) (di := 4611686018427387904) (ni := 13835058055282163712) (q := .complex .f64 4611686018427387904 13835058055282163712) (q2 := .complex .f64 4611686018427387904 4611686018427387904) (by omega) (by omega) rfl (fun _ => by kernel_rfl) (fun _ => by kernel_rfl) (fun _ => by kernel_rfl) (fun _ => by kernel_rfl) (fun _ => by kernel_rfl) w
    · rcases (show y = 0 ∨ y = 1 ∨ y = 2 ∨ y = 3 ∨ y = 4 by omega) with rfl | rfl | rfl | rfl | rfl
      · exact flipped_of (dr := 13830554455654793216) (di := 13835058055282163712) (ni := 4611686018427387904) (q := .complex .f64 13835058055282163712 13830554455654793216) (q2 := .complex .f64 4607182418800017408 13835058055282163712) (by omega) (by omega) rfl (fun _ => by kernel_rfl) (fun _ => by kernel_rfl) (fun _ => by kernel_rfl) (fun _ => by kernel_rfl) (fun _ => by kernel_rfl) w
      · exact flipped_of (dr := 13830554455654793216) (di := 13830554455654793216) (ni := 4607182418800017408) (q := .complex .f64 13830554455654793216 13830554455654793216) (q2 := .complex .f64 4607182418800017408 13830554455654793216) (by omega) (by omega) rfl (fun _ => by kernel_rfl) (fun _ => by kernel_rfl) (fun _ => by kernel_rfl) (fun _ => by kernel_rfl) (fun _ => by kernel_rfl) w
      · exact flipped_of (dr := 13830554455654793216) (di := 0) (ni := 9223372036854775808) (q := .complex .f64 0 13830554455654793216) (q2 := .complex .f64 4607182418800017408 0) (by omega) (by omega) rfl (fun _ => by kernel_rfl) (fun _ => by kernel_rfl) (fun _ => by kernel_rfl) (fun _ => by kernel_rfl) (fun _ => by kernel_rfl) w
      · exact flipped_of (dr := 13830554455654793216) (di := 4607182418800017408) (ni := 13830554455654793216) (q := .complex .f64 4607182418800017408 13830554455654793216) (q2 := .complex .f64 4607182418800017408 4607182418800017408) (by omega) (by omega) rfl (fun _ => by kernel_rfl) (fun _ => by kernel_rfl) (fun _ => by kernel_rfl) (fun _ => by kernel_rfl) (fun _ => by kernel_rfl) w
      · exact flipped_of (dr := 13830554455654793216) (di := 4611686018427387904) (ni := 13835058055282163712) (q := .complex .f64 4611686018427387904 13830554455654793216) (q2 := .complex .f64 4607182418800017408 4611686018427387904) (by omega) (by omega) rfl (fun _ => by kernel_rfl) (fun _ => by kernel_rfl) (fun _ => by kernel_rfl) (fun _ => by kernel_rfl) (fun _ => by kernel_rfl) w
    · rcases (show y = 0 ∨ y = 1 ∨ y = 2 ∨ y = 3 ∨ y = 4 by omega) with rfl | rfl | rfl | rfl | rfl
      · exact flipped_of (dr := 0) (di := 13835058055282163712) (ni := 4611686018427387904) (q := .complex .f64 13835058055282163712 0) (q2 := .complex .f64 9223372036854775808 13835058055282163712) (by omega) (by omega) rfl (fun _ => by kernel_rfl) (fun _ => by kernel_rfl) (fun _ => by kernel_rfl) (fun _ => by kernel_rfl) (fun _ => by kernel_rfl) w
      · exact flipped_of (dr := 0) (di := 13830554455654793216) (ni := 4607182418800017408) (q := .complex .f64 13830554455654793216 0) (q2 := .complex .f64 9223372036854775808 13830554455654793216) (by omega) (by omega) rfl (fun _ => by kernel_rfl) (fun _ => by kernel_rfl) (fun _ => by kernel_rfl) (fun _ => by kernel_rfl) (fun _ => by kernel_rfl) w
      · exact flipped_of (dr := 0) (di := 0) (ni := 9223372036854775808) (q := .complex .f64 0 0) (q2 := .complex .f64 0 0) (by omega) (by omega) rfl (fun _ => by kernel_rfl) (fun _ => by kernel_rfl) (fun _ => by kernel_rfl) (fun _ => by kernel_rfl) (fun _ => by kernel_rfl) w
      · exact flipped_of (dr := 0) (di := 4607182418800017408) (ni := 13830554455654793216) (q := .complex .f64 4607182418800017408 0) (q2 := .complex .f64 0 4607182418800017408) (by omega) (by omega) rfl (fun _ => by kernel_rfl) (fun _ => by kernel_rfl) (fun _ => by kernel_rfl) (fun _ => by kernel_rfl) (fun _ => by kernel_rfl) w
      · exact flipped_of (dr := 0) (di := 4611686018427387904) (ni := 13835058055282163712) (q := .complex .f64 4611686018427387904 0) (q2 := .complex .f64 0 4611686018427387904) (by omega) (by omega) rfl (fun _ => by kernel_rfl) (fun _ => by kernel_rfl) (fun _ => by kernel_rfl) (fun _ => by kernel_rfl) (fun _ => by kernel_rfl) w
    · rcases (show y = 0 ∨ y = 1 ∨ y = 2 ∨ y = 3 ∨ y = 4 by omega) with rfl | rfl | rfl | rfl | rfl
      · exact flipped_of (dr := 4607182418800017408) (di := 13835058055282163712) (ni := 4611686018427387904) (q := .complex .f64 13835058055282163712 4607182418800017408) (q2 := .complex .f64 13830554455654793216 13835058055282163712) (by omega) (by omega) rfl (fun _ => by kernel_rfl) (fun _ => by kernel_rfl) (fun _ => by kernel_rfl) (fun _ => by kernel_rfl) (fun _ => by kernel_rfl) w
      · exact flipped_of (dr := 4607182418800017408) (di := 13830554455654793216) (ni := 4607182418800017408) (q := .complex .f64 13830554455654793216 4607182418800017408) (q2 := .complex .f64 13830554455654793216 13830554455654793216) (by omega) (by omega) rfl (fun _ => by kernel_rfl) (fun _ => by kernel_rfl) (fun _ => by kernel_rfl) (fun _ => by kernel_rfl) (fun _ => by kernel_rfl) w
      · exact flipped_of (dr := 4607182418800017408) (di := 0) (ni := 9223372036854775808) (q := .complex .f64 0 4607182418800017408) (q2 := .complex .f64 13830554455654793216 0) (by omega) (by omega) rfl (fun _ => by kernel_rfl) (fun _ => by kernel_rfl) (fun _ => by kernel_rfl) (fun _ => by kernel_rfl) (fun _ => by kernel_rfl) w
      · exact flipped_of (dr := 4607182418800017408) (di := 4607182418800017408) (ni := 13830554455654793216) (q := .complex .f64 4607182418800017408 4607182418800017408) (q2 := .complex .f64 13830554455654793216 4607182418800017408) (by omega) (by omega) rfl (fun _ => by kernel_rfl) (fun _ => by kernel_rfl) (fun _ => by kernel_rfl) (fun _ => by kernel_rfl) (fun _ => by kernel_rfl) w
      · exact flipped_of (dr := 4607182418800017408) (di := 4611686018427387904) (ni := 13835058055282163712) (q := .complex .f64 4611686018427387904 4607182418800017408) (q2 := .complex .f64 13830554455654793216 4611686018427387904) (by omega) (by omega) rfl (fun _ => by kernel_rfl) (fun _ => by kernel_rfl) (fun _ => by kernel_rfl) (fun _ => by kernel_rfl) (fun _ => by kernel_rfl) w
    · rcases (show y = 0 ∨ y = 1 ∨ y = 2 ∨ y = 3 ∨ y = 4 by omega) with rfl | rfl | rfl | rfl | rfl
      · exact flipped_of (dr := 4611686018427387904) (di := 13835058055282163712) (ni := 4611686018427387904) (q := .complex .f64 13835058055282163712 4611686018427387904) (q2 := .complex .f64 13835058055282163712 13835058055282163712) (by omega) (by omega) rfl (fun _ => by kernel_rfl) (fun _ => by kernel_rfl) (fun _ => by kernel_rfl) (fun _ => by kernel_rfl) (fun _ => by kernel_rfl) w
      · exact flipped_of (dr := 4611686018427387904) (di := 13830554455654793216) (ni := 4607182418800017408) (q := .complex .f64 13830554455654793216 4611686018427387904) (q2 := .complex .f64 13835058055282163712 13830554455654793216) (by omega) (by omega) rfl (fun _ => by kernel_rfl) (fun _ => by kernel_rfl) (fun _ => by kernel_rfl) (fun _ => by kernel_rfl) (fun _ => by kernel_rfl) w
      · exact flipped_of (dr := 4611686018427387904) (di := 0) (ni := 9223372036854775808) (q := .complex .f64 0 4611686018427387904) (q2 := .complex .f64 13835058055282163712 0) (by omega) (by omega) rfl (fun _ => by kernel_rfl) (fun _ => by kernel_rfl) (fun _ => by kernel_rfl) (fun _ => by kernel_rfl) (fun _ => by kernel_rfl) w
      · exact flipped_of (dr := 4611686018427387904) (di := 4607182418800017408) (ni := 13830554455654793216) (q := .complex .f64 4607182418800017408 4611686018427387904) (q2 := .complex .f64 13835058055282163712 4607182418800017408) (by omega) (by omega) rfl (fun _ => by kernel_rfl) (fun _ => by kernel_rfl) (fun _ => by kernel_rfl) (fun _ => by kernel_rfl) (fun _ => by kernel_rfl) w
      · exact flipped_of (dr := 4611686018427387904) (di := 4611686018427387904) (ni := 13835058055282163712) (q := .complex .f64 4611686018427387904 4611686018427387904) (q2 := .complex .f64 13835058055282163712 4611686018427387904) (by omega) (by omega) rfl (fun _ => by kernel_rfl) (fun _ => by kernel_rfl) (fun _ => by kernel_rfl) (fun _ => by kernel_rfl) (fun _ => by kernel_rfl) w

end Go.Proofs.YtbpnllhhmookcaaGreatDoor
