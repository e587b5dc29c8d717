/- A command among the arguments: how its value reads, in whatever memory. -/
import Derived.Test.YtalncjhldkcmaaaRows
import Derived.WalkKit
import Derived.ProofKit
namespace Go.Proofs.Ytalncjhldkcmaaa
open Go.ChangeShapes Go.WideShapes Go.ChangeAt Go.RowKit

theorem Try.own : ownKnob Try.prog.godebug = none := by kernel_rfl
theorem Try.cellsCmd : Try.prog.cellsOf 23 = 9 := by kernel_rfl
theorem Try.cellsInt : Try.prog.cellsOf 3 = 1 := by kernel_rfl

theorem array9 {α : Type} {cs : Array α} (h : cs.size = 9) : ∃ c0 c1 c2 c3 c4 c5 c6 c7 c8, cs = #[c0, c1, c2, c3, c4, c5, c6, c7, c8] := by
  obtain ⟨l⟩ := cs
  match l, h with
  | [c0, c1, c2, c3, c4, c5, c6, c7, c8], _ => exact ⟨c0, c1, c2, c3, c4, c5, c6, c7, c8, rfl⟩
theorem list9 {α : Type} {l : List α} (h : l.length = 9) : ∃ c0 c1 c2 c3 c4 c5 c6 c7 c8, l = [c0, c1, c2, c3, c4, c5, c6, c7, c8] := by
  match l, h with
  | [c0, c1, c2, c3, c4, c5, c6, c7, c8], _ => exact ⟨c0, c1, c2, c3, c4, c5, c6, c7, c8, rfl⟩

def cmdD {H : Type} (c : Nat → Int) : DataW H := .agg [.lit (.int .i64 (c 0)), .lit (.int .i64 (c 1)), .lit (.int .i64 (c 2)), .lit (.int .i64 (c 3)), .lit (.int .i64 (c 4)), .lit (.int .i64 (c 5)), .lit (.int .i64 (c 6)), .lit (.int .i64 (c 7)), .lit (.int .i64 (c 8))]
def cmdA (c : Nat → Int) : Value := .agg #[.int .i64 (c 0), .int .i64 (c 1), .int .i64 (c 2), .int .i64 (c 3), .int .i64 (c 4), .int .i64 (c 5), .int .i64 (c 6), .int .i64 (c 7), .int .i64 (c 8)]

theorem open_cmd {H : Type} {enc : TypeId × Value → H} {w : World} {r : Reach} {b0 base : Nat} {spare : Nat → Bool} {held : Bool} {v : Value} {d : DataW H} {p : List MemPlace}
    (hv : Value.okWide Try.prog w r b0 23 v) (h : DataW.Trod enc Try.prog w base spare held 23 v d p) :
    ∃ c : Nat → Int, v = cmdA c ∧ d = cmdD c ∧ p = [] ∧ ∀ i, (Lit.int .i64 (c i)).wf = true := by
  obtain ⟨cs, rfl, hsz⟩ := okWide_struct Try.underlying23 hv
  obtain ⟨v0, v1, v2, v3, v4, v5, v6, v7, v8, rfl⟩ := array9 (hsz.trans Try.cellsCmd)
  obtain ⟨fuel, hf⟩ := h
  obtain ⟨xs, n, _, hx, _, hlen, hall⟩ := DataW.trod_struct Try.underlying23 hf
  obtain ⟨y0, y1, y2, y3, y4, y5, y6, y7, y8, rfl⟩ := list9 hlen
  simp only [Prod.mk.injEq] at hx
  have g0 := hall 0 _ rfl
  have g1 := hall 1 _ rfl
  have g2 := hall 2 _ rfl
  have g3 := hall 3 _ rfl
  have g4 := hall 4 _ rfl
  have g5 := hall 5 _ rfl
  have g6 := hall 6 _ rfl
  have g7 := hall 7 _ rfl
  have g8 := hall 8 _ rfl
  obtain ⟨n0, e0, rfl, w0⟩ := DataW.trod_int Try.underlying3 g0
  obtain ⟨n1, e1, rfl, w1⟩ := DataW.trod_int Try.underlying3 g1
  obtain ⟨n2, e2, rfl, w2⟩ := DataW.trod_int Try.underlying3 g2
  obtain ⟨n3, e3, rfl, w3⟩ := DataW.trod_int Try.underlying3 g3
  obtain ⟨n4, e4, rfl, w4⟩ := DataW.trod_int Try.underlying3 g4
  obtain ⟨n5, e5, rfl, w5⟩ := DataW.trod_int Try.underlying3 g5
  obtain ⟨n6, e6, rfl, w6⟩ := DataW.trod_int Try.underlying3 g6
  obtain ⟨n7, e7, rfl, w7⟩ := DataW.trod_int Try.underlying3 g7
  obtain ⟨n8, e8, rfl, w8⟩ := DataW.trod_int Try.underlying3 g8
  simp [Try.cellsInt, Value.cells] at e0 e1 e2 e3 e4 e5 e6 e7 e8
  subst e0 e1 e2 e3 e4 e5 e6 e7 e8
  refine ⟨fun i => [n0, n1, n2, n3, n4, n5, n6, n7, n8].getD i 0, rfl, hx.1, hx.2, fun i => ?_⟩
  match i with
  | 0 => exact w0
  | 1 => exact w1
  | 2 => exact w2
  | 3 => exact w3
  | 4 => exact w4
  | 5 => exact w5
  | 6 => exact w6
  | 7 => exact w7
  | 8 => exact w8
  | n + 9 => simp; decide

theorem shut_cmd {H : Type} {enc : TypeId × Value → H} {w : World} {base : Nat} {spare : Nat → Bool} {held : Bool} {c : Nat → Int} (hw : ∀ i, (Lit.int .i64 (c i)).wf = true) :
    DataW.Trod enc Try.prog w base spare held 23 (cmdA c) (cmdD c) [] := by
  refine ⟨2, ?_⟩
  have t : ∀ i, DataW.trod enc Try.prog w base spare held 1 3 [.int .i64 (c i)] = some (.lit (.int .i64 (c i)), []) := fun i => by simp [DataW.trod, Try.underlying3, hw i]
  have := trod_struct_mk (enc := enc) (w := w) (base := base) (spare := spare) (held := held) (n := 1) (cs := [.int .i64 (c 0), .int .i64 (c 1), .int .i64 (c 2), .int .i64 (c 3), .int .i64 (c 4), .int .i64 (c 5), .int .i64 (c 6), .int .i64 (c 7), .int .i64 (c 8)])
    (xs := [(.lit (.int .i64 (c 0)), []), (.lit (.int .i64 (c 1)), []), (.lit (.int .i64 (c 2)), []), (.lit (.int .i64 (c 3)), []), (.lit (.int .i64 (c 4)), []), (.lit (.int .i64 (c 5)), []), (.lit (.int .i64 (c 6)), []), (.lit (.int .i64 (c 7)), []), (.lit (.int .i64 (c 8)), [])]) Try.underlying23 (by rw [Try.cellsCmd]; rfl) (by simp [Try.cellsInt, t])
  simpa [cmdA, cmdD, Value.cells] using this

end Go.Proofs.Ytalncjhldkcmaaa
