/- The program's own call Decode, out of package wire's. -/
import Derived.Test.YtalncjhldkcmaaaHE
namespace Go.Proofs.Ytalncjhldkcmaaa
open Go.RowKit

set_option maxHeartbeats 400000 in
theorem decodeF_any (s : ByteArray) (w : World) (hs : s.size ≤ maxLen) :
    Calls Try.prog 8 #[.string s] w fun e w' => e = .returned (.tuple #[.agg #[.int .i64 (decC s.data.toList 0), .int .i64 (decC s.data.toList 1), .int .i64 (decC s.data.toList 2), .int .i64 (decC s.data.toList 3), .int .i64 (decC s.data.toList 4), .int .i64 (decC s.data.toList 5), .int .i64 (decC s.data.toList 6), .int .i64 (decC s.data.toList 7), .int .i64 (decC s.data.toList 8)], .int .i64 (decE s.data.toList)]) ∧ Below w.heap.size w w' := by
  have hZ := (Has.newK w 23 0).congr (d := zero9) (fun j _ => by simp [base, zero9])
  have hB0 := (Below.refl w.heap.size w).alloc (Nat.le_refl _) (.cells #[.int .i64 0, .int .i64 0, .int .i64 0, .int .i64 0, .int .i64 0, .int .i64 0, .int .i64 0, .int .i64 0, .int .i64 0] 23)
  go_enter Try.func8, Try.ntmps8
  go_wp2_with fail
  refine (decode_any s _ hs).mono ?_
  rintro e w' ⟨rfl, hb⟩
  have hZ2 := hZ.below hb (by simp)
  have hB2 := hB0.trans (hb.mono (by simp))
  clear hZ hB0 hb
  generalize hd : decC s.data.toList = d at *
  generalize he : decE s.data.toList = de at *
  have HE := hid (And.intro hd he)
  clear hd he
  have z0 := hZ2.1 0 (by omega)
  have z1 := hZ2.1 1 (by omega)
  have z2 := hZ2.1 2 (by omega)
  have z3 := hZ2.1 3 (by omega)
  have z4 := hZ2.1 4 (by omega)
  have z5 := hZ2.1 5 (by omega)
  have z6 := hZ2.1 6 (by omega)
  have z7 := hZ2.1 7 (by omega)
  have z8 := hZ2.1 8 (by omega)
  have zf := hZ2.2
  simp only [zero9] at z0 z1 z2 z3 z4 z5 z6 z7 z8
  go_wp2
  have hZ' := hZ2.put9 d
  have hB' := Below.put9 hB2 (Nat.le_refl _) d
  change bodyPost _ _ _ _ _ (put9 w' w.heap.size d)
  generalize put9 w' w.heap.size d = w9 at hZ' hB' ⊢
  have y0 := hZ'.1 0 (by omega)
  have y1 := hZ'.1 1 (by omega)
  have y2 := hZ'.1 2 (by omega)
  have y3 := hZ'.1 3 (by omega)
  have y4 := hZ'.1 4 (by omega)
  have y5 := hZ'.1 5 (by omega)
  have y6 := hZ'.1 6 (by omega)
  have y7 := hZ'.1 7 (by omega)
  have y8 := hZ'.1 8 (by omega)
  exact bodyPost_ret (v := .tuple #[.agg #[.int .i64 (d 0), .int .i64 (d 1), .int .i64 (d 2), .int .i64 (d 3), .int .i64 (d 4), .int .i64 (d 5), .int .i64 (d 6), .int .i64 (d 7), .int .i64 (d 8)], .int .i64 de]) (by simp [results, Try.results8, go_sem, y0, y1, y2, y3, y4, y5, y6, y7, y8]) rfl ⟨ret_dec HE.out, hB'⟩


end Go.Proofs.Ytalncjhldkcmaaa
