/- What numberAt and appendNumber of package wire do: a number of four bytes is read off a string, and written behind a slice that the caller owns. -/
import Derived.Test.YtalncjhldkcmaaaA
import Derived.Deep.QuietTactic
import Derived.BigQuiet
import Derived.Laws.BitsLemmas
namespace Go.Proofs.Ytalncjhldkcmaaa
open Go.RowKit

theorem hid {p : Prop} (h : p) : Hid p := h

/-- The number that four bytes from place j on are. -/
def numB (l : List UInt8) (j : Nat) : Nat := (l.getD j 0).toNat * 16777216 + (l.getD (j + 1) 0).toNat * 65536 + (l.getD (j + 2) 0).toNat * 256 + (l.getD (j + 3) 0).toNat

theorem byte_lt (b : UInt8) : b.toNat < 256 := b.toNat_lt
theorem numB_lt (l : List UInt8) (j : Nat) : numB l j < 4294967296 := by
  have := byte_lt (l.getD j 0); have := byte_lt (l.getD (j + 1) 0); have := byte_lt (l.getD (j + 2) 0); have := byte_lt (l.getD (j + 3) 0)
  unfold numB; omega

theorem wraps32 (n : Int) (h0 : 0 ≤ n) (h1 : n < 2 ^ 32) : IntKind.u32.wrap n = n := by
  simp only [IntKind.wrap, IntKind.bits, IntKind.signed]; simp; omega

theorem or4 (a b c d : Nat) (ha : a < 256) (hb : b < 256) (hc : c < 256) (hd : d < 256) :
    bits BinOp.or IntKind.u32 (bits BinOp.or IntKind.u32 (bits BinOp.or IntKind.u32 ((a : Int) % 4294967296 * 16777216 % 4294967296) ((b : Int) % 4294967296 * 65536 % 4294967296)) ((c : Int) % 4294967296 * 256 % 4294967296)) ((d : Int) % 4294967296)
      = ((a * 16777216 + b * 65536 + c * 256 + d : Nat) : Int) := by
  have e1 : (a : Int) % 4294967296 * 16777216 % 4294967296 = ((a * 16777216 : Nat) : Int) := by omega
  have e2 : (b : Int) % 4294967296 * 65536 % 4294967296 = ((b * 65536 : Nat) : Int) := by omega
  have e3 : (c : Int) % 4294967296 * 256 % 4294967296 = ((c * 256 : Nat) : Int) := by omega
  have e4 : (d : Int) % 4294967296 = ((d : Nat) : Int) := by omega
  rw [e1, e2, e3, e4]
  rw [bits_join .u32 32 (by decide) wraps32 24 ((a * 16777216 : Nat) : Int) ((b * 65536 : Nat) : Int) (by omega) (by omega) (by omega) (by omega) (by omega) (by omega)]
  rw [bits_join .u32 32 (by decide) wraps32 16 (((a * 16777216 : Nat) : Int) + ((b * 65536 : Nat) : Int)) ((c * 256 : Nat) : Int) (by omega) (by omega) (by omega) (by omega) (by omega) (by omega)]
  rw [bits_join .u32 32 (by decide) wraps32 8 (((a * 16777216 : Nat) : Int) + ((b * 65536 : Nat) : Int) + ((c * 256 : Nat) : Int)) (d : Int) (by omega) (by omega) (by omega) (by omega) (by omega) (by omega)]
  omega

theorem getD_bytes (s : ByteArray) (j : Nat) (h : j < s.size) : s.data.toList.getD j 0 = s[j] := by
  have h' : j < s.data.toList.length := by simpa using h
  rw [List.getD_eq_getElem?_getD, List.getElem?_eq_getElem h']; rfl

theorem cut_bytes (s : ByteArray) (i k : Nat) (hi : 4 * i + 4 ≤ s.size) (hk : k < 4) (h : k < ((s.extract (i * 4) s.size).extract 0 4).size) :
    ((s.extract (i * 4) s.size).extract 0 4)[k] = s.data.toList.getD (4 * i + k) 0 := by
  rw [getD_bytes s (4 * i + k) (by omega)]
  simp [ByteArray.getElem_extract, Nat.mul_comm]

theorem ret_int {k : IntKind} {a b : Int} (h : a = b) : Ending.returned (.int k a) = .returned (.int k b) := by rw [h]

set_option maxHeartbeats 400000 in
theorem numberAt_any (s : ByteArray) (i : Nat) (w : World) (hs : s.size ≤ maxLen) (hi : 4 * i + 4 ≤ s.size) :
    Calls Try.prog 30 #[.string s, .int .i64 i] w fun e w' => e = .returned (.int .u32 (numB s.data.toList (4 * i) : Nat)) ∧ ∃ n, w' = w.drewN n := by
  unfold maxLen at hs
  go_enter Try.func30, Try.ntmps30
  go_wp2_with fail
  have hsz : 4 ≤ ((s.extract (i * 4) s.size).extract 0 4).size := by simp; omega
  have hcut := fun k hk h => cut_bytes s i k hi hk h
  have HC := hid hcut
  clear hcut
  generalize (s.extract (i * 4) s.size).extract 0 4 = b at *
  have g0 : 0 < b.size := by omega
  have g1 : (1 : Int) < (b.size : Int) := by omega
  have g2 : (2 : Int) < (b.size : Int) := by omega
  have g3 : (3 : Int) < (b.size : Int) := by omega
  go_quiet (fail)
  go_wp2
  go_ret
  refine ⟨ret_int ?_, _, rfl⟩
  rw [or4 _ _ _ _ (byte_lt _) (byte_lt _) (byte_lt _) (byte_lt _)]
  have HC' := HC.out
  rw [HC' 0 (by omega) (by omega), HC' 1 (by omega) (by omega), HC' 2 (by omega) (by omega), HC' 3 (by omega) (by omega)]
  rfl

/-- Four bytes of a number. -/
def be4 (v : Nat) : List UInt8 := [UInt8.ofNat (v / 16777216), UInt8.ofNat (v / 65536), UInt8.ofNat (v / 256), UInt8.ofNat v]
def byteCells (l : List UInt8) : List Value := l.map fun (b : UInt8) => Value.int .u8 (b.toNat : Int)

theorem Try.infoByte : (Try.prog.info? 5).map (fun i => (i.zero, i.size, i.bytes)) = some (some (.int .u8 0), 1, 1) := by kernel_rfl

theorem be4_cells (v : Nat) (hv : v < 4294967296) : byteCells (be4 v) = [Value.int .u8 ((v : Int) / 16777216), Value.int .u8 ((v : Int) / 65536 % 256), Value.int .u8 ((v : Int) / 256 % 256), Value.int .u8 ((v : Int) % 256)] := by
  simp only [byteCells, be4, List.map, UInt8.toNat_ofNat']
  have e0 : ((v % 2 ^ 8 : Nat) : Int) = (v : Int) % 256 := by omega
  have e1 : ((v / 256 % 2 ^ 8 : Nat) : Int) = (v : Int) / 256 % 256 := by omega
  have e2 : ((v / 65536 % 2 ^ 8 : Nat) : Int) = (v : Int) / 65536 % 256 := by omega
  have e3 : ((v / 16777216 % 2 ^ 8 : Nat) : Int) = (v : Int) / 16777216 := by omega
  rw [e0, e1, e2, e3]

set_option maxHeartbeats 400000 in
theorem appendNumber_any (B n v : Nat) (hv : v < 4294967296) (sv : Value) (xs : List Value) (w : World) (hown : w.ownsRow B 5 1 sv n xs) (hBw : B ≤ w.heap.size) (hlim : n + 4 ≤ 140737488355328) :
    Calls Try.prog 28 #[sv, .int .u32 v] w fun e w' => ∃ v', e = .returned v' ∧ w'.ownsRow B 5 1 v' (n + 4) (xs ++ byteCells (be4 v)) ∧ Below B w w' := by
  obtain ⟨i0, hi, hz0, hz1, hz2⟩ := info_parts Try.infoByte
  have hb := be4_cells v hv
  have HB := hid hb
  clear hb
  go_enter Try.func28, Try.ntmps28
  go_wp2_with (at_builtin; refine wpList_append_own _ rfl _ _ 38 rfl B 5 i0 (.int .u8 0) 1 1 Try.underlying38 hi hz0 hz1 hz2 rfl (by decide) _ _ _ rfl (hown.alloc _) _ 4 4 [Value.int .u8 ((v : Int) / 16777216), Value.int .u8 ((v : Int) / 65536 % 256), Value.int .u8 ((v : Int) / 256 % 256), Value.int .u8 ((v : Int) % 256)] rfl rfl ?c1 ?c2 ?c3 ?c4 ?c5 ?_)
  case c1 =>
    intro j u hj
    match j, hj with
    | 0, hj => simp at hj; subst hj; simp [Addr.add]
    | 1, hj => simp at hj; subst hj; simp [Addr.add]
    | 2, hj => simp at hj; subst hj; simp [Addr.add]
    | 3, hj => simp at hj; subst hj; simp [Addr.add]
  case c2 => intro u hu; simp at hu; rcases hu with rfl | rfl | rfl | rfl <;> rfl
  case c3 => unfold maxLen; omega
  case c4 => omega
  case c5 => simp; omega
  intro v' w2 hown' hgrow _
  go_wp2
  go_ret
  refine ⟨v', rfl, by rw [HB.out]; exact hown', ?_⟩
  exact (((Below.refl B w).alloc hBw _).grown hgrow (by simp; omega) (fun k hk => (hown.lt k hk).1))

end Go.Proofs.Ytalncjhldkcmaaa
