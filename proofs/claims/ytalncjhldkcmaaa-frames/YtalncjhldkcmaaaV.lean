/- Integers appended one by one behind a slice. -/
import Derived.Test.YtalncjhldkcmaaaG0
namespace Go.Proofs.Ytalncjhldkcmaaa
open Go.RowKit

def intCells (l : List Int) : List Value := l.map fun (z : Int) => Value.int .i64 z

theorem own_intsIn {w : World} {base : Nat} {e : TypeId} {v : Value} {zs : List Int} {n : Nat} (h : w.ownsRow base e 1 v n (intCells zs)) (hn : n = zs.length) : IntsIn w v zs := by
  subst hn
  have hc := h
  rcases h.2 with ⟨hv, h0⟩ | ⟨g, cap, cur, rfl, _, hg, _⟩
  · exact .inr ⟨hv, List.eq_nil_of_length_eq_zero h0⟩
  · refine .inl ⟨g, cap, rfl, (Array.getElem?_eq_some_iff.1 hg).1, fun i hi => ?_⟩
    have := hc.cells (g := g) rfl i (.int .i64 zs[i]) (by simp [intCells, hi])
    have e : ((⟨g, 0, none⟩ : Addr).add i) = ⟨g, i, none⟩ := by unfold Addr.add; split <;> simp_all
    rw [e] at this; exact this

theorem app_cell (w : World) (z : Int) : ∀ j u, [Value.int .i64 z][j]? = some u → (w.alloc (.cells #[.int .i64 z] 3)).cell? ((⟨w.heap.size, 0, none⟩ : Addr).add j) = some u := by
  intro j u hj
  match j, hj with
  | 0, hj => simp at hj; subst hj; simp [Addr.add]

theorem own_form {w : World} {base : Nat} {e : TypeId} {size : Nat} {v : Value} {n : Nat} {xs : List Value} (h : w.ownsRow base e size v (n + 1) xs) : ∃ g cap, v = .slice (some ⟨g, 0, none⟩) (n + 1) cap := by
  rcases h.2 with ⟨_, hn⟩ | ⟨g, cap, cur, rfl, _⟩
  · omega
  · exact ⟨g, cap, rfl⟩

end Go.Proofs.Ytalncjhldkcmaaa
