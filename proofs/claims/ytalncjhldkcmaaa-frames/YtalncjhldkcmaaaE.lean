/- What Encode of package wire returns. -/
import Derived.Test.YtalncjhldkcmaaaD
import Derived.Laws.IdiomStrings
namespace Go.Proofs.Ytalncjhldkcmaaa
open Go.RowKit

def frameL (c : Nat → Int) (fs : List Nat) : List UInt8 := UInt8.ofNat (c 0).toNat :: fs.flatMap fun f => be4 (c (off f)).toNat
def okAll (c : Nat → Int) (fs : List Nat) : Bool := fs.all fun f => okB f (c (off f))
def encB (c : Nat → Int) : Bool := decide (1 ≤ c 0) && decide (c 0 ≤ 16) && okAll c (flds (c 0)) && !moreB c (flds (c 0))
def encS (c : Nat → Int) : List UInt8 := if encB c then frameL c (flds (c 0)) else []
def encE (c : Nat → Int) : Int := if encB c then 0 else 1

theorem flds_lt (k : Int) : ∀ f ∈ flds k, f < 9 := by
  intro f hf
  unfold flds at hf
  split at hf
  · simp at hf; omega
  split at hf
  · simp at hf; omega
  split at hf
  · simp at hf; omega
  split at hf
  · simp at hf; omega
  split at hf
  · simp at hf; omega
  split at hf
  · simp at hf; omega
  split at hf
  · simp at hf; omega
  split at hf
  · simp at hf; omega
  split at hf
  · simp at hf; omega
  split at hf
  · simp at hf; omega
  · simp at hf
theorem flds_len (k : Int) : (flds k).length ≤ 6 := by
  unfold flds
  repeat (first | (split; · simp) | simp)

theorem frameL_step (c : Nat → Int) (fs : List Nat) (k : Nat) (h : k < fs.length) : frameL c (fs.take (k + 1)) = frameL c (fs.take k) ++ be4 (c (off fs[k])).toNat := by
  unfold frameL
  rw [List.take_succ_eq_append_getElem h, List.flatMap_append]
  simp
theorem byteCells_append (a b : List UInt8) : byteCells (a ++ b) = byteCells a ++ byteCells b := by simp [byteCells]
theorem be4_len (v : Nat) : (be4 v).length = 4 := rfl

theorem byte_small (k : Int) (h1 : 1 ≤ k) (h2 : k ≤ 16) : ((UInt8.ofNat k.toNat).toNat : Int) = k := by
  rw [UInt8.toNat_ofNat']; omega

theorem own_step {w : World} {B n : Nat} {e : TypeId} {v : Value} {c : Nat → Int} {fs : List Nat} {k m : Nat} (h : k < fs.length) (hm : m = (c (off fs[k])).toNat)
    (ho : w.ownsRow B e 1 v (n + 4) (byteCells (frameL c (fs.take k)) ++ byteCells (be4 m))) (hn : n = (frameL c (fs.take k)).length) :
    w.ownsRow B e 1 v (frameL c (fs.take (k + 1))).length (byteCells (frameL c (fs.take (k + 1)))) := by
  rw [frameL_step c fs k h, byteCells_append, List.length_append, be4_len, ← hm, ← hn]; exact ho

theorem Try.eqlNilF (w : World) (a : Option Addr) (l k : Nat) : (binOp .eql 44 (.slice a l k) (.slice none 0 0)).run Try.prog w = .ok (.bool a.isNone) w := by
  simp only [binOp]
  simp [run_equal_slice_nil w 44 46 a l k Try.underlying44]
attribute [local go_sem] Try.eqlNilF

theorem own_full (w : World) (base : Nat) (e : TypeId) (cur : Array Value) (hb : base ≤ w.heap.size) (hm : cur.size ≤ maxLen) :
    (w.alloc (.cells cur e)).ownsRow base e 1 (.slice (some ⟨w.heap.size, 0, none⟩) cur.size cur.size) cur.size cur.toList :=
  ⟨by simp, .inr ⟨w.heap.size, cur.size, cur, rfl, hb, heap_alloc_new w _, Nat.le_refl _, hm, by simp, by rw [Nat.mul_one, ← Array.length_toList, List.take_length]⟩⟩

theorem own_cells {w : World} {base : Nat} {e : TypeId} {v : Value} {l : List UInt8} (h : w.ownsRow base e 1 v l.length (byteCells l)) (hl : l ≠ []) :
    ∃ g cap, v = .slice (some ⟨g, 0, none⟩) l.length cap ∧ base ≤ g ∧ g < w.heap.size ∧ ∀ j (hj : j < l.length), w.cell? ((⟨g, 0, none⟩ : Addr).add j) = some (.int .u8 (l[j].toNat : Int)) := by
  have hc := h
  rcases h.2 with ⟨_, hn⟩ | ⟨g, cap, cur, rfl, hb, hg, _⟩
  · exact absurd (List.eq_nil_of_length_eq_zero hn) hl
  · refine ⟨g, cap, rfl, hb, (Array.getElem?_eq_some_iff.1 hg).1, fun j hj => hc.cells (g := g) rfl j _ ?_⟩
    simp [byteCells, hj]

theorem own_conv {w : World} {g cap : Nat} {l : List UInt8} (hc : ∀ j (hj : j < l.length), w.cell? ((⟨g, 0, none⟩ : Addr).add j) = some (.int .u8 (l[j].toNat : Int))) :
    (convert 38 9 (.slice (some ⟨g, 0, none⟩) l.length cap)).run Try.prog w = .ok (.string ⟨l.toArray⟩) w :=
  run_convert_bytes_back w 38 9 5 ⟨g, 0, none⟩ cap l Try.underlying38 Try.underlying5 Try.underlying9 hc

theorem own_kept {w w' : World} {B g : Nat} {l : List UInt8} (hb : Below B w w') (hg : g < B) (hc : ∀ j (hj : j < l.length), w.cell? ((⟨g, 0, none⟩ : Addr).add j) = some (.int .u8 (l[j].toNat : Int))) :
    ∀ j (hj : j < l.length), w'.cell? ((⟨g, 0, none⟩ : Addr).add j) = some (.int .u8 (l[j].toNat : Int)) :=
  fun j hj => (hb.cell (by unfold Addr.add; split <;> exact hg)).trans (hc j hj)

theorem own_start (w : World) (B : Nat) (c : Nat → Int) (hB : B ≤ w.heap.size) (h : ((UInt8.ofNat (c 0).toNat).toNat : Int) = c 0) :
    (w.alloc (.cells #[.int .u8 (c 0)] 5)).ownsRow B 5 1 (.slice (some ⟨w.heap.size, 0, none⟩) 1 1) (frameL c []).length (byteCells (frameL c [])) := by
  have e : byteCells (frameL c []) = [.int .u8 (c 0)] := by
    show [Value.int .u8 ((UInt8.ofNat (c 0).toNat).toNat : Int)] = _
    rw [h]
  rw [e]
  exact own_full w B 5 #[.int .u8 (c 0)] hB (by simp [maxLen])

theorem okAll_step (c : Nat → Int) (fs : List Nat) (k : Nat) (h : k < fs.length) (ho : okAll c (fs.take k) = true) (hk : okB fs[k] (c (off fs[k])) = true) : okAll c (fs.take (k + 1)) = true := by
  unfold okAll at *
  rw [List.take_succ_eq_append_getElem h, List.all_append, ho]
  simp [hk]
theorem okAll_bad (c : Nat → Int) (fs : List Nat) (k : Nat) (h : k < fs.length) (hk : okB fs[k] (c (off fs[k])) = false) : okAll c fs = false := by
  unfold okAll
  rw [List.all_eq_false]
  exact ⟨fs[k], List.getElem_mem h, by simp [hk]⟩

theorem enc_bad (c : Nat → Int) (h : okAll c (flds (c 0)) = false) : encS c = [] ∧ encE c = 1 := by simp [encS, encE, encB, h]
theorem enc_more (c : Nat → Int) (h : moreB c (flds (c 0)) = true) : encS c = [] ∧ encE c = 1 := by simp [encS, encE, encB, h]
theorem enc_good (c : Nat → Int) (h1 : 1 ≤ c 0) (h2 : c 0 ≤ 16) (h3 : okAll c (flds (c 0)) = true) (h4 : moreB c (flds (c 0)) = false) : encS c = frameL c (flds (c 0)) ∧ encE c = 0 := by
  simp [encS, encE, encB, h1, h2, h3, h4]
theorem enc_none (c : Nat → Int) (h : c 0 < 1 ∨ 16 < c 0) : encS c = [] ∧ encE c = 1 := by
  have : encB c = false := by
    unfold encB
    rcases h with h | h
    · simp [show ¬ (1 ≤ c 0) by omega]
    · simp [show ¬ (c 0 ≤ 16) by omega]
  simp [encS, encE, this]

theorem okB_bounds {f : Nat} {n : Int} (h : okB f n = true) : 0 ≤ n ∧ n ≤ 1000000 := by
  simp only [okB, Bool.and_eq_true, decide_eq_true_eq] at h
  have h1 : 0 ≤ lo f := by unfold lo; split <;> omega
  have h2 : hi f ≤ 1000000 := by unfold hi; repeat (first | (split; · omega) | omega)
  omega

theorem ret_enc {c : Nat → Int} {s : List UInt8} {e : Int} (h : encS c = s ∧ encE c = e) : Ending.returned (.tuple #[.string ⟨s.toArray⟩, .int .i64 e]) = .returned (.tuple #[.string ⟨(encS c).toArray⟩, .int .i64 (encE c)]) := by rw [h.1, h.2]

set_option maxHeartbeats 400000 in
theorem encode_no (c : Nat → Int) (w : World) (h : c 0 < 1 ∨ 16 < c 0) :
    Calls Try.prog 15 #[.agg #[.int .i64 (c 0), .int .i64 (c 1), .int .i64 (c 2), .int .i64 (c 3), .int .i64 (c 4), .int .i64 (c 5), .int .i64 (c 6), .int .i64 (c 7), .int .i64 (c 8)]] w fun e w' => e = .returned (.tuple #[.string ⟨(encS c).toArray⟩, .int .i64 (encE c)]) ∧ Below w.heap.size w w' := by
  have HE := hid (enc_none c h)
  go_enter Try.func15, Try.ntmps15
  go_wp2_with (go_at_call 25; refine (fieldsOf_no (c 0) h _).mono ?_; rintro e w' ⟨rfl, rfl⟩)
  go_ret2
  exact ⟨ret_enc HE.out, (Below.refl _ _).alloc (Nat.le_refl _) _⟩

set_option maxHeartbeats 1000000 in
theorem encode_yes (c : Nat → Int) (w : World) (h1 : 1 ≤ c 0) (h2 : c 0 ≤ 16) :
    Calls Try.prog 15 #[.agg #[.int .i64 (c 0), .int .i64 (c 1), .int .i64 (c 2), .int .i64 (c 3), .int .i64 (c 4), .int .i64 (c 5), .int .i64 (c 6), .int .i64 (c 7), .int .i64 (c 8)]] w fun e w' => e = .returned (.tuple #[.string ⟨(encS c).toArray⟩, .int .i64 (encE c)]) ∧ Below w.heap.size w w' := by
  have hl := flds_len (c 0)
  have HF := hid (flds_lt (c 0))
  have HB := hid (byte_small (c 0) h1 h2)
  have HBad := hid (enc_bad c)
  have HMore := hid (enc_more c)
  have HGood := hid (enc_good c h1 h2)
  have hC := ((Has.new w 23 c).alloc (by simp) (.cells (codes (flds (c 0))).toArray 46)).alloc (by simp; omega) (.cells #[.int .u8 (c 0)] 5)
  have hFs := (HasF.new (w.alloc (.cells #[.int .i64 (c 0), .int .i64 (c 1), .int .i64 (c 2), .int .i64 (c 3), .int .i64 (c 4), .int .i64 (c 5), .int .i64 (c 6), .int .i64 (c 7), .int .i64 (c 8)] 23)) 46 (flds (c 0))).alloc (by simp) (.cells #[.int .u8 (c 0)] 5)
  have hOw := own_start ((w.alloc (.cells #[.int .i64 (c 0), .int .i64 (c 1), .int .i64 (c 2), .int .i64 (c 3), .int .i64 (c 4), .int .i64 (c 5), .int .i64 (c 6), .int .i64 (c 7), .int .i64 (c 8)] 23)).alloc (.cells (codes (flds (c 0))).toArray 46)) (w.heap.size + 2) c (by simp) HB.out
  go_enter Try.func15, Try.ntmps15
  go_wp2_with (go_at_call 25; refine (fieldsOf_yes (c 0) h1 h2 _).mono ?_; rintro e w' ⟨rfl, rfl⟩)
  generalize flds (c 0) = fs at *
  go_loopw [5, 20] (fun v i wr => ∃ k : Nat, k ≤ fs.length ∧ i = .int .i64 k ∧ wr.ownsRow (w.heap.size + 2) 5 1 v (frameL c (fs.take k)).length (byteCells (frameL c (fs.take k))) ∧ Has wr w.heap.size c ∧ HasF wr (w.heap.size + 1) fs ∧ Below w.heap.size w wr ∧ okAll c (fs.take k) = true ∧ w.heap.size + 2 < wr.heap.size ∧ (frameL c (fs.take k)).length ≤ 4 * k + 1)
    (fun _ i _ => fs.length - (intOf i).toNat)
  case atStart =>
    refine ⟨0, Nat.zero_le _, rfl, by simpa using hOw, hC, by simpa using hFs, ?_, rfl, by simp, by simp [frameL]⟩
    exact (((Below.refl _ _).alloc (Nat.le_refl _) _).alloc (by simp) _).alloc (by simp; omega) _
  case round =>
    obtain ⟨k, hk, rfl, hown, hcell, hfs, hbel, hok, hsz, hfl⟩ := hrel
    clear hC hFs hOw
    have hok' := hid hok
    clear hok
    by_cases hlt : k < fs.length
    · have hcx := hfs k hlt
      have hf9 := HF.out (fs[k]) (List.getElem_mem hlt)
      have hco := hcell.1 (off fs[k]) (off_lt _)
      cases hb : okB fs[k] (c (off fs[k])) with
      | false =>
        have hE := hid (HBad.out (okAll_bad c fs k hlt hb))
        generalize fs[k] = f at *
        go_wp2_with (first | (go_at_call 26; refine (of_any f hf9 _ _).mono ?_; rintro e w' ⟨rfl, rfl⟩) | (go_at_call 27; refine (allows_any f hf9 _ _).mono ?_; rintro e w' ⟨rfl, rfl⟩))
        go_ret2
        exact ⟨ret_enc hE.out, hbel⟩
      | true =>
        have hbd := okB_bounds hb
        have hst := hid (okAll_step c fs k hlt hok'.out hb)
        obtain ⟨n, hn⟩ := Int.eq_ofNat_of_zero_le hbd.1
        have hos : Hid (∀ (w' : World) (v' : Value), w'.ownsRow (w.heap.size + 2) 5 1 v' ((frameL c (fs.take k)).length + 4) (byteCells (frameL c (fs.take k)) ++ byteCells (be4 n)) → w'.ownsRow (w.heap.size + 2) 5 1 v' (frameL c (fs.take (k + 1))).length (byteCells (frameL c (fs.take (k + 1))))) :=
          fun w' v' h => own_step hlt (by rw [hn]; simp) h rfl
        have hlen : Hid ((frameL c (fs.take (k + 1))).length = (frameL c (fs.take k)).length + 4) := by
          rw [frameL_step c fs k hlt, List.length_append, be4_len]; exact hid rfl
        rw [hn] at hco hb hbd
        obtain ⟨hb0, hb1⟩ := hbd
        clear hn
        generalize fs[k] = f at *
        go_wp2_with (first | (go_at_call 26; refine (of_any f hf9 _ _).mono ?_; rintro e w' ⟨rfl, rfl⟩) | (go_at_call 27; refine (allows_any f hf9 _ _).mono ?_; rintro e w' ⟨rfl, rfl⟩) | (go_at_call 28; refine (appendNumber_any (w.heap.size + 2) _ n (by omega) _ _ _ hown (by omega) (by omega)).mono ?_; rintro e w' ⟨v', rfl, ho', hb'⟩))
        go_roundw
        case rel => exact ⟨k + 1, by omega, by go_num, hos.out _ _ ho', hcell.below hb' (by omega), hfs.below hb' (by omega), hbel.trans (hb'.mono (by omega)), hst.out, by have := hb'.size; omega, by rw [hlen.out]; omega⟩
        case measure => simp [intOf]; omega
    · have hke : k = fs.length := by omega
      rw [hke, List.take_length] at hown
      have hokf := hok'.out
      rw [hke, List.take_length] at hokf
      have HOK := hid hokf
      clear hokf hok' hke
      obtain ⟨g, cap, rfl, hg1, hg2, hcs⟩ := own_cells hown (by simp [frameL])
      have HCS := hid hcs
      clear hcs
      have c0 := hcell.1 0 (by omega)
      have c1 := hcell.1 1 (by omega)
      have c2 := hcell.1 2 (by omega)
      have c3 := hcell.1 3 (by omega)
      have c4 := hcell.1 4 (by omega)
      have c5 := hcell.1 5 (by omega)
      have c6 := hcell.1 6 (by omega)
      have c7 := hcell.1 7 (by omega)
      have c8 := hcell.1 8 (by omega)
      cases hm : moreB c fs with
      | true =>
        have hE := hid (HMore.out hm)
        go_wp2_with (go_at_call 29; refine (hasMore_any c (w.heap.size + 1) fs HF.out _ (by omega) (by omega) hfs).mono ?_; rintro e w' ⟨rfl, hb1⟩)
        go_ret2
        exact ⟨ret_enc hE.out, hbel.trans (hb1.mono (by omega))⟩
      | false =>
        have hE := hid (HGood.out HOK.out hm)
        go_wp2_with (go_at_call 29; refine (hasMore_any c (w.heap.size + 1) fs HF.out _ (by omega) (by omega) hfs).mono ?_; rintro e w' ⟨rfl, hb1⟩; have hconv := own_conv (w := w') (cap := cap) (own_kept hb1 hg2 HCS.out))
        go_ret2
        exact ⟨ret_enc hE.out, hbel.trans (hb1.mono (by omega))⟩

theorem encode_any (c : Nat → Int) (w : World) :
    Calls Try.prog 15 #[.agg #[.int .i64 (c 0), .int .i64 (c 1), .int .i64 (c 2), .int .i64 (c 3), .int .i64 (c 4), .int .i64 (c 5), .int .i64 (c 6), .int .i64 (c 7), .int .i64 (c 8)]] w fun e w' => e = .returned (.tuple #[.string ⟨(encS c).toArray⟩, .int .i64 (encE c)]) ∧ Below w.heap.size w w' := by
  by_cases h : 1 ≤ c 0 ∧ c 0 ≤ 16
  · exact encode_yes c w h.1 h.2
  · exact encode_no c w (by omega)

end Go.Proofs.Ytalncjhldkcmaaa
