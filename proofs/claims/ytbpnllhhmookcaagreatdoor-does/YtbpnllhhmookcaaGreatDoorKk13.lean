/- What a transaction reads: tube. -/
import Derived.Test.YtbpnllhhmookcaaGreatDoorKk12
namespace Go.Proofs.YtbpnllhhmookcaaGreatDoor
open Go.RowKit Go.Shelf
attribute [local go_sem] run_store_cplx

set_option maxRecDepth 8000 in
set_option maxHeartbeats 2000000 in
theorem tube_none (n₀ b n : Nat) (l : List KV)  (w : World) (hT : TxAt n₀ w b l) (hn : n < 1024) (hg : getK l (tubeK n) = none) :
    Calls Tryz.prog 120 #[.pointer (some ⟨b, 0, none⟩), .int .i64 n] w fun e w' => e = .returned (.tuple #[.agg #[.complex .f64 0 0, .int .i64 0, .int .i64 0, .int .i64 0, .int .i64 0, .int .i64 0, .int .i64 0, .int .i64 0, .int .i64 0], .bool false]) ∧ Below w.heap.size w w' := by
  obtain ⟨⟨r, hB, hI⟩, hf⟩ := hT
  have hn0 := hI.2.1
  have hb1 : Below w.heap.size w (w.alloc (.cells #[.complex .f64 0 0, .int .i64 0, .int .i64 0, .int .i64 0, .int .i64 0, .int .i64 0, .int .i64 0, .int .i64 0, .int .i64 0] 182)) := (Below.refl _ _).alloc (Nat.le_refl _) _
  have c0 := (hb1.cell (p := ⟨b, 0, none⟩) hB.lt).trans hB.c0
  have c1 := (hb1.cell (p := ⟨b, 1, none⟩) hB.lt).trans hB.c1
  have hx1 : RecBox (w.alloc (.cells #[.complex .f64 0 0, .int .i64 0, .int .i64 0, .int .i64 0, .int .i64 0, .int .i64 0, .int .i64 0, .int .i64 0, .int .i64 0] 182)) w.heap.size #[.complex .f64 0 0, .int .i64 0, .int .i64 0, .int .i64 0, .int .i64 0, .int .i64 0, .int .i64 0, .int .i64 0, .int .i64 0] := World.alloc_heap_new w _
  go_enter Tryz.func120, Tryz.ntmps120
  go_wp2_with fail
  generalize w.alloc (.cells #[.complex .f64 0 0, .int .i64 0, .int .i64 0, .int .i64 0, .int .i64 0, .int .i64 0, .int .i64 0, .int .i64 0, .int .i64 0] 182) = w1 at *
  have hget := get_any n₀ r l.length (tubeK n) l w1.drew (hI.below ((hb1.mono hn0).trans ((Below.refl _ _).drew)))
  rw [hg] at hget
  have hkey := tubeKey_any n hn
  have HX := hid hx1
  have HB1 := hid hb1
  clear hx1 hI hB hb1
  go_region_with (first
    | (go_at_call 159; refine (hkey _).mono ?_; clear hkey; rintro e w' ⟨rfl, rfl⟩)
    | (go_at_call 158; refine hget.mono ?_; clear hget; rintro e w2 ⟨rfl, hb2⟩))
  all_goals
    have hx2 : RecBox w2 w.heap.size #[.complex .f64 0 0, .int .i64 0, .int .i64 0, .int .i64 0, .int .i64 0, .int .i64 0, .int .i64 0, .int .i64 0, .int .i64 0] := RecBox.below (W := w1.drew) HX.out hb2
    have hB2 : Below w.heap.size w w2 := (HB1.out.drew).trans (hb2.mono (by have := HB1.out.size; exact this))
    clear hb2 c0 c1 HX HB1
    have HX2 := hid hx2
    have d0 := hx2.cell 0
    have d1 := hx2.cell 1
    have d2 := hx2.cell 2
    have d3 := hx2.cell 3
    have d4 := hx2.cell 4
    have d5 := hx2.cell 5
    have d6 := hx2.cell 6
    have d7 := hx2.cell 7
    have d8 := hx2.cell 8
    simp only [List.getElem?_toArray, List.getElem?_cons_zero, List.getElem?_cons_succ] at d0 d1 d2 d3 d4 d5 d6 d7 d8
    have f0 := hx2.fz 0
    have f1 := hx2.fz 1
    have f2 := hx2.fz 2
    have f3 := hx2.fz 3
    have f4 := hx2.fz 4
    have f5 := hx2.fz 5
    have f6 := hx2.fz 6
    have f7 := hx2.fz 7
    have f8 := hx2.fz 8
    clear hx2
    go_wp2_with fail
    have hxp := HX2.out.put 0 0 0 0 0 0 0 0 0 0
    have hbp := putR_below hB2 (Nat.le_refl _) 0 0 0 0 0 0 0 0 0 0
    unfold putR at hxp hbp
    clear d0 d1 d2 d3 d4 d5 d6 d7 d8 f0 f1 f2 f3 f4 f5 f6 f7 f8 HX2 hB2
    generalize (((((((((w2).setCell ⟨w.heap.size, 0, none⟩ (.complex .f64 0 0)).setCell ⟨w.heap.size, 1, none⟩ (.int .i64 0)).setCell ⟨w.heap.size, 2, none⟩ (.int .i64 0)).setCell ⟨w.heap.size, 3, none⟩ (.int .i64 0)).setCell ⟨w.heap.size, 4, none⟩ (.int .i64 0)).setCell ⟨w.heap.size, 5, none⟩ (.int .i64 0)).setCell ⟨w.heap.size, 6, none⟩ (.int .i64 0)).setCell ⟨w.heap.size, 7, none⟩ (.int .i64 0)).setCell ⟨w.heap.size, 8, none⟩ (.int .i64 0) = w9 at *
    have y0 := hxp.cell 0
    have y1 := hxp.cell 1
    have y2 := hxp.cell 2
    have y3 := hxp.cell 3
    have y4 := hxp.cell 4
    have y5 := hxp.cell 5
    have y6 := hxp.cell 6
    have y7 := hxp.cell 7
    have y8 := hxp.cell 8
    simp only [List.getElem?_toArray, List.getElem?_cons_zero, List.getElem?_cons_succ] at y0 y1 y2 y3 y4 y5 y6 y7 y8
    exact bodyPost_ret (v := .tuple #[.agg #[.complex .f64 0 0, .int .i64 0, .int .i64 0, .int .i64 0, .int .i64 0, .int .i64 0, .int .i64 0, .int .i64 0, .int .i64 0], .bool false]) (by simp [results, Tryz.results120, go_sem, y0, y1, y2, y3, y4, y5, y6, y7, y8]) rfl ⟨rfl, hbp⟩

end Go.Proofs.YtbpnllhhmookcaaGreatDoor

/- What a transaction reads: tube, where there is one. -/
namespace Go.Proofs.YtbpnllhhmookcaaGreatDoor
open Go.RowKit Go.Shelf
attribute [local go_sem] run_store_cplx

set_option maxRecDepth 8000 in
set_option maxHeartbeats 2000000 in
theorem tube_some (n₀ b n : Nat) (l : List KV) (q : PT) (hq : q.Ok) (w : World) (hT : TxAt n₀ w b l) (hn : n < 1024) (hg : getK l (tubeK n) = some ⟨q.text.toArray⟩) :
    Calls Tryz.prog 120 #[.pointer (some ⟨b, 0, none⟩), .int .i64 n] w fun e w' => e = .returned (.tuple #[q.val, .bool true]) ∧ Below w.heap.size w w' := by
  have HRd := hid (readTube_text q hq)
  simp only [PT.val, PT.cells, pl] at HRd ⊢
  generalize fl q.x = fa at *
  generalize fl q.y = fb at *
  obtain ⟨⟨r, hB, hI⟩, hf⟩ := hT
  have hn0 := hI.2.1
  have hb1 : Below w.heap.size w (w.alloc (.cells #[.complex .f64 0 0, .int .i64 0, .int .i64 0, .int .i64 0, .int .i64 0, .int .i64 0, .int .i64 0, .int .i64 0, .int .i64 0] 182)) := (Below.refl _ _).alloc (Nat.le_refl _) _
  have c0 := (hb1.cell (p := ⟨b, 0, none⟩) hB.lt).trans hB.c0
  have c1 := (hb1.cell (p := ⟨b, 1, none⟩) hB.lt).trans hB.c1
  have hx1 : RecBox (w.alloc (.cells #[.complex .f64 0 0, .int .i64 0, .int .i64 0, .int .i64 0, .int .i64 0, .int .i64 0, .int .i64 0, .int .i64 0, .int .i64 0] 182)) w.heap.size #[.complex .f64 0 0, .int .i64 0, .int .i64 0, .int .i64 0, .int .i64 0, .int .i64 0, .int .i64 0, .int .i64 0, .int .i64 0] := World.alloc_heap_new w _
  go_enter Tryz.func120, Tryz.ntmps120
  go_wp2_with fail
  generalize w.alloc (.cells #[.complex .f64 0 0, .int .i64 0, .int .i64 0, .int .i64 0, .int .i64 0, .int .i64 0, .int .i64 0, .int .i64 0, .int .i64 0] 182) = w1 at *
  have hget := get_any n₀ r l.length (tubeK n) l w1.drew (hI.below ((hb1.mono hn0).trans ((Below.refl _ _).drew)))
  rw [hg] at hget
  have hkey := tubeKey_any n hn
  have HX := hid hx1
  have HB1 := hid hb1
  clear hx1 hI hB hb1
  go_region_with (first
    | (go_at_call 159; refine (hkey _).mono ?_; clear hkey; rintro e w' ⟨rfl, rfl⟩)
    | (go_at_call 158; refine hget.mono ?_; clear hget; rintro e w2 ⟨rfl, hb2⟩))
  all_goals
    have hx2 : RecBox w2 w.heap.size #[.complex .f64 0 0, .int .i64 0, .int .i64 0, .int .i64 0, .int .i64 0, .int .i64 0, .int .i64 0, .int .i64 0, .int .i64 0] := RecBox.below (W := w1.drew) HX.out hb2
    have hB2 : Below w.heap.size w w2 := (HB1.out.drew).trans (hb2.mono (by have := HB1.out.size; exact this))
    clear hb2 c0 c1 HX HB1
    have HX0 := hid hx2
    have HB0 := hid hB2
    clear hx2 hB2
    generalize htx : (⟨q.text.toArray⟩ : ByteArray) = tx at *
    clear htx
    go_wp2_with (go_at_call 160; refine (HRd.out _).mono ?_; clear HRd; rintro e w3 ⟨rfl, hb3⟩; have hx2 : RecBox w3 w.heap.size #[.complex .f64 0 0, .int .i64 0, .int .i64 0, .int .i64 0, .int .i64 0, .int .i64 0, .int .i64 0, .int .i64 0, .int .i64 0] := HX0.out.below hb3; have hB2 := HB0.out.trans (hb3.mono HB0.out.size); have d0 := hx2.cell 0; have d1 := hx2.cell 1; have d2 := hx2.cell 2; have d3 := hx2.cell 3; have d4 := hx2.cell 4; have d5 := hx2.cell 5; have d6 := hx2.cell 6; have d7 := hx2.cell 7; have d8 := hx2.cell 8; simp only [List.getElem?_toArray, List.getElem?_cons_zero, List.getElem?_cons_succ] at d0 d1 d2 d3 d4 d5 d6 d7 d8; have f0 := hx2.fz 0; have f1 := hx2.fz 1; have f2 := hx2.fz 2; have f3 := hx2.fz 3; have f4 := hx2.fz 4; have f5 := hx2.fz 5; have f6 := hx2.fz 6; have f7 := hx2.fz 7; have f8 := hx2.fz 8; have HX2 := hid hx2; clear hx2)
    have hxp := HX2.out.put fa fb q.box q.donor q.status q.thaws q.began q.left q.used q.lost
    have hbp := putR_below hB2 (Nat.le_refl _) fa fb q.box q.donor q.status q.thaws q.began q.left q.used q.lost
    unfold putR at hxp hbp
    clear d0 d1 d2 d3 d4 d5 d6 d7 d8 f0 f1 f2 f3 f4 f5 f6 f7 f8 HX2 hB2
    generalize (((((((((w3).setCell ⟨w.heap.size, 0, none⟩ (.complex .f64 fa fb)).setCell ⟨w.heap.size, 1, none⟩ (.int .i64 q.box)).setCell ⟨w.heap.size, 2, none⟩ (.int .i64 q.donor)).setCell ⟨w.heap.size, 3, none⟩ (.int .i64 q.status)).setCell ⟨w.heap.size, 4, none⟩ (.int .i64 q.thaws)).setCell ⟨w.heap.size, 5, none⟩ (.int .i64 q.began)).setCell ⟨w.heap.size, 6, none⟩ (.int .i64 q.left)).setCell ⟨w.heap.size, 7, none⟩ (.int .i64 q.used)).setCell ⟨w.heap.size, 8, none⟩ (.int .i64 q.lost) = w9 at *
    have y0 := hxp.cell 0
    have y1 := hxp.cell 1
    have y2 := hxp.cell 2
    have y3 := hxp.cell 3
    have y4 := hxp.cell 4
    have y5 := hxp.cell 5
    have y6 := hxp.cell 6
    have y7 := hxp.cell 7
    have y8 := hxp.cell 8
    simp only [List.getElem?_toArray, List.getElem?_cons_zero, List.getElem?_cons_succ] at y0 y1 y2 y3 y4 y5 y6 y7 y8
    exact bodyPost_ret (v := .tuple #[.agg #[.complex .f64 fa fb, .int .i64 q.box, .int .i64 q.donor, .int .i64 q.status, .int .i64 q.thaws, .int .i64 q.began, .int .i64 q.left, .int .i64 q.used, .int .i64 q.lost], .bool true]) (by simp [results, Tryz.results120, go_sem, y0, y1, y2, y3, y4, y5, y6, y7, y8]) rfl ⟨rfl, hbp⟩

end Go.Proofs.YtbpnllhhmookcaaGreatDoor

/- What a transaction reads: side, poured. -/
namespace Go.Proofs.YtbpnllhhmookcaaGreatDoor
open Go.RowKit Go.Shelf

set_option maxRecDepth 8000 in
set_option maxHeartbeats 2000000 in
theorem side_none (n₀ b n : Nat) (l : List KV) (w : World) (hT : TxAt n₀ w b l) (hn : n < 1024) (hg : getK l (boxK n) = none) :
    Calls Tryz.prog 123 #[.pointer (some ⟨b, 0, none⟩), .int .i64 n] w fun e w' => e = .returned (.int .i64 0) ∧ Below w.heap.size w w' := by
  obtain ⟨⟨r, hB, hI⟩, hf⟩ := hT
  have c0 := hB.c0
  have c1 := hB.c1
  have hget := get_any n₀ r l.length (boxK n) l w.drew (hI.below ((Below.refl _ _).drew))
  rw [hg] at hget
  have hkey := boxKey_any n hn
  clear hI hB
  go_enter Tryz.func123, Tryz.ntmps123
  go_wp2_with fail
  go_region_with (first
    | (go_at_call 128; refine (hkey _).mono ?_; clear hkey; rintro e w' ⟨rfl, rfl⟩)
    | (go_at_call 158; refine hget.mono ?_; clear hget; rintro e w2 ⟨rfl, hb2⟩))
  all_goals go_wp2_with fail
  all_goals go_ret
  all_goals exact ⟨rfl, ((Below.refl _ _).drew).trans hb2⟩

set_option maxRecDepth 8000 in
set_option maxHeartbeats 2000000 in
theorem side_some (n₀ b n : Nat) (l : List KV) (s : ByteArray) (hs : 0 < s.size) (w : World) (hT : TxAt n₀ w b l) (hn : n < 1024) (hg : getK l (boxK n) = some s) :
    Calls Tryz.prog 123 #[.pointer (some ⟨b, 0, none⟩), .int .i64 n] w fun e w' => e = .returned (.int .i64 s[0].toNat) ∧ Below w.heap.size w w' := by
  obtain ⟨⟨r, hB, hI⟩, hf⟩ := hT
  have c0 := hB.c0
  have c1 := hB.c1
  have hget := get_any n₀ r l.length (boxK n) l w.drew (hI.below ((Below.refl _ _).drew))
  rw [hg] at hget
  have hkey := boxKey_any n hn
  clear hI hB
  go_enter Tryz.func123, Tryz.ntmps123
  go_wp2_with fail
  go_region_with (first
    | (go_at_call 128; refine (hkey _).mono ?_; clear hkey; rintro e w' ⟨rfl, rfl⟩)
    | (go_at_call 158; refine hget.mono ?_; clear hget; rintro e w2 ⟨rfl, hb2⟩))
  all_goals have hb0 := byte_lt s[0]
  all_goals go_wp2_with fail
  all_goals go_ret
  all_goals exact ⟨rfl, ((Below.refl _ _).drew).trans hb2⟩

set_option maxRecDepth 8000 in
set_option maxHeartbeats 2000000 in
theorem poured_none (n₀ b x y : Nat) (l : List KV) (w : World) (hT : TxAt n₀ w b l) (hx : x < 1024) (hy : y < 1024) (hg : getK l (pourK x y) = none) :
    Calls Tryz.prog 122 #[.pointer (some ⟨b, 0, none⟩), .int .i64 x, .int .i64 y] w fun e w' => e = .returned (.int .i64 0) ∧ Below w.heap.size w w' := by
  obtain ⟨⟨r, hB, hI⟩, hf⟩ := hT
  have c0 := hB.c0
  have c1 := hB.c1
  have hget := get_any n₀ r l.length (pourK x y) l w.drew (hI.below ((Below.refl _ _).drew))
  rw [hg] at hget
  have hkey := pourKey_any x y hx hy
  clear hI hB
  go_enter Tryz.func122, Tryz.ntmps122
  go_wp2_with fail
  go_region_with (first
    | (go_at_call 161; refine (hkey _).mono ?_; clear hkey; rintro e w' ⟨rfl, rfl⟩)
    | (go_at_call 158; refine hget.mono ?_; clear hget; rintro e w2 ⟨rfl, hb2⟩))
  all_goals go_wp2_with fail
  all_goals go_ret
  all_goals exact ⟨rfl, ((Below.refl _ _).drew).trans hb2⟩

set_option maxRecDepth 8000 in
set_option maxHeartbeats 2000000 in
theorem poured_some (n₀ b x y v : Nat) (l : List KV) (hv : v < 16777216) (w : World) (hT : TxAt n₀ w b l) (hx : x < 1024) (hy : y < 1024) (hg : getK l (pourK x y) = some ⟨(vol v).toArray⟩) :
    Calls Tryz.prog 122 #[.pointer (some ⟨b, 0, none⟩), .int .i64 x, .int .i64 y] w fun e w' => e = .returned (.int .i64 v) ∧ Below w.heap.size w w' := by
  obtain ⟨⟨r, hB, hI⟩, hf⟩ := hT
  have c0 := hB.c0
  have c1 := hB.c1
  have hget := get_any n₀ r l.length (pourK x y) l w.drew (hI.below ((Below.refl _ _).drew))
  rw [hg] at hget
  have hkey := pourKey_any x y hx hy
  have hrd := readVol_any ⟨(vol v).toArray⟩ (by simp [vol, ByteArray.size])
  rw [show volN (⟨(vol v).toArray⟩ : ByteArray).data.toList 0 = v from volN_vol hv] at hrd
  clear hI hB hg
  simp only [Option.getD_some, Option.isSome_some] at hget
  generalize (⟨(vol v).toArray⟩ : ByteArray) = tx at *
  go_enter Tryz.func122, Tryz.ntmps122
  go_wp2_with fail
  go_region_with (first
    | (go_at_call 161; refine (hkey _).mono ?_; clear hkey; rintro e w' ⟨rfl, rfl⟩)
    | (go_at_call 158; refine hget.mono ?_; clear hget; rintro e w2 ⟨rfl, hb2⟩))
  all_goals go_wp2_with (go_at_call 162; refine (hrd _).mono ?_; rintro e w3 ⟨rfl, m3, rfl⟩)
  all_goals go_ret
  all_goals exact ⟨rfl, below_drewN (((Below.refl _ _).drew).trans hb2) _⟩

end Go.Proofs.YtbpnllhhmookcaaGreatDoor

/- What a transaction writes: setSide, setTube, setPoured. -/
namespace Go.Proofs.YtbpnllhhmookcaaGreatDoor
open Go.RowKit Go.Shelf
attribute [local go_sem] run_store_cplx

theorem TreeAt.below {n₀ : Nat} {w w' : World} {b : Nat} {t : TypeId} {l : List KV} (h : TreeAt n₀ w b t l) (hb : Below w.heap.size w w') : TreeAt n₀ w' b t l := by
  obtain ⟨⟨r, h1, h2⟩, h3⟩ := h
  exact ⟨⟨r, treeBox_below h1 hb, h2.below (hb.mono h2.2.1)⟩, h3⟩
theorem PutEnds.from {b : Nat} {t : TypeId} {l : List KV} {w w1 w' : World} {e : Ending} (h : PutEnds b t l w1 e w') (hb : Below w.heap.size w w1) : PutEnds b t l w e w' :=
  ⟨h.1, h.2.1, (below_toKeeps hb _).trans h.2.2⟩

set_option maxRecDepth 8000 in
set_option maxHeartbeats 2000000 in
theorem setTube_any (n₀ b n : Nat) (l : List KV) (q : PT) (hq : q.Ok) (w : World) (hT : TxAt n₀ w b l) (hn : n < 1024) (hL : l.length < 8000) :
    Calls Tryz.prog 130 #[.pointer (some ⟨b, 0, none⟩), .int .i64 n, q.val] w (PutEnds b 157 (insK l (tubeK n) ⟨q.text.toArray⟩) w) := by
  have htx := text_any q hq
  have hkey := tubeKey_any n hn
  have HPut := hid (fun u (hu : Below w.heap.size w u) => treePut_any n₀ b 157 l (tubeK n) ⟨q.text.toArray⟩ u (hT.below hu) hL)
  simp only [PT.val, PT.cells, pl] at htx ⊢
  generalize fl q.x = fa at *
  generalize fl q.y = fb at *
  generalize (⟨q.text.toArray⟩ : ByteArray) = tx at *
  have hb1 : Below w.heap.size w (w.alloc (.cells #[.complex .f64 fa fb, .int .i64 q.box, .int .i64 q.donor, .int .i64 q.status, .int .i64 q.thaws, .int .i64 q.began, .int .i64 q.left, .int .i64 q.used, .int .i64 q.lost] 182)) := (Below.refl _ _).alloc (Nat.le_refl _) _
  have hx1 : RecBox (w.alloc (.cells #[.complex .f64 fa fb, .int .i64 q.box, .int .i64 q.donor, .int .i64 q.status, .int .i64 q.thaws, .int .i64 q.began, .int .i64 q.left, .int .i64 q.used, .int .i64 q.lost] 182)) w.heap.size #[.complex .f64 fa fb, .int .i64 q.box, .int .i64 q.donor, .int .i64 q.status, .int .i64 q.thaws, .int .i64 q.began, .int .i64 q.left, .int .i64 q.used, .int .i64 q.lost] := World.alloc_heap_new w _
  go_enter Tryz.func130, Tryz.ntmps130
  go_wp2_with fail
  generalize w.alloc (.cells #[.complex .f64 fa fb, .int .i64 q.box, .int .i64 q.donor, .int .i64 q.status, .int .i64 q.thaws, .int .i64 q.began, .int .i64 q.left, .int .i64 q.used, .int .i64 q.lost] 182) = w1 at *
  have d0 := hx1.cell 0
  have d1 := hx1.cell 1
  have d2 := hx1.cell 2
  have d3 := hx1.cell 3
  have d4 := hx1.cell 4
  have d5 := hx1.cell 5
  have d6 := hx1.cell 6
  have d7 := hx1.cell 7
  have d8 := hx1.cell 8
  simp only [List.getElem?_toArray, List.getElem?_cons_zero, List.getElem?_cons_succ] at d0 d1 d2 d3 d4 d5 d6 d7 d8
  have HB1 := hid hb1
  clear hx1 hb1 hT
  go_region_with (first
    | (go_at_call 159; refine (hkey _).mono ?_; clear hkey; rintro e w' ⟨rfl, rfl⟩)
    | (go_at_call 164; refine (htx _).mono ?_; clear htx; rintro e w2 ⟨rfl, hb2⟩; have hB2 : Below w.heap.size w w2 := (HB1.out.drew).trans (hb2.mono HB1.out.size))
    | (go_at_call 127; refine (HPut.out _ hB2).mono ?_; clear HPut; intro e w3 hP; have he := hP.1; subst he))
  all_goals go_wp2_with fail
  all_goals go_end0
  all_goals exact hP.from hB2

set_option maxRecDepth 8000 in
set_option maxHeartbeats 2000000 in
theorem setPoured_any (n₀ b x y v : Nat) (l : List KV) (hv : v < 16777216) (w : World) (hT : TxAt n₀ w b l) (hx : x < 1024) (hy : y < 1024) (hL : l.length < 8000) :
    Calls Tryz.prog 135 #[.pointer (some ⟨b, 0, none⟩), .int .i64 x, .int .i64 y, .int .i64 v] w (PutEnds b 157 (insK l (pourK x y) ⟨(vol v).toArray⟩) w) := by
  have htx := volText_any v hv
  have hkey := pourKey_any x y hx hy
  have HPut := hid (fun u (hu : Below w.heap.size w u) => treePut_any n₀ b 157 l (pourK x y) ⟨(vol v).toArray⟩ u (hT.below hu) hL)
  generalize (⟨(vol v).toArray⟩ : ByteArray) = tx at *
  clear hT
  go_enter Tryz.func135, Tryz.ntmps135
  go_wp2_with fail
  go_region_with (first
    | (go_at_call 161; refine (hkey _).mono ?_; clear hkey; rintro e w' ⟨rfl, rfl⟩)
    | (go_at_call 165; refine (htx _).mono ?_; clear htx; rintro e w2 ⟨rfl, hb2⟩; have hB2 : Below w.heap.size w w2 := ((Below.refl w.heap.size w).drew).trans hb2)
    | (go_at_call 127; refine (HPut.out _ hB2).mono ?_; clear HPut; intro e w3 hP; have he := hP.1; subst he))
  all_goals go_wp2_with fail
  all_goals go_end0
  all_goals exact hP.from hB2

end Go.Proofs.YtbpnllhhmookcaaGreatDoor

/- change: something is done to a tube's record. -/
namespace Go.Proofs.YtbpnllhhmookcaaGreatDoor
open Go.RowKit Go.Shelf
attribute [local go_sem] run_store_cplx

/-- What is done to a record, wherever it lies. -/
def Turns (f : Nat) (cap : Array Value) (n₀ : Nat) (w : World) (q q' : PT) : Prop :=
  ∀ (u : World) (p : Nat), Below n₀ w u → n₀ ≤ p → RecBox u p q.cells → Calls Tryz.prog f (#[.pointer (some ⟨p, 0, none⟩)] ++ cap) u fun e u' => e = .returned (.tuple #[]) ∧ RecBox u' p q'.cells ∧ Keeps (fun g => g = p) u u'

set_option maxRecDepth 8000 in
set_option maxHeartbeats 2000000 in
theorem change_any (n₀ b n f : Nat) (cap : Array Value) (l : List KV) (q q' : PT) (hq : q.Ok) (hq' : q'.Ok) (w : World) (hT : TxAt n₀ w b l) (hn : n < 1024) (hL : l.length < 8000) (hg : getK l (tubeK n) = some ⟨q.text.toArray⟩)
    (eg : ∀ args w, (callFunc f args).run Tryz.prog w = .ok (.enter f args) w) (hf : Turns f cap w.heap.size w q q') :
    Calls Tryz.prog 131 #[.pointer (some ⟨b, 0, none⟩), .int .i64 n, .func (.func f) #[] cap] w (PutEnds b 157 (insK l (tubeK n) ⟨q'.text.toArray⟩) w) := by
  have htube := tube_some n₀ b n l q hq w hT hn hg
  have HSet := hid (fun u (hu : Below w.heap.size w u) => setTube_any n₀ b n l q' hq' u (hT.below hu) hn hL)
  have HF := hid hf
  clear hf hg hT
  simp only [PT.val, PT.cells, pl] at htube HSet
  go_enter Tryz.func131, Tryz.ntmps131
  go_wp2_with (go_at_call 120; refine htube.mono ?_; clear htube; rintro e w1 ⟨rfl, hb1⟩)
  have hb2 : Below w1.heap.size w1 (w1.alloc (.cells #[.complex .f64 (fl q.x) (fl q.y), .int .i64 q.box, .int .i64 q.donor, .int .i64 q.status, .int .i64 q.thaws, .int .i64 q.began, .int .i64 q.left, .int .i64 q.used, .int .i64 q.lost] 182)) := (Below.refl _ _).alloc (Nat.le_refl _) _
  have hx2 : RecBox (w1.alloc (.cells #[.complex .f64 (fl q.x) (fl q.y), .int .i64 q.box, .int .i64 q.donor, .int .i64 q.status, .int .i64 q.thaws, .int .i64 q.began, .int .i64 q.left, .int .i64 q.used, .int .i64 q.lost] 182)) w1.heap.size #[.complex .f64 (fl q.x) (fl q.y), .int .i64 q.box, .int .i64 q.donor, .int .i64 q.status, .int .i64 q.thaws, .int .i64 q.began, .int .i64 q.left, .int .i64 q.used, .int .i64 q.lost] := World.alloc_heap_new w1 _
  have hB2 := hb1.trans (hb2.mono hb1.size)
  refine (HF.out _ w1.heap.size hB2 hb1.size hx2).mono ?_
  rintro e w3 ⟨rfl, hx3, hk3⟩
  have hB3 : Below w.heap.size w w3 := hB2.trans (hk3.toBelow (B := w.heap.size) (fun k hk => by subst hk; exact hb1.size) (by have := hB2.size; exact this))
  clear hx2 hb2 hk3 HF hB2
  simp only [PT.cells, pl] at hx3
  have d0 := hx3.cell 0
  have d1 := hx3.cell 1
  have d2 := hx3.cell 2
  have d3 := hx3.cell 3
  have d4 := hx3.cell 4
  have d5 := hx3.cell 5
  have d6 := hx3.cell 6
  have d7 := hx3.cell 7
  have d8 := hx3.cell 8
  simp only [List.getElem?_toArray, List.getElem?_cons_zero, List.getElem?_cons_succ] at d0 d1 d2 d3 d4 d5 d6 d7 d8
  clear hx3
  go_wp2_with (go_at_call 130; refine (HSet.out _ hB3).mono ?_; clear HSet; intro e w4 hP; have he := hP.1; subst he)
  go_end0
  exact hP.from hB3

end Go.Proofs.YtbpnllhhmookcaaGreatDoor
