/- append to a row of ints that is owned: its block goes on holding ints alone. -/
import Derived.Laws.AppendOwn
import Derived.Test.YtbpnllhhmookcaaGreatDoorKk39
import Derived.Test.YtbpnllhhmookcaaGreatDoorKl01
import Derived.Laws.AppendOwnNone
namespace Go.Proofs.YtbpnllhhmookcaaGreatDoor
open Go

/-- A block that holds ints alone. -/
def AllI (w : World) (g : Nat) : Prop := ∀ o v, w.cell? ⟨g, o, none⟩ = some v → ∃ k, v = .int .i64 k
theorem allI_of {w : World} {g : Nat} {cur : Array Value} {e : TypeId} (hg : w.heap[g]? = some (.cells cur e (0, 0))) (h : ∀ v ∈ cur.toList, ∃ k, v = .int .i64 k) : AllI w g := by
  intro o v hv
  simp only [World.cell?, hg] at hv
  exact h v (by
    obtain ⟨hlt, rfl⟩ := Array.getElem?_eq_some_iff.1 hv
    exact Array.getElem_mem_toList hlt)
theorem allI_cur {w : World} {g : Nat} {cur : Array Value} {e : TypeId} (hg : w.heap[g]? = some (.cells cur e (0, 0))) (h : AllI w g) : ∀ v ∈ cur.toList, ∃ k, v = .int .i64 k := by
  intro v hv
  obtain ⟨o, ho, rfl⟩ := List.getElem_of_mem hv
  refine h o _ ?_
  simp only [World.cell?, hg]
  rw [Array.getElem?_eq_getElem (by simpa using ho)]
  simp

theorem zeroCells_i64 (z : Value) (hz : z = .int .i64 0) (n : Nat) : ∀ v ∈ (Builtin.zeroCells z.cells n).toList, ∃ k, v = .int .i64 k := by
  subst hz
  intro v hv
  simp [Builtin.zeroCells, Value.cells] at hv
  obtain ⟨a, _, rfl⟩ := hv
  exact ⟨0, by simp [Nat.mod_one]⟩

variable {P : Program}
theorem run_append_ints (w : World) (base : Nat) (t ty e : TypeId) (i : TypeInfo) (z : Value) (bytes : Nat) (ht : P.underlying t = some (.slice e)) (hi : P.info? e = some i) (hz : i.zero = some z) (hz0 : z = .int .i64 0)
    (hsize : i.size = 1) (hby : i.bytes = bytes)
    (v : Value) (n : Nat) (xs : List Value) (hown : w.ownsRow base e 1 v n xs) (hall : ∀ g, v.ownBlock = some g → AllI w g) (hxs : ∀ v ∈ xs, ∃ k, v = .int .i64 k)
    (a : Addr) (m c : Nat) (news : List Value) (hl : news.length = m) (hnews : ∀ j u, news[j]? = some u → w.cell? (a.add j) = some u) (hn : ∀ u ∈ news, ∃ k, u = .int .i64 k)
    (h63 : n + m ≤ maxLen) (hbytes : (n + m) * bytes ≤ 140737488355328) (hbase : base ≤ w.heap.size) :
    ∃ v' w', (Builtin.append_ #[t, t] ty #[v, .slice (some a) m c]).run P w = .ok v' w' ∧ w'.ownsRow base e 1 v' (n + m) (xs ++ news) ∧ w.grownBy w' v.ownBlock ∧ (∀ g, v'.ownBlock = some g → AllI w' g) := by
  have h1 : ∀ u ∈ news, u.oneCell' = true := fun u hu => by obtain ⟨k, rfl⟩ := hn u hu; rfl
  have hzs : z.cells.size = 1 := by rw [hz0]; rfl
  obtain ⟨v', w', hr, ho, hg, -⟩ := run_append_own (P := P) w base t ty e i z 1 bytes ht hi hz hsize hby hzs (by omega) v n xs hown a m c news (by omega) hnews h1 h63 hbytes hbase
  refine ⟨v', w', hr, ho, hg, ?_⟩
  have hsmall : n + m ≤ 9223372036854775807 := by simp only [maxLen] at h63; omega
  rcases hown.2 with ⟨rfl, rfl⟩ | ⟨g, cap, cur, rfl, hbg, hgg, hnc, hcm, hcs, htake⟩
  · by_cases hm : m = 0
    · subst hm
      have hn0 : news = [] := List.eq_nil_of_length_eq_zero hl
      subst hn0
      have hr2 : (Builtin.append_ #[t, t] ty #[.slice none 0 0, .slice (some a) 0 c]).run P w = .ok (.slice none 0 0) w := by
        simp [Builtin.append_, run_underlying ht, sizeOf, typeInfo, hi, Builtin.lenOf, Builtin.firstCells, loadCells, loadCellsFrom]
      rw [hr2] at hr
      cases hr
      intro g hg; simp [Value.ownBlock] at hg
    · have hr2 := run_append_nil (P := P) w t ty e i z ht hi hz a m c news (by rw [hsize]; omega) hnews (by omega) (by omega) (by rw [hby]; have hb := hbytes; simp only [Nat.zero_add] at hb; omega)
      rw [hr2] at hr
      cases hr
      intro g hg
      simp [Value.ownBlock] at hg
      subst hg
      refine allI_of (heap_alloc_new w.drew _) ?_
      intro v hv
      simp only [Array.toList_append, List.mem_append] at hv
      rcases hv with hv | hv
      · exact hn v (by simpa using hv)
      · exact zeroCells_i64 z hz0 _ v hv
  · by_cases hroom : n + m ≤ cap
    · have hfit : n * i.size + news.length ≤ cur.size := by rw [hl, hcs, hsize]; omega
      have hr2 := run_append_room (P := P) w t ty e i ht hi g n cap cur hgg a m c news (by rw [hsize]; omega) hnews h1 hroom hfit
      rw [hr2] at hr
      cases hr
      intro g' hg'
      simp [Value.ownBlock] at hg'
      subst hg'
      have hc := allI_cur hgg (hall g rfl)
      refine allI_of (setRow_heap w g cur _ e _ hgg) ?_
      intro v hv
      simp only [List.mem_append] at hv
      rcases hv with (hv | hv) | hv
      · exact hc v (List.mem_of_mem_take hv)
      · exact hn v hv
      · exact hc v (List.mem_of_mem_drop hv)
    · have holds : ∀ j u, xs[j]? = some u → w.cell? ((⟨g, 0, none⟩ : Addr).add j) = some u := by
        intro j u hj
        simp only [World.cell?, Addr.add_lit, hgg, Nat.zero_add]
        rw [← htake] at hj
        rw [List.getElem?_take] at hj
        split at hj
        · simpa using hj
        · cases hj
      have hfit : Builtin.nextslicecap (n + m) cap * i.bytes ≤ 281474976710656 := growslice_fits (by omega) (by rw [hby]; exact hbytes)
      have hr2 := run_append_grow (P := P) w t ty e i z ht hi hz ⟨g, 0, none⟩ n cap xs (by rw [hsize]; exact hown.1) holds a m c news (by rw [hsize]; omega) hnews (by omega) (by omega) hfit
      rw [hr2] at hr
      cases hr
      intro g' hg'
      simp [Value.ownBlock] at hg'
      subst hg'
      refine allI_of (heap_alloc_new w.drew _) ?_
      intro v hv
      simp only [Array.toList_append, List.mem_append] at hv
      rcases hv with (hv | hv) | hv
      · exact hxs v (by simpa using hv)
      · exact hn v (by simpa using hv)
      · exact zeroCells_i64 z hz0 _ v hv

theorem wpList_append_ints {w : World} {ops : Array Oper} {rest : List Oper} {o : Oper} {a : Act} {Q : Exit → Act → World → Prop} (hgd : o.guard = none) (s x : Operand) (t : TypeId)
    (ho : o.op = .call { callee := .builtin .append, args := #[s, x], argTypes := #[t, t] })
    (base : Nat) (e : TypeId) (i : TypeInfo) (z : Value) (bytes : Nat) (ht : P.underlying t = some (.slice e)) (hi : P.info? e = some i) (hz : i.zero = some z) (hz0 : z = .int .i64 0)
    (hsize : i.size = 1) (hby : i.bytes = bytes)
    (v : Value) (n : Nat) (xs : List Value) (hs : a.eval s = v) (hown : w.ownsRow base e 1 v n xs) (hall : ∀ g, v.ownBlock = some g → AllI w g) (hxs : ∀ v ∈ xs, ∃ k, v = .int .i64 k)
    (ad : Addr) (m c : Nat) (news : List Value) (hx : a.eval x = .slice (some ad) m c) (hl : news.length = m) (hnews : ∀ j u, news[j]? = some u → w.cell? (ad.add j) = some u) (hn : ∀ u ∈ news, ∃ k, u = .int .i64 k)
    (h63 : n + m ≤ maxLen) (hbytes : (n + m) * bytes ≤ 140737488355328) (hbase : base ≤ w.heap.size)
    (h : ∀ v' w', w'.ownsRow base e 1 v' (n + m) (xs ++ news) → w.grownBy w' v.ownBlock → (∀ g, v'.ownBlock = some g → AllI w' g) → wpList P ops Q rest (a.put o.dst v') w') : wpList P ops Q (o :: rest) a w := by
  refine wpList_plain hgd fun _ hK => ?_
  obtain ⟨v', w', hr, h2, h3, h4⟩ := run_append_ints (P := P) w base t o.type e i z bytes ht hi hz hz0 hsize hby v n xs hown hall hxs ad m c news hl hnews hn h63 hbytes hbase
  unfold Oper.wp execOp
  simp only [ho, resolve, invoke, builtin, Sem.run_bind, Sem.run_pure, Result.andThen_ok, List.map_toArray, List.map_cons, List.map_nil, hs, hx, hr]
  exact hK _ _ (h v' w' h2 h3 h4)

end Go.Proofs.YtbpnllhhmookcaaGreatDoor

/- What Numbers gives, and so what a store is answered, lies in new memory. -/
namespace Go.Proofs.YtbpnllhhmookcaaGreatDoor
open Go.RowKit Go.Shelf

/-- A slice whose block is none below B. -/
def New (B : Nat) (v : Value) : Prop := ∀ g n c, v = .slice (some g) n c → B ≤ g.block
theorem new_nil (B : Nat) : New B (.slice none 0 0) := fun _ _ _ e => by cases e
theorem New.mono {B B' : Nat} {v : Value} (h : New B v) (hb : B' ≤ B) : New B' v := fun g n c e => Nat.le_trans hb (h g n c e)

set_option maxHeartbeats 400000 in
theorem numbers_shortN (s : ByteArray) (w : World) (h3 : s.size < 3) :
    Calls Tryz.prog 58 #[.string s] w fun e w' => ∃ v, e = .returned (.tuple #[v, .int .i64 (numsT s.data.toList), .int .i64 (numsE s.data.toList)]) ∧ IntsIn w' v (numsL s.data.toList) ∧ Below w.heap.size w w' ∧ New w.heap.size v := by
  have hE := hid (nums_bad s.data.toList (by unfold numsB; simp [show ¬ 3 ≤ s.size by omega]))
  go_enter Tryz.func58, Tryz.ntmps58
  go_wp2
  go_ret3
  exact ⟨_, ret_nums hE.out.2, .inr ⟨rfl, hE.out.1⟩, Below.refl _ _, new_nil _⟩

set_option maxRecDepth 8000 in
set_option maxHeartbeats 1000000 in
theorem numbers_longN (s : ByteArray) (w : World) (hs : s.size ≤ maxLen) (h3 : 3 ≤ s.size) (n0 n1 n2 c : Nat) (e0 : s[0].toNat = n0) (e1 : s[1].toNat = n1) (e2 : s[2].toNat = n2)
    (b0 : n0 < 256) (b1 : n1 < 256) (b2 : n2 < 256) (hc : bits BinOp.or IntKind.i64 ((n1 : Int) * 256) (n2 : Int) = (c : Int)) (hcb : c < 65536)
    (hbad : (¬ n0 ≤ 10 ∨ ¬ s.size = 3 + 4 * c ∨ okN (s.extract 3 s.size).data.toList c = false) → numsL s.data.toList = [] ∧ numsT s.data.toList = 0 ∧ numsE s.data.toList = 1)
    (hgood : n0 ≤ 10 → s.size = 3 + 4 * c → okN (s.extract 3 s.size).data.toList c = true → numsL s.data.toList = (List.range c).map (fun i => ((numB (s.extract 3 s.size).data.toList (4 * i) : Nat) : Int)) ∧ numsT s.data.toList = n0 ∧ numsE s.data.toList = 0) :
    Calls Tryz.prog 58 #[.string s] w fun e w' => ∃ v, e = .returned (.tuple #[v, .int .i64 (numsT s.data.toList), .int .i64 (numsE s.data.toList)]) ∧ IntsIn w' v (numsL s.data.toList) ∧ Below w.heap.size w w' ∧ New w.heap.size v := by
  unfold maxLen at hs
  obtain ⟨i0, hi, hz0, hz1, hz2⟩ := info_parts Tryz.infoInt
  have HBad := hid hbad
  have HGood := hid hgood
  clear hbad hgood
  have g0 : 0 < s.size := by omega
  have g1 : (1 : Int) < (s.size : Int) := by omega
  have g2 : (2 : Int) < (s.size : Int) := by omega
  have g3 : (3 : Int) ≤ (s.size : Int) := by omega
  have g13 : decide ((s.size : Int) < 3) = false := by simp; omega
  by_cases h10 : n0 ≤ 10
  · have h10' : (n0 : Int) ≤ 10 := by omega
    have g10 : decide ((10 : Int) < (n0 : Int)) = false := by simp; omega
    by_cases hlen : s.size = 3 + 4 * c
    · have hlt : (((s.size - 3 : Nat) : Int) != (c : Int) * 4) = false := by rw [bne_eq_false_iff_eq]; omega
      have HBad2 := hid (fun h => HBad.out (.inr (.inr h)))
      have HGood2 := hid (HGood.out h10 hlen)
      have hsz : (s.extract 3 s.size).size + 3 = s.size := by simp; omega
      have hsz4 : 4 * c ≤ (s.extract 3 s.size).size := by omega
      have hsz5 : (s.extract 3 s.size).size < 300000 := by omega
      clear HBad HGood hlen hsz
      go_enter Tryz.func58, Tryz.ntmps58
      go_wp2_with fail
      go_quiet (fail)
      go_wp2_with fail
      go_quiet (fail)
      go_wp2_with (at_make; refine wpList_make_full _ rfl _ _ 36 rfl w.heap.size 3 i0 (.int .i64 0) 1 Tryz.underlying36 hi hz0 hz1 .i64 .i64 _ _ c rfl rfl rfl rfl (by rw [hz2]; omega) (by unfold maxLen; omega) (by simp) ?_; intro w0 hown0 hgrow0)
      generalize s.extract 3 s.size = t at *
      have hN := (own_hasN hown0).congr (fun j => numsG_zero t.data.toList j)
      have hsz0 : w.heap.size < w0.heap.size := by have := hown0.lt w.heap.size rfl; omega
      have hB0 : Below w.heap.size w w0 := Below.grown (below_drewN (Below.refl _ _) _) hgrow0 (by simp) (fun k hk => by cases hk)
      clear hown0 hgrow0
      go_wp2_with fail
      go_loopw [40] (fun i wr => ∃ m : Nat, m ≤ c ∧ i = .int .i64 m ∧ HasN wr w.heap.size c (numsG t.data.toList m) ∧ Below w.heap.size w wr ∧ okN t.data.toList m = true ∧ w.heap.size < wr.heap.size)
        (fun i _ => c - (intOf i).toNat)
      case atStart => exact ⟨0, Nat.zero_le _, rfl, hN, hB0, rfl, hsz0⟩
      case round =>
        clear hN hB0 hsz0
        obtain ⟨m, hm, rfl, hN, hbel, hok, hsz⟩ := hrel
        have HOK := hid hok
        clear hok
        by_cases hlt : m < c
        · have hnl := numB_lt t.data.toList (4 * m)
          have hco := hN.1 m hlt
          have hfz := hN.2 m
          by_cases hb : numB t.data.toList (4 * m) ≤ 1000000
          · have hst := hid (okN_step t.data.toList m HOK.out hb)
            have HS := hid (fun j => numsG_step t.data.toList m j)
            have hb' : ((numB t.data.toList (4 * m) : Nat) : Int) ≤ 1000000 := by omega
            go_wp2_with (go_at_call 84; refine (numberAt_any t m _ (by unfold maxLen; omega) (by omega)).mono ?_; rintro e w' ⟨rfl, nd, rfl⟩)
            go_roundw
            case rel => exact ⟨m + 1, by omega, by go_num, ((hN.drewN nd).set hlt _).congr HS.out, (below_drewN hbel nd).setCell (by simp) _, hst.out, by simpa using hsz⟩
            case measure => simp [intOf]; omega
          · have hE := hid (HBad2.out (okN_bad t.data.toList m c hlt hb))
            have hb' : (1000000 : Int) < ((numB t.data.toList (4 * m) : Nat) : Int) := by omega
            go_wp2_with (go_at_call 84; refine (numberAt_any t m _ (by unfold maxLen; omega) (by omega)).mono ?_; rintro e w' ⟨rfl, nd, rfl⟩)
            go_ret3
            exact ⟨_, ret_nums hE.out.2, .inr ⟨rfl, hE.out.1⟩, below_drewN hbel nd, new_nil _⟩
        · have hme : m = c := by omega
          subst hme
          have hE := hid (HGood2.out HOK.out)
          go_wp2
          go_ret3
          exact ⟨_, ret_nums hE.out.2, ints_of_hasN hN hsz hE.out.1, hbel, fun _ _ _ e => by cases e; exact Nat.le_refl _⟩
    · have hlt : (((s.size - 3 : Nat) : Int) != (c : Int) * 4) = true := by rw [bne_iff_ne]; omega
      have hE := hid (HBad.out (.inr (.inl hlen)))
      clear hlen
      go_enter Tryz.func58, Tryz.ntmps58
      go_wp2_with fail
      go_quiet (fail)
      go_wp2_with fail
      go_quiet (fail)
      go_wp2
      go_ret3
      exact ⟨_, ret_nums hE.out.2, .inr ⟨rfl, hE.out.1⟩, below_drewN (Below.refl _ _) _, new_nil _⟩
  · have h10' : (10 : Int) < (n0 : Int) := by omega
    have hE := hid (HBad.out (.inl h10))
    clear h10
    go_enter Tryz.func58, Tryz.ntmps58
    go_wp2_with fail
    go_quiet (fail)
    go_wp2_with fail
    go_quiet (fail)
    go_wp2
    go_ret3
    exact ⟨_, ret_nums hE.out.2, .inr ⟨rfl, hE.out.1⟩, below_drewN (Below.refl _ _) _, new_nil _⟩

theorem wnumsN_any (s : ByteArray) (w : World) (hs : s.size ≤ maxLen) :
    Calls Tryz.prog 58 #[.string s] w fun e w' => ∃ v, e = .returned (.tuple #[v, .int .i64 (numsT s.data.toList), .int .i64 (numsE s.data.toList)]) ∧ IntsIn w' v (numsL s.data.toList) ∧ Below w.heap.size w w' ∧ New w.heap.size v := by
  by_cases h3 : 3 ≤ s.size
  · have e1 := getD_bytes s 1 (by omega)
    have e2 := getD_bytes s 2 (by omega)
    have e0 := getD_bytes s 0 (by omega)
    have hl : s.data.toList.length = s.size := by simp
    have hcn : cnt s.data.toList = s[1].toNat * 256 + s[2].toNat := by unfold cnt; rw [e1, e2]
    have q1 := byte_lt s[1]
    have q2 := byte_lt s[2]
    refine numbers_longN s w hs h3 s[0].toNat s[1].toNat s[2].toNat (s[1].toNat * 256 + s[2].toNat) rfl rfl rfl (byte_lt _) q1 q2 (or2 _ _ q1 q2) (by omega) ?_ ?_
    · intro h
      refine nums_bad _ ?_
      unfold numsB
      rw [hcn, hl, e0, ← drop3 s]
      rcases h with h | h | h
      · simp [h]
      · simp [h]
      · rw [h]; simp
    · intro h1 h2 h4
      have := nums_good s.data.toList (by
        unfold numsB
        rw [hcn, hl, e0, ← drop3 s, h4, ← h2]; simp [h1, h3])
      rw [hcn, e0, ← drop3 s] at this
      exact this
  · exact numbers_shortN s w (by omega)


theorem numbersFN_any (s : ByteArray) (w : World) (hs : s.size ≤ maxLen) :
    Calls Tryz.prog 36 #[.string s] w fun e w' => ∃ v, e = .returned (.tuple #[v, .int .i64 (numsT s.data.toList), .int .i64 (numsE s.data.toList)]) ∧ IntsIn w' v (numsL s.data.toList) ∧ Below w.heap.size w w' ∧ New w.heap.size v := by
  go_enter Tryz.func36, Tryz.ntmps36
  go_wp2_with (go_at_call 58; refine (wnumsN_any s _ hs).mono ?_; rintro e w' ⟨v, rfl, hi, hb, hnew⟩)
  go_ret3
  exact ⟨_, rfl, hi, hb, hnew⟩


set_option maxRecDepth 8000 in
set_option maxHeartbeats 4000000 in
theorem sdoN_any (sb l : Nat) (v : Value) (p : Int) (L : Led) (m : Cm) (hm : encB m.ints = true) (w : World) (hS : StoreAt w sb l v p L) :
    Calls Tryz.prog 22 #[.pointer (some ⟨sb, 0, none⟩), m.val] w fun e w' => ∃ vv, e = .returned (.tuple #[vv, .int .i64 (L.stepE 32 m), .slice none 0 0]) ∧ IntsIn w' vv (L.stepN 32 m) ∧ StoreAt w' sb l v p (L.stepL 32 m) ∧ Keeps (fun k => k = l) w w' ∧ New w.heap.size vv := by
  obtain ⟨hb1, hb2⟩ := Cm.back hm
  have hmo : m.Ok := by have := Cm.of_ok hm; have e : Cm.of m.ints = m := rfl; rwa [e] at this
  have hfew : L.kvs.length < 7000 := by have := hS.led.few; omega
  have hE : encE m.ints = 0 := by simp [encE, hm]
  have hEs : (⟨(encS m.ints).toArray⟩ : ByteArray).size ≤ maxLen := by
    show (encS m.ints).toArray.size ≤ maxLen
    have := (enc_len m.ints hm).2
    simp only [List.size_toArray]; unfold maxLen; omega
  have HEn := hid (encodeF_any m.ints)
  rw [hE] at HEn
  simp only [Cm.ints] at HEn
  have HDo := hid (fun u (hu : StoreAt u sb l v p L) => do_any l L 32 ⟨(encS m.ints).toArray⟩ hEs u hu.led hu.inv)
  have e1 : L.fErr 32 (encS m.ints) = L.stepE 32 m ∧ L.fNum 32 (encS m.ints) = L.stepN 32 m ∧ L.fLed 32 (encS m.ints) = L.stepL 32 m := by simp [Led.fErr, Led.fNum, Led.fLed, hb1, hb2]
  rw [show (⟨(encS m.ints).toArray⟩ : ByteArray).data.toList = encS m.ints from rfl, e1.1, e1.2.1, e1.2.2] at HDo
  have hlen := Led.stepN_len (m := m) hfew 32
  have HNu := hid (fun u => numbersFN_any ⟨(replyL (L.stepE 32 m) (L.stepN 32 m)).toArray⟩ u (reply_size _ _ hlen))
  obtain ⟨n1, n2, n3⟩ := nums_reply (L.stepE 32 m) (L.stepN 32 m) (Led.stepE_range L 32 m) hlen (Led.stepN_range hS.inv hfew 32)
  rw [show (⟨(replyL (L.stepE 32 m) (L.stepN 32 m)).toArray⟩ : ByteArray).data.toList = replyL (L.stepE 32 m) (L.stepN 32 m) from rfl, n1, n2, n3] at HNu
  have HI := hid (Led.inv_step hS.inv hmo 32)
  have hb0 : Below w.heap.size w (w.alloc (.cells #[.int .i64 m.k, .int .i64 m.t, .int .i64 m.o, .int .i64 m.d, .int .i64 m.v, .int .i64 m.b, .int .i64 m.x, .int .i64 m.y, .int .i64 m.n] 31)) := (Below.refl _ w).alloc (Nat.le_refl _) _
  have HS := hid hS
  have HB := hid hb0
  clear hb1 hb2 hE hEs e1 hlen n1 n2 n3 hS hb0 hmo hm
  generalize (⟨(encS m.ints).toArray⟩ : ByteArray) = fr at *
  generalize (⟨(replyL (L.stepE 32 m) (L.stepN 32 m)).toArray⟩ : ByteArray) = rp at *
  generalize L.stepE 32 m = se at *
  generalize L.stepN 32 m = sn at *
  generalize L.stepL 32 m = L2 at *
  unfold Cm.val
  go_enter Tryz.func22, Tryz.ntmps22
  go_wp2_with fail
  refine (HEn.out _).mono ?_
  clear HEn
  rintro e w1 ⟨rfl, hb1⟩
  have hB1 : Below w.heap.size w w1 := HB.out.trans (hb1.mono HB.out.size)
  have hS1 := HS.out.below hB1
  have c0 := hS1.box.c0
  have HS1 := hid hS1
  clear hS1 HB hb1
  go_wp2_with fail
  refine (HDo.out _ HS1.out).mono ?_
  clear HDo
  rintro e w2 ⟨rfl, hA2, hk2⟩
  go_wp2_with fail
  refine (HNu.out _).mono ?_
  clear HNu
  rintro e w3 ⟨vv, rfl, hi3, hb3, hn3⟩
  go_wp2
  go_ret3
  have hbx2 : StoreBox w2 sb l v p := keeps_same hk2 HS1.out.ne HS1.out.box
  exact ⟨vv, rfl, hi3, StoreAt.below ⟨hbx2, hA2, HI.out, HS1.out.ne⟩ hb3, ((below_toKeeps hB1 (fun k => k = l)).trans hk2).trans (below_toKeeps hb3 _), hn3.mono (Nat.le_trans hB1.size hk2.size)⟩

set_option maxRecDepth 8000 in
set_option maxHeartbeats 4000000 in
theorem doneN_any (sb l : Nat) (v : Value) (p : Int) (L : Led) (m : Cm) (hm : encB m.ints = true) (w : World) (hS : StoreAt w sb l v p L) :
    Calls Tryz.prog 12 #[.pointer (some ⟨sb, 0, none⟩), m.val] w fun e w' => ∃ vv, e = .returned (.tuple #[vv, .int .i64 (L.stepE 32 m)]) ∧ IntsIn w' vv (L.stepN 32 m) ∧ StoreAt w' sb l v p (L.stepL 32 m) ∧ Keeps (fun k => k = l) w w' ∧ New w.heap.size vv := by
  have hb0 : Below w.heap.size w (w.alloc (.cells #[.int .i64 m.k, .int .i64 m.t, .int .i64 m.o, .int .i64 m.d, .int .i64 m.v, .int .i64 m.b, .int .i64 m.x, .int .i64 m.y, .int .i64 m.n] 31)) := (Below.refl _ w).alloc (Nat.le_refl _) _
  have HDo := hid (sdoN_any sb l v p L m hm _ (hS.below hb0))
  have HB := hid hb0
  clear hb0 hS hm
  generalize L.stepE 32 m = se at *
  generalize L.stepN 32 m = sn at *
  generalize L.stepL 32 m = L2 at *
  unfold Cm.val at *
  go_enter Tryz.func12, Tryz.ntmps12
  go_wp2_with fail
  refine HDo.out.mono ?_
  clear HDo
  rintro e w1 ⟨vv, rfl, hi1, hS1, hk1, hn1⟩
  go_wp2_with (go_at_call 23; refine (write_nil sb _ _).mono ?_; rintro e w' ⟨rfl, rfl⟩)
  go_ret2
  exact ⟨vv, rfl, hi1, hS1, (below_toKeeps HB.out _).trans hk1, hn1.mono HB.out.size⟩


theorem kdoneN_any (sb l : Nat) (p : Int) (L : Led) (m : Cm) (hm : encB m.ints = true) (w : World) (hS : KAt w sb l p L) :
    Calls Tryz.prog 12 #[.pointer (some ⟨sb, 0, none⟩), m.val] w fun e w' => ∃ vv, e = .returned (.tuple #[vv, .int .i64 (L.stepE 32 m)]) ∧ IntsIn w' vv (L.stepN 32 m) ∧ KAt w' sb l p (L.stepL 32 m) ∧ Keeps (fun k => k = l) w w' ∧ New w.heap.size vv := by
  obtain ⟨g, hS⟩ := hS
  refine (doneN_any sb l _ p L m hm w hS).mono ?_
  rintro e w' ⟨vv, rfl, h1, h2, h3⟩
  exact ⟨vv, rfl, h1, ⟨g, h2⟩, h3⟩


end Go.Proofs.YtbpnllhhmookcaaGreatDoor

/- firnkeep: shown: what it gathers, and what its rounds keep. -/
namespace Go.Proofs.YtbpnllhhmookcaaGreatDoor
open Go.RowKit Go.Shelf

theorem AllI.noNode {w : World} {g : Nat} (h : AllI w g) : NoNodeS w g := by
  refine ⟨fun a l c e => ?_, fun o k e => ?_⟩
  · obtain ⟨k, hk⟩ := h _ _ e; cases hk
  · obtain ⟨k', hk⟩ := h _ _ e; cases hk
theorem AllI.block {w w' : World} {g : Nat} (h : AllI w g) (e : w'.heap[g]? = w.heap[g]?) : AllI w' g := fun o v hv => h o v (by rw [← World.cell?_of_block (a := ⟨g, o, none⟩) e]; exact hv)

/-- A list of numbers that grows: its row is owned, and holds ints alone. -/
structure OutAt (w : World) (base : Nat) (v : Value) (zs : List Int) : Prop where
  own : w.ownsRow base 3 1 v zs.length (intCells zs)
  all : ∀ g, v.ownBlock = some g → AllI w g
theorem OutAt.nil (w : World) (base : Nat) : OutAt w base (.slice none 0 0) [] := ⟨World.ownsRow_nil w base _ 1, fun g hg => by simp [Value.ownBlock] at hg⟩
theorem OutAt.keeps {S : Nat → Prop} {w w' : World} {base : Nat} {v : Value} {zs : List Int} (h : OutAt w base v zs) (hk : Keeps S w w') (hs : ∀ g, v.ownBlock = some g → ¬ S g) : OutAt w' base v zs :=
  ⟨row_keeps h.own hk hs, fun g hg => (h.all g hg).block (hk.block g (h.own.lt g hg).2 (hs g hg))⟩
theorem OutAt.below {w w' : World} {base : Nat} {v : Value} {zs : List Int} (h : OutAt w base v zs) (hk : Below w.heap.size w w') : OutAt w' base v zs :=
  ⟨ownsRow_block h.own (fun g hg => hk.block g (h.own.lt g hg).2), fun g hg => (h.all g hg).block (hk.block g (h.own.lt g hg).2)⟩
theorem OutAt.ints {w : World} {base : Nat} {v : Value} {zs : List Int} (h : OutAt w base v zs) : IntsIn w v zs := own_intsIn h.own rfl

/-- A store is kept where one block grows that is none of it. -/
theorem KAt.grown {w w' : World} {sb l : Nat} {p : Int} {L : Led} {row : Option Nat} (h : KAt w sb l p L) (hg : w.grownBy w' row) (hr : ∀ b, row = some b → NoNodeS w b ∧ b ≠ sb ∧ b ≠ l) : KAt w' sb l p L := by
  obtain ⟨g, h⟩ := h
  have hks : Keeps (fun k => row = some k) w w' := (Keeps.refl _ w).grown hg (fun k e => .inl e)
  refine ⟨g, keeps_same hks (fun e => (hr _ e).2.1 rfl) h.box, ?_, h.inv, h.ne⟩
  obtain ⟨⟨r, n₀, h3, h4⟩, h5, h6, h7⟩ := h.led
  refine ⟨⟨r, n₀, keeps_same hks (fun e => (hr _ e).2.2 rfl) h3, h4.keptS (X := fun k => row = some k) hg.size (fun k o u' hk hc => ?_) (fun k hk => (hr k hk).1)⟩, h5, h6, h7⟩
  exact hg.cell hc (fun e => hk e.symm)

theorem intCells_all (zs : List Int) : ∀ u ∈ intCells zs, ∃ k, u = Value.int .i64 k := by
  intro u hu
  obtain ⟨z, _, rfl⟩ := List.mem_map.1 hu
  exact ⟨z, rfl⟩
theorem intCells_len (zs : List Int) : (intCells zs).length = zs.length := by simp [intCells]
theorem intCells_app (zs ys : List Int) : intCells zs ++ intCells ys = intCells (zs ++ ys) := by simp [intCells]
theorem add_zero_at (g j : Nat) : (⟨g, 0, none⟩ : Addr).add j = ⟨g, j, none⟩ := by unfold Addr.add; split <;> simp_all

/-- append of a list of numbers to one that grows. -/
theorem wpList_out {w : World} {ops : Array Oper} {rest : List Oper} {o : Oper} {a : Act} {Q : Exit → Act → World → Prop} (hgd : o.guard = none) (s x : Operand)
    (ho : o.op = .call { callee := .builtin .append, args := #[s, x], argTypes := #[36, 36] })
    {base : Nat} {v xv : Value} {zs ys : List Int} (hs : a.eval s = v) (hout : OutAt w base v zs) (hx : a.eval x = xv) (hxv : IntsIn w xv ys) (hlen : zs.length + ys.length ≤ 1000000) (hbase : base ≤ w.heap.size)
    (h : ∀ v' w', OutAt w' base v' (zs ++ ys) → w.grownBy w' v.ownBlock → wpList Tryz.prog ops Q rest (a.put o.dst v') w') : wpList Tryz.prog ops Q (o :: rest) a w := by
  obtain ⟨i0, hi, hz0, hz1, hz2⟩ := info_parts Tryz.infoInt
  rcases hxv with ⟨g, cap, rfl, hg, hc⟩ | ⟨rfl, rfl⟩
  · refine wpList_append_ints hgd s x 36 ho base 3 i0 (.int .i64 0) 8 Tryz.underlying36 hi hz0 rfl hz1 hz2 v zs.length (intCells zs) hs hout.own hout.all (intCells_all zs) ⟨g, 0, none⟩ ys.length cap (intCells ys) hx (intCells_len ys) ?_ (intCells_all ys) (by unfold maxLen; omega) (by omega) hbase ?_
    · intro j u hj
      rw [add_zero_at]
      have hj' : j < ys.length := by
        have := (List.getElem?_eq_some_iff.1 hj).1
        rwa [intCells_len] at this
      rw [hc j hj']
      simp only [intCells, List.getElem?_map, List.getElem?_eq_getElem hj', Option.map_some] at hj
      exact hj
    · intro v' w' ho' hg' ha'
      refine h v' w' ⟨?_, ha'⟩ hg'
      rw [List.length_append, ← intCells_app]
      exact ho'
  · refine wpList_append_own_none hgd s x 36 ho base 3 i0 1 Tryz.underlying36 hi v zs.length (intCells zs) hs hout.own hx ?_
    refine h v w (by rw [List.append_nil]; exact hout) ⟨rfl, rfl, rfl, Nat.le_refl _, fun _ _ _ => rfl⟩
theorem two_ints (w : World) (x y : Int) (t : TypeId) : IntsIn (w.alloc (.cells #[.int .i64 x, .int .i64 y] t)) (.slice (some ⟨w.heap.size, 0, none⟩) 2 2) [x, y] := by
  refine .inl ⟨w.heap.size, 2, rfl, by simp, fun i hi => ?_⟩
  simp only [World.cell?, heap_alloc_new]
  match i, hi with
  | 0, _ => rfl
  | 1, _ => rfl

/-- An answer, as shown writes it down. -/
def Led.ansL (L : Led) (m : Cm) : List Int := L.stepE 32 m :: ((L.stepN 32 m).length : Int) :: L.stepN 32 m
def Led.cmQ (k n : Nat) : Cm := ⟨k, n, 0, 0, 0, 0, 0, 0, 0⟩
/-- What is written of tube n, behind the questions below k. -/
def Led.partL (L : Led) (n k : Nat) : List Int := (if 12 < k then L.ansL (Led.cmQ 12 n) else []) ++ (if 15 < k then L.ansL (Led.cmQ 15 n) else []) ++ (if 16 < k then L.ansL (Led.cmQ 16 n) else [])
/-- What is written of the tubes below n. -/
def Led.tubesL (L : Led) : Nat → List Int
  | 0 => []
  | n + 1 => L.tubesL n ++ (if 1 ≤ n then L.partL n 17 else [])
def Led.boxesL (L : Led) : Nat → List Int
  | 0 => []
  | n + 1 => L.boxesL n ++ (if 1 ≤ n then L.ansL (Led.cmCont n) else [])
def Led.shownL (L : Led) : List Int := L.tubesL 13 ++ L.boxesL 3

theorem Led.cmQ_enc {k n : Nat} (hk : k = 12 ∨ k = 15 ∨ k = 16) (h : 1 ≤ n ∧ n ≤ 12) : encB (Led.cmQ k n).ints = true := by
  rcases hk with rfl | rfl | rfl
  · exact cmShow_enc h
  · exact Led.cmUp_enc h
  · exact Led.cmDown_enc h
theorem Led.ask_act (L : Led) (m : Cm) (h : m.k = 12 ∨ m.k = 13 ∨ m.k = 15 ∨ m.k = 16) : L.act m = L := by
  rcases h with h | h | h | h <;> simp [Led.act, h]
theorem Led.ask_step (L : Led) (m : Cm) (h : m.k = 12 ∨ m.k = 13 ∨ m.k = 15 ∨ m.k = 16) : L.stepL 32 m = L := by
  unfold Led.stepL
  rw [L.ask_act m h, ite_self]

theorem Led.part_same (L : Led) (n : Nat) {k : Nat} (h : k = 13 ∨ k = 14) : L.partL n (k + 1) = L.partL n k := by
  rcases h with rfl | rfl <;> simp [Led.partL]
theorem Led.part_next (L : Led) (n : Nat) {k : Nat} (h : k = 12 ∨ k = 15 ∨ k = 16) : L.partL n (k + 1) = L.partL n k ++ L.ansL (Led.cmQ k n) := by
  rcases h with rfl | rfl | rfl <;> simp [Led.partL]
theorem Led.part_start (L : Led) (n : Nat) : L.partL n 12 = [] := by simp [Led.partL]
theorem Led.tubes_next (L : Led) {n : Nat} (h : 1 ≤ n) : L.tubesL (n + 1) = L.tubesL n ++ L.partL n 17 := by
  show L.tubesL n ++ (if 1 ≤ n then _ else _) = _
  rw [if_pos h]
theorem Led.boxes_next (L : Led) {n : Nat} (h : 1 ≤ n) : L.boxesL (n + 1) = L.boxesL n ++ L.ansL (Led.cmCont n) := by
  show L.boxesL n ++ (if 1 ≤ n then _ else _) = _
  rw [if_pos h]
theorem memG_len (S : Nat → Bool) : (memG S).length ≤ 1000 := by
  have := memTo_len S 1000
  unfold memG
  omega
theorem Led.ask_len (L : Led) {k n : Nat} (hf : L.kvs.length ≤ 32) (h : k = 12 ∨ k = 15 ∨ k = 16) : (L.stepN 32 (Led.cmQ k n)).length ≤ 1000 := by
  rcases h with rfl | rfl | rfl
  · cases hq : L.tube n with
    | some q => rw [show L.stepN 32 (Led.cmQ 12 n) = showQ q from (show_some hq hf).2.1]; simp [showQ]
    | none => rw [show L.stepN 32 (Led.cmQ 12 n) = [] from (show_none hq).2.1]; simp
  · cases hq : L.tube n with
    | some q => rw [show L.stepN 32 (Led.cmQ 15 n) = natsI (L.above n) from (Led.up_some hq hf).2.1, natsI_len]; exact memG_len _
    | none => rw [show L.stepN 32 (Led.cmQ 15 n) = [] from (Led.up_none hq).2.1]; simp
  · cases hq : L.tube n with
    | some q => rw [show L.stepN 32 (Led.cmQ 16 n) = natsI (L.below n) from (Led.down_some hq hf).2.1, natsI_len]; exact memG_len _
    | none => rw [show L.stepN 32 (Led.cmQ 16 n) = [] from (Led.down_none hq).2.1]; simp

theorem Led.cont_len (L : Led) {b : Nat} (hI : L.Inv) (hb : 1 ≤ b) (hf : L.kvs.length ≤ 32) : (L.stepN 32 (Led.cmCont b)).length ≤ 96 := by
  rw [(Led.cont_step hI hb hf).1, Led.contQ_len]
  have h1 : (L.inB b).length ≤ L.ts.length := by unfold Led.inB; exact List.length_filter_le _ _
  have h2 : L.kvs.length = L.bs.length + L.ts.length + L.ps.length := by simp [Led.kvs]; omega
  omega

/-- What lies in memory at each round of shown: the store; the list that grows. -/
structure SH (w : World) (sb l : Nat) (p : Int) (L : Led) (ov : Value) (zs : List Int) (wr : World) : Prop where
  st : KAt wr sb l p L
  out : OutAt wr w.heap.size ov zs
  kp : Keeps (fun k => k = l) w wr
  lt : sb < w.heap.size ∧ l < w.heap.size
variable {w wr w' : World} {sb l : Nat} {p : Int} {L : Led} {ov : Value} {zs : List Int}
theorem SH.far (h : SH w sb l p L ov zs wr) : ∀ g, ov.ownBlock = some g → g ≠ sb ∧ g ≠ l := fun g hg => by
  have := (h.out.own.lt g hg).1
  have := h.lt
  omega
theorem SH.done (h : SH w sb l p L ov zs wr) (hs : KAt w' sb l p L) (hk : Keeps (fun k => k = l) wr w') : SH w sb l p L ov zs w' :=
  ⟨hs, h.out.keeps hk (fun g hg => (h.far g hg).2), h.kp.trans hk, h.lt⟩
theorem SH.below (h : SH w sb l p L ov zs wr) (hb : Below wr.heap.size wr w') : SH w sb l p L ov zs w' :=
  ⟨h.st.below hb, h.out.below hb, h.kp.trans ⟨hb.os, hb.tape, hb.output, hb.size, fun k hk _ => hb.block k hk⟩, h.lt⟩
theorem SH.grown {v' : Value} {ys : List Int} (h : SH w sb l p L ov zs wr) (ho : OutAt w' w.heap.size v' ys) (hg : wr.grownBy w' ov.ownBlock) : SH w sb l p L v' ys w' :=
  ⟨h.st.grown hg (fun b hb => ⟨(h.out.all b hb).noNode, h.far b hb⟩), ho, h.kp.grown hg (fun k hk => .inr (h.out.own.lt k hk).1), h.lt⟩
theorem IntsIn.grown {a b : World} {v : Value} {ys : List Int} {row : Option Nat} (h : IntsIn a v ys) (hg : a.grownBy b row) (hne : ∀ g n c, v = .slice (some g) n c → row ≠ some g.block) : IntsIn b v ys := by
  rcases h with ⟨g, cap, rfl, hl, hc⟩ | h
  · exact .inl ⟨g, cap, rfl, Nat.lt_of_lt_of_le hl hg.size, fun i hi => hg.cell (hc i hi) (fun e => hne _ _ _ rfl e.symm)⟩
  · exact .inr h
theorem SH.list {w5 w6 : World} (h : SH w sb l p L ov zs wr) {vv : Value} {ys : List Int} (hi : IntsIn w5 vv ys) (hn : New wr.heap.size vv) (o : Obj) (hg : (w5.alloc o).grownBy w6 ov.ownBlock) : IntsIn w6 vv ys := by
  refine (hi.below' ((Below.refl _ w5).alloc (Nat.le_refl _) o)).grown hg (fun g n c e he => ?_)
  have h1 := hn g n c e
  have h2 := (h.out.own.lt _ he).2
  omega

end Go.Proofs.YtbpnllhhmookcaaGreatDoor
