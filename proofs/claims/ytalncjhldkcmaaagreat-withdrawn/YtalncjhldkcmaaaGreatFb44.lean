import Derived.Test.YtalncjhldkcmaaaGreatFb36
import Derived.Test.YtalncjhldkcmaaaGreatFb35
namespace Go.Proofs.YtalncjhldkcmaaaGreat
open Classical
open _root_.Go.Proofs.Tryz
set_option maxHeartbeats 16000000
set_option maxRecDepth 8000
section
open Go.RowKit Go.Shelf
variable {B b:Nat} {w w':World} {vt vp:Value} {L:Led} {k:Bk} {m:Cm}
theorem bdo_show (h:BkF B w b vt vp L k) (hI:L.Inv) (_hm:m.Ok) (hk:((m.k:Nat):Int)=12) (he:L.err m=0) (_hB:B<=w.heap.size):Calls prog 63 #[.pointer (some ⟨b,0,none⟩),m.val] w (DoPost B w b L m):=by
 have hC0:=Cm.has_new w 31 m
 have hb0:=Cm.hb w m
 have hlt0:=has_new_lt w m
 have hF0:=h.below hb0
 have hK0:=hF0.bk
 have hkn:m.k=12:=by omega
 unfold Cm.val
 rw [hk] at hC0 hb0 hF0 hK0 hlt0 ⊢
 go_enter func63,ntmps63
 go_wp2_with (go_at_call 90;refine (find_any b _ _ k _ _ hK0).mono ?_;rintro e w' ⟨rfl,rfl⟩)
 generalize w.alloc (.cells #[.int .i64 12,.int .i64 m.t,.int .i64 m.o,.int .i64 m.d,.int .i64 m.v,.int .i64 m.b,.int .i64 m.x,.int .i64 m.y,.int .i64 m.n] 31)=w1 at *
 obtain ⟨q,hq,hD⟩:=Led.tube_of (Led.noShow he (by omega))
 obtain ⟨i,hi,ei,hf⟩:=h.sim.find_some hI.ok hq
 have hil:i<k.tubes.length:=by rw [h.sim.tubes,List.length_map];exact hi
 have HT:=hid (tells_show b vt vp k m.ints i w1 hK0 hk hf hil)
 have HTl:=hid (show L.tell m=showL k.tubes[i] by
  have e1:k.tubes[i]=tF L.ts[i]:=by have:=h.sim.at hi;rwa [getD_T hil] at this
  rw [e1,ei,show_tF]
  simp [Led.tell,hkn,hD])
 simp only [Cm.ints] at HT
 rw [hk] at HT
 obtain ⟨c0,c1,c2,c3,c4,c5,c6,c7,c8⟩:=hC0.nine
 simp only [Cm.ints] at c0 c1 c2 c3 c4 c5 c6 c7 c8
 rw [hk] at c0
 have HF:=hid hF0
 have HB0:=hid hb0
 have HA:=hid (show L.act m=L by simp [Led.act,hkn])
 clear hC0 hF0 hK0 hb0
 go_wp2_with fail
 refine HT.out.mono ?_
 clear HT
 rintro e w2 ⟨v,rfl,hi2,hb2⟩
 go_wp2
 go_ret
 exact ⟨v,rfl,by rw [HTl.out];exact hi2,by rw [HA.out];exact ⟨_,_,_,HF.out.below hb2⟩,(kp_new HB0.out).trans (below_toKeeps hb2 _)⟩
theorem bdo_cont (h:BkF B w b vt vp L k) (_hI:L.Inv) (_hm:m.Ok) (hk:((m.k:Nat):Int)=13) (_he:L.err m=0) (_hB:B<=w.heap.size):Calls prog 63 #[.pointer (some ⟨b,0,none⟩),m.val] w (DoPost B w b L m):=by
 have hC0:=Cm.has_new w 31 m
 have hb0:=Cm.hb w m
 have hlt0:=has_new_lt w m
 have hF0:=h.below hb0
 have hK0:=hF0.bk
 have hkn:m.k=13:=by omega
 unfold Cm.val
 rw [hk] at hC0 hb0 hF0 hK0 hlt0 ⊢
 go_enter func63,ntmps63
 go_wp2_with (go_at_call 90;refine (find_any b _ _ k _ _ hK0).mono ?_;rintro e w' ⟨rfl,rfl⟩)
 generalize w.alloc (.cells #[.int .i64 13,.int .i64 m.t,.int .i64 m.o,.int .i64 m.d,.int .i64 m.v,.int .i64 m.b,.int .i64 m.x,.int .i64 m.y,.int .i64 m.n] 31)=w1 at *
 have HT:=hid (tells_content b vt vp k m.ints w1 hK0 hk)
 have HTl:=hid (show L.tell m=contL k.tubes (m.b:Nat) by rw [h.sim.tells_cont];simp [Led.tell,hkn])
 simp only [Cm.ints] at HT
 rw [hk] at HT
 obtain ⟨c0,c1,c2,c3,c4,c5,c6,c7,c8⟩:=hC0.nine
 simp only [Cm.ints] at c0 c1 c2 c3 c4 c5 c6 c7 c8
 rw [hk] at c0
 have HF:=hid hF0
 have HB0:=hid hb0
 have HA:=hid (show L.act m=L by simp [Led.act,hkn])
 clear hC0 hF0 hK0 hb0
 go_wp2_with fail
 refine HT.out.mono ?_
 clear HT
 rintro e w2 ⟨v,rfl,hi2,hb2⟩
 go_wp2
 go_ret
 exact ⟨v,rfl,by rw [HTl.out];exact hi2,by rw [HA.out];exact ⟨_,_,_,HF.out.below hb2⟩,(kp_new HB0.out).trans (below_toKeeps hb2 _)⟩
theorem bdo_of (h:BkF B w b vt vp L k) (_hI:L.Inv) (_hm:m.Ok) (hk:((m.k:Nat):Int)=14) (_he:L.err m=0) (_hB:B<=w.heap.size):Calls prog 63 #[.pointer (some ⟨b,0,none⟩),m.val] w (DoPost B w b L m):=by
 have hC0:=Cm.has_new w 31 m
 have hb0:=Cm.hb w m
 have hlt0:=has_new_lt w m
 have hF0:=h.below hb0
 have hK0:=hF0.bk
 have hkn:m.k=14:=by omega
 unfold Cm.val
 rw [hk] at hC0 hb0 hF0 hK0 hlt0 ⊢
 go_enter func63,ntmps63
 go_wp2_with (go_at_call 90;refine (find_any b _ _ k _ _ hK0).mono ?_;rintro e w' ⟨rfl,rfl⟩)
 generalize w.alloc (.cells #[.int .i64 14,.int .i64 m.t,.int .i64 m.o,.int .i64 m.d,.int .i64 m.v,.int .i64 m.b,.int .i64 m.x,.int .i64 m.y,.int .i64 m.n] 31)=w1 at *
 have HT:=hid (tells_of b vt vp k m.ints w1 hK0 hk)
 have HTl:=hid (show L.tell m=askL k.tubes (markD k.tubes (m.d:Nat)) by rw [h.sim.tells_of];simp [Led.tell,hkn])
 simp only [Cm.ints] at HT
 rw [hk] at HT
 obtain ⟨c0,c1,c2,c3,c4,c5,c6,c7,c8⟩:=hC0.nine
 simp only [Cm.ints] at c0 c1 c2 c3 c4 c5 c6 c7 c8
 rw [hk] at c0
 have HF:=hid hF0
 have HB0:=hid hb0
 have HA:=hid (show L.act m=L by simp [Led.act,hkn])
 clear hC0 hF0 hK0 hb0
 go_wp2_with fail
 refine HT.out.mono ?_
 clear HT
 rintro e w2 ⟨v,rfl,hi2,hb2⟩
 go_wp2
 go_ret
 exact ⟨v,rfl,by rw [HTl.out];exact hi2,by rw [HA.out];exact ⟨_,_,_,HF.out.below hb2⟩,(kp_new HB0.out).trans (below_toKeeps hb2 _)⟩
theorem bdo_up (h:BkF B w b vt vp L k) (hI:L.Inv) (_hm:m.Ok) (hk:((m.k:Nat):Int)=15) (he:L.err m=0) (_hB:B<=w.heap.size):Calls prog 63 #[.pointer (some ⟨b,0,none⟩),m.val] w (DoPost B w b L m):=by
 have hC0:=Cm.has_new w 31 m
 have hb0:=Cm.hb w m
 have hlt0:=has_new_lt w m
 have hF0:=h.below hb0
 have hK0:=hF0.bk
 have hkn:m.k=15:=by omega
 unfold Cm.val
 rw [hk] at hC0 hb0 hF0 hK0 hlt0 ⊢
 go_enter func63,ntmps63
 go_wp2_with (go_at_call 90;refine (find_any b _ _ k _ _ hK0).mono ?_;rintro e w' ⟨rfl,rfl⟩)
 generalize w.alloc (.cells #[.int .i64 15,.int .i64 m.t,.int .i64 m.o,.int .i64 m.d,.int .i64 m.v,.int .i64 m.b,.int .i64 m.x,.int .i64 m.y,.int .i64 m.n] 31)=w1 at *
 obtain ⟨q,hq,hD⟩:=Led.tube_of (Led.noShow he (by omega))
 obtain ⟨i,hi,ei,hf⟩:=h.sim.find_some hI.ok hq
 have hil:i<k.tubes.length:=by rw [h.sim.tubes,List.length_map];exact hi
 have HT:=hid (tells_way b vt vp k m.ints false i w1 hK0 (h.sim.wired hI) hk hf hil)
 have HTl:=hid (show L.tell m=askL k.tubes (reachL k (markOne k.tubes.length i) false) by
  rw [h.sim.tells_up hI hi (n:=m.t) (by rw [ei])]
  simp [Led.tell,hkn])
 simp only [Cm.ints] at HT
 rw [hk] at HT
 obtain ⟨c0,c1,c2,c3,c4,c5,c6,c7,c8⟩:=hC0.nine
 simp only [Cm.ints] at c0 c1 c2 c3 c4 c5 c6 c7 c8
 rw [hk] at c0
 have HF:=hid hF0
 have HB0:=hid hb0
 have HA:=hid (show L.act m=L by simp [Led.act,hkn])
 clear hC0 hF0 hK0 hb0
 go_wp2_with fail
 refine HT.out.mono ?_
 clear HT
 rintro e w2 ⟨v,rfl,hi2,hb2⟩
 go_wp2
 go_ret
 exact ⟨v,rfl,by rw [HTl.out];exact hi2,by rw [HA.out];exact ⟨_,_,_,HF.out.below hb2⟩,(kp_new HB0.out).trans (below_toKeeps hb2 _)⟩
theorem bdo_down (h:BkF B w b vt vp L k) (hI:L.Inv) (_hm:m.Ok) (hk:((m.k:Nat):Int)=16) (he:L.err m=0) (_hB:B<=w.heap.size):Calls prog 63 #[.pointer (some ⟨b,0,none⟩),m.val] w (DoPost B w b L m):=by
 have hC0:=Cm.has_new w 31 m
 have hb0:=Cm.hb w m
 have hlt0:=has_new_lt w m
 have hF0:=h.below hb0
 have hK0:=hF0.bk
 have hkn:m.k=16:=by omega
 unfold Cm.val
 rw [hk] at hC0 hb0 hF0 hK0 hlt0 ⊢
 go_enter func63,ntmps63
 go_wp2_with (go_at_call 90;refine (find_any b _ _ k _ _ hK0).mono ?_;rintro e w' ⟨rfl,rfl⟩)
 generalize w.alloc (.cells #[.int .i64 16,.int .i64 m.t,.int .i64 m.o,.int .i64 m.d,.int .i64 m.v,.int .i64 m.b,.int .i64 m.x,.int .i64 m.y,.int .i64 m.n] 31)=w1 at *
 obtain ⟨q,hq,hD⟩:=Led.tube_of (Led.noShow he (by omega))
 obtain ⟨i,hi,ei,hf⟩:=h.sim.find_some hI.ok hq
 have hil:i<k.tubes.length:=by rw [h.sim.tubes,List.length_map];exact hi
 have HT:=hid (tells_way b vt vp k m.ints true i w1 hK0 (h.sim.wired hI) hk hf hil)
 have HTl:=hid (show L.tell m=askL k.tubes (reachL k (markOne k.tubes.length i) true) by
  rw [h.sim.tells_down hI hi (n:=m.t) (by rw [ei])]
  simp [Led.tell,hkn])
 simp only [Cm.ints] at HT
 rw [hk] at HT
 obtain ⟨c0,c1,c2,c3,c4,c5,c6,c7,c8⟩:=hC0.nine
 simp only [Cm.ints] at c0 c1 c2 c3 c4 c5 c6 c7 c8
 rw [hk] at c0
 have HF:=hid hF0
 have HB0:=hid hb0
 have HA:=hid (show L.act m=L by simp [Led.act,hkn])
 clear hC0 hF0 hK0 hb0
 go_wp2_with fail
 refine HT.out.mono ?_
 clear HT
 rintro e w2 ⟨v,rfl,hi2,hb2⟩
 go_wp2
 go_ret
 exact ⟨v,rfl,by rw [HTl.out];exact hi2,by rw [HA.out];exact ⟨_,_,_,HF.out.below hb2⟩,(kp_new HB0.out).trans (below_toKeeps hb2 _)⟩
end
end Go.Proofs.YtalncjhldkcmaaaGreat
