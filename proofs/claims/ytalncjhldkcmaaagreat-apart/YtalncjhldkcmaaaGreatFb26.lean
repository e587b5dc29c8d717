import Derived.Test.YtalncjhldkcmaaaGreatFb25
namespace Go.Proofs.YtalncjhldkcmaaaGreat
open _root_.Go.Proofs.Tryz
set_option maxHeartbeats 16000000
set_option maxRecDepth 8000
section
open Go.RowKit Go.Shelf
attribute [local go_sem] run_store_cplx
structure AskSt (w₀ w:World) (cb:Nat) (m:Cm) (rb:Nat) (q:PT) (r:Nat) (x:Int):Prop where
 cmd:Has w cb m.ints
 rcd:RecBox w rb q.cells
 ref:Boxed w r 187 (.int .i64 x)
 cr:cb≠r
 rr:rb≠r
 lt:cb<w.heap.size
 kp:Keeps (fun k=>k=r) w₀ w
structure AskCells (w:World) (cb:Nat) (m:Cm) (rb:Nat) (q:PT):Prop where
 c0:w.cell? ⟨cb,0,none⟩=some (.int .i64 m.k)
 c1:w.cell? ⟨cb,1,none⟩=some (.int .i64 m.t)
 c2:w.cell? ⟨cb,2,none⟩=some (.int .i64 m.o)
 c3:w.cell? ⟨cb,3,none⟩=some (.int .i64 m.d)
 c4:w.cell? ⟨cb,4,none⟩=some (.int .i64 m.v)
 c5:w.cell? ⟨cb,5,none⟩=some (.int .i64 m.b)
 c6:w.cell? ⟨cb,6,none⟩=some (.int .i64 m.x)
 c7:w.cell? ⟨cb,7,none⟩=some (.int .i64 m.y)
 d3:w.cell? ⟨rb,3,none⟩=some (.int .i64 q.status)
 d6:w.cell? ⟨rb,6,none⟩=some (.int .i64 q.left)
 d7:w.cell? ⟨rb,7,none⟩=some (.int .i64 q.used)
theorem AskSt.cells {w₀ w:World} {cb rb r:Nat} {m:Cm} {q:PT} {x:Int} (h:AskSt w₀ w cb m rb q r x):AskCells w cb m rb q :=
 ⟨h.cmd.1 0 (by omega),h.cmd.1 1 (by omega),h.cmd.1 2 (by omega),h.cmd.1 3 (by omega),h.cmd.1 4 (by omega),h.cmd.1 5 (by omega),h.cmd.1 6 (by omega),h.cmd.1 7 (by omega),h.rcd.cell 3,h.rcd.cell 6,h.rcd.cell 7⟩
theorem AskSt.keeps {w₀ w w':World} {cb rb r:Nat} {m:Cm} {q:PT} {x x':Int} (h:AskSt w₀ w cb m rb q r x) (hk:Keeps (fun k=>k=r) w w') (hx:Boxed w' r 187 (.int .i64 x')):AskSt w₀ w' cb m rb q r x' :=
 ⟨has_keeps h.cmd hk h.lt h.cr,keeps_same hk h.rr h.rcd,hx,h.cr,h.rr,Nat.lt_of_lt_of_le h.lt hk.size,h.kp.trans hk⟩
theorem ask_st {w₀ w:World} {cb rb r:Nat} {m:Cm} {q:PT} {x:Int} (h:AskSt w₀ w cb m rb q r x) (e:Int) (hh:Bool) :
  Calls prog 144 #[.pointer (some ⟨r,0,none⟩),.int .i64 e,.bool hh] w fun o w'=>o=.returned (.tuple #[])/\AskSt w₀ w' cb m rb q r (askI x e hh) :=
 (ask_any r x e hh w h.ref).mono fun _ _ ⟨h1,h2,h3⟩=>⟨h1,h.keeps h3 h2⟩
def AskEnds (r:Nat) (x:Int) (w:World) (o:Ending) (w':World):Prop:=o=.returned (.tuple #[])/\Boxed w' r 187 (.int .i64 x)/\Keeps (fun k=>k=r) w w'
theorem askTube_any (n₀ b r:Nat) (m:Cm) (hm:m.Ok) (L:Led) (x:Int) (w:World) (hT:TxL n₀ w b L) (hR:Boxed w r 187 (.int .i64 x)) :
  Calls prog 101 #[.pointer (some ⟨b,0,none⟩),m.val,.pointer (some ⟨r,0,none⟩)] w (AskEnds r (askAll x (L.asksT m)) w):=by
 have hC0:=Cm.has_new w 31 m
 have hb0:=Cm.hb w m
 have hs0:=Cm.hs w m
 have HTu:=hid (tube_led n₀ b m.t L _ (hT.below hb0) (by have:=hm.t;omega))
 have hrl:=hR.lt
 have hq:=Led.tubeD_ok hT.ok m.t
 have hu:=hq.used
 have hl:=hq.left
 have hv:=hm.v
 have hk:=hm.k
 have HX:=hid (show ∀ w1,Below (w.alloc (.cells #[.int .i64 m.k,.int .i64 m.t,.int .i64 m.o,.int .i64 m.d,.int .i64 m.v,.int .i64 m.b,.int .i64 m.x,.int .i64 m.y,.int .i64 m.n] 31)).heap.size (w.alloc (.cells #[.int .i64 m.k,.int .i64 m.t,.int .i64 m.o,.int .i64 m.d,.int .i64 m.v,.int .i64 m.b,.int .i64 m.x,.int .i64 m.y,.int .i64 m.n] 31)) w1 ->
   AskSt w (w1.alloc (.cells (L.tubeD m.t).cells 216)) w.heap.size m w1.heap.size (L.tubeD m.t) r x/\Has w1 w.heap.size m.ints/\w.heap.size+1<=w1.heap.size from fun w1 hb1=>by
  have hs1:=hb1.size
  have hc1:=hC0.below hb1 (by omega)
  have hb2:Below w1.heap.size w1 (w1.alloc (.cells (L.tubeD m.t).cells 216)):=bal
  have hB:Below w.heap.size w (w1.alloc (.cells (L.tubeD m.t).cells 216)):=(hb0.trans (hb1.mono (by omega))).trans (hb2.mono (by omega))
  exact ⟨⟨hc1.below hb2 (by omega),World.alloc_heap_new w1 _,boxed_below hR hB,by omega,by omega,by have:=hb2.size;omega,below_toKeeps hB _⟩,hc1,by omega⟩)
 clear hT hR hC0 hb0 hq hs0
 obtain ⟨k,t,o,d,v,bb,xx,y,n⟩:=m
 unfold Cm.val
 simp only at *
 have hkk:k=1\/k=2\/k=3\/k=4\/k=5\/k=6\/k=7\/k=8\/k=9\/k=10\/k=11\/k=12\/k=13\/k=14\/k=15\/k=16:=by omega
 have HG:=hid (show ∀ v,v=askAll x (L.asksT ⟨k,t,o,d,v,bb,xx,y,n⟩)->True from fun _ _=>trivial)
 generalize hqd:L.tubeD t=q at *
 have HQ:=hid hqd
 generalize hth:(L.tube t).isSome=th at *
 have HTh:=hid hth
 clear hqd hth hk HG
 simp only [PT.val,PT.cells,pl] at HTu
 go_enter func101,ntmps101
 go_wp2_with fail
 refine HTu.out.mono ?_
 clear HTu
 rintro e w1 ⟨rfl,hb1⟩
 obtain ⟨hS,hC,hsz⟩:=HX.out w1 hb1
 simp only [PT.cells,pl] at hS
 obtain ⟨c0,c1,c2,c3,c4,c5,c6,c7,d3,d6,d7⟩:=hS.cells
 have HS:=hid hS
 clear hS hC hb1 HX
 generalize hz:((k:Nat):Int)=z at c0
 rcases hkk with rfl | rfl | rfl | rfl | rfl | rfl | rfl | rfl | rfl | rfl | rfl | rfl | rfl | rfl | rfl | rfl
 all_goals (simp at hz;subst hz)
 case inr.inr.inr.inr.inr.inl =>
  by_cases h:q.left<v
  ·have hd:decide (q.left<v)=true:=decide_eq_true h
   have HA:=hid (show askAll x (L.asksT ⟨6,t,o,d,v,bb,xx,y,n⟩)=askI (askI (askI x 8 true) 7 ((q.status:Int) == 3)) 4 (!th) by
    rw [<- HQ.out] at hd
    show askI (askI (askI x 8 (decide ((L.tubeD t).left<v)||_)) 7 _) 4 _=_
    rw [hd,HQ.out,HTh.out];rfl)
   go_wp2_with (go_at_call 144;refine (ask_st HS.out _ _).mono ?_;rintro e w2 ⟨rfl,hS2⟩;have HS:=hid hS2;obtain ⟨c0,c1,c2,c3,c4,c5,c6,c7,d3,d6,d7⟩:=hS2.cells;clear hS2)
   go_end0
   exact ⟨rfl,by rw [HA.out];exact HS.out.ref,HS.out.kp⟩
  ·have hd:decide (q.left<v)=false:=decide_eq_false h
   have HA:=hid (show askAll x (L.asksT ⟨6,t,o,d,v,bb,xx,y,n⟩)=askI (askI (askI x 8 (decide (1000000<(q.used:Int)+v))) 7 ((q.status:Int) == 3)) 4 (!th) by
    rw [<- HQ.out] at hd
    show askI (askI (askI x 8 (decide ((L.tubeD t).left<v)||_)) 7 _) 4 _=_
    rw [hd,HQ.out,HTh.out];rfl)
   go_wp2_with (go_at_call 144;refine (ask_st HS.out _ _).mono ?_;rintro e w2 ⟨rfl,hS2⟩;have HS:=hid hS2;obtain ⟨c0,c1,c2,c3,c4,c5,c6,c7,d3,d6,d7⟩:=hS2.cells;clear hS2)
   go_end0
   exact ⟨rfl,by rw [HA.out];exact HS.out.ref,HS.out.kp⟩
 all_goals
  go_wp2_with (go_at_call 144;refine (ask_st HS.out _ _).mono ?_;rintro e w2 ⟨rfl,hS2⟩;have HS:=hid hS2;obtain ⟨c0,c1,c2,c3,c4,c5,c6,c7,d3,d6,d7⟩:=hS2.cells;clear hS2)
  go_end0
  have hq:=HQ.out
  have ht:=HTh.out
  subst hq ht
  exact ⟨rfl,HS.out.ref,HS.out.kp⟩
end
section
open Go.RowKit Go.Shelf
attribute [local go_sem] run_store_cplx
theorem TxL.keeps {n₀ b r:Nat} {L:Led} {w w':World} (h:TxL n₀ w b L) (hk:Keeps (fun k=>k=r) w w') (hn:n₀<=r) (hb:b≠r):TxL n₀ w' b L:=by
 obtain ⟨⟨⟨rt,h1,h2⟩,h3⟩,h4,h5⟩:=h
 exact ⟨⟨⟨rt,keeps_same hk hb h1,h2.below (hk.toBelow (fun k h=>by omega) h2.2.1)⟩,h3⟩,h4,h5⟩
theorem AskSt.below {w₀ w w':World} {cb rb r:Nat} {m:Cm} {q:PT} {x:Int} (h:AskSt w₀ w cb m rb q r x) (hb:Below w.heap.size w w'):AskSt w₀ w' cb m rb q r x :=
 ⟨h.cmd.below hb h.lt,h.rcd.below hb,boxed_below h.ref hb,h.cr,h.rr,Nat.lt_of_lt_of_le h.lt hb.size,h.kp.trans (below_toKeeps hb _)⟩
theorem AskSt.drew {w₀ w:World} {cb rb r:Nat} {m:Cm} {q:PT} {x:Int} (h:AskSt w₀ w cb m rb q r x):AskSt w₀ w.drew cb m rb q r x:=h.below ((Below.refl _ _).drew)
theorem askOther_any (n₀ b r:Nat) (m:Cm) (hm:m.Ok) (L:Led) (x:Int) (w:World) (hT:TxL n₀ w b L) (hR:Boxed w r 187 (.int .i64 x)) (hnr:n₀<=r) (hbr:b≠r) :
  Calls prog 102 #[.pointer (some ⟨b,0,none⟩),m.val,.pointer (some ⟨r,0,none⟩)] w (AskEnds r (askAll x (L.asksO m)) w):=by
 have hC0:=Cm.has_new w 31 m
 have hb0:=Cm.hb w m
 have hs0:=Cm.hs w m
 have HTu:=hid (tube_led n₀ b m.o L _ (hT.below hb0) (by have:=hm.o;omega))
 have HP:=hid (fun u (hu:Keeps (fun k=>k=r) w u)=>poured_led n₀ b m.t m.o L u (hT.keeps hu hnr hbr) (by have:=hm.t;omega) (by have:=hm.o;omega))
 have hrl:=hR.lt
 have hq:=Led.tubeD_ok hT.ok m.o
 have hl:=hq.left
 have hpl:=Led.pouredN_lt hT.ok m.t m.o
 have hv:=hm.v
 have hk:=hm.k
 have HX:=hid (show ∀ w1,Below (w.alloc (.cells #[.int .i64 m.k,.int .i64 m.t,.int .i64 m.o,.int .i64 m.d,.int .i64 m.v,.int .i64 m.b,.int .i64 m.x,.int .i64 m.y,.int .i64 m.n] 31)).heap.size (w.alloc (.cells #[.int .i64 m.k,.int .i64 m.t,.int .i64 m.o,.int .i64 m.d,.int .i64 m.v,.int .i64 m.b,.int .i64 m.x,.int .i64 m.y,.int .i64 m.n] 31)) w1 ->
   AskSt w (w1.alloc (.cells (L.tubeD m.o).cells 216)) w.heap.size m w1.heap.size (L.tubeD m.o) r x from fun w1 hb1=>by
  have hs1:=hb1.size
  have hc1:=hC0.below hb1 (by omega)
  have hb2:Below w1.heap.size w1 (w1.alloc (.cells (L.tubeD m.o).cells 216)):=bal
  have hB:Below w.heap.size w (w1.alloc (.cells (L.tubeD m.o).cells 216)):=(hb0.trans (hb1.mono (by omega))).trans (hb2.mono (by omega))
  exact ⟨hc1.below hb2 (by omega),World.alloc_heap_new w1 _,boxed_below hR hB,by omega,by omega,by have:=hb2.size;omega,below_toKeeps hB _⟩)
 clear hT hR hC0 hb0 hq hs0
 obtain ⟨k,t,o,d,v,bb,xx,y,n⟩:=m
 unfold Cm.val
 simp only at *
 have hkk:k=1\/k=2\/k=3\/k=4\/k=5\/k=6\/k=7\/k=8\/k=9\/k=10\/k=11\/k=12\/k=13\/k=14\/k=15\/k=16:=by omega
 generalize hqd:L.tubeD o=q at *
 have HQ:=hid hqd
 generalize hth:(L.tube o).isSome=th at *
 have HTh:=hid hth
 generalize hpd:L.pouredN t o=pd at *
 have HPd:=hid hpd
 clear hqd hth hk hpd
 have hwr:IntKind.i64.wrap ((pd:Int)+(v:Int))=(pd:Int)+(v:Int):=wraps63 _ (by omega) (by omega)
 simp only [PT.val,PT.cells,pl] at HTu
 go_enter func102,ntmps102
 go_wp2_with fail
 refine HTu.out.mono ?_
 clear HTu
 rintro e w1 ⟨rfl,hb1⟩
 have hS:=HX.out w1 hb1
 simp only [PT.cells,pl] at hS
 obtain ⟨c0,c1,c2,c3,c4,c5,c6,c7,d3,d6,d7⟩:=hS.cells
 have HS:=hid hS
 clear hS hb1 HX
 generalize hz:((k:Nat):Int)=z at c0
 rcases hkk with rfl | rfl | rfl | rfl | rfl | rfl | rfl | rfl | rfl | rfl | rfl | rfl | rfl | rfl | rfl | rfl
 all_goals (simp at hz;subst hz)
 case inr.inr.inr.inr.inl =>
  go_wp2_with (go_at_call 144;refine (ask_st HS.out _ _).mono ?_;rintro e w2 ⟨rfl,hS2⟩;have HS:=hid hS2;obtain ⟨c0,c1,c2,c3,c4,c5,c6,c7,d3,d6,d7⟩:=hS2.cells;clear hS2)
  go_region_with (first
   | (go_at_call 145;refine (HP.out _ HS.out.drew.kp).mono ?_;rintro e w3 ⟨rfl,hb3⟩;have hS3:=HS.out.drew.below hb3;have HS:=hid hS3;obtain ⟨c0,c1,c2,c3,c4,c5,c6,c7,d3,d6,d7⟩:=hS3.cells;clear hS3 hb3)
   | (go_at_call 144;refine (ask_st HS.out _ _).mono ?_;rintro e w2 ⟨rfl,hS2⟩;have HS:=hid hS2;obtain ⟨c0,c1,c2,c3,c4,c5,c6,c7,d3,d6,d7⟩:=hS2.cells;clear hS2))
  all_goals
   go_wp2_with (go_at_call 144;refine (ask_st HS.out _ _).mono ?_;rintro e w2 ⟨rfl,hS2⟩;have HS:=hid hS2;obtain ⟨c0,c1,c2,c3,c4,c5,c6,c7,d3,d6,d7⟩:=hS2.cells;clear hS2)
   go_end0
   have hq:=HQ.out
   have ht:=HTh.out
   have hp:=HPd.out
   subst hq ht hp
   exact ⟨rfl,HS.out.ref,HS.out.kp⟩
 all_goals
  go_wp2_with (go_at_call 144;refine (ask_st HS.out _ _).mono ?_;rintro e w2 ⟨rfl,hS2⟩;have HS:=hid hS2;obtain ⟨c0,c1,c2,c3,c4,c5,c6,c7,d3,d6,d7⟩:=hS2.cells;clear hS2)
  go_end0
  have hq:=HQ.out
  have ht:=HTh.out
  subst hq ht
  exact ⟨rfl,HS.out.ref,HS.out.kp⟩
end
section
open Go.RowKit Go.Shelf
attribute [local go_sem] run_store_cplx
structure AskS (w₀ w:World) (cb:Nat) (m:Cm) (r:Nat) (x:Int):Prop where
 cmd:Has w cb m.ints
 ref:Boxed w r 187 (.int .i64 x)
 cr:cb≠r
 lt:cb<w.heap.size
 kp:Keeps (fun k=>k=r) w₀ w
structure AskC (w:World) (cb:Nat) (m:Cm):Prop where
 c0:w.cell? ⟨cb,0,none⟩=some (.int .i64 m.k)
 c1:w.cell? ⟨cb,1,none⟩=some (.int .i64 m.t)
 c3:w.cell? ⟨cb,3,none⟩=some (.int .i64 m.d)
 c5:w.cell? ⟨cb,5,none⟩=some (.int .i64 m.b)
 c6:w.cell? ⟨cb,6,none⟩=some (.int .i64 m.x)
 c7:w.cell? ⟨cb,7,none⟩=some (.int .i64 m.y)
theorem AskS.cells {w₀ w:World} {cb r:Nat} {m:Cm} {x:Int} (h:AskS w₀ w cb m r x):AskC w cb m :=
 ⟨h.cmd.1 0 (by omega),h.cmd.1 1 (by omega),h.cmd.1 3 (by omega),h.cmd.1 5 (by omega),h.cmd.1 6 (by omega),h.cmd.1 7 (by omega)⟩
theorem AskS.below {w₀ w w':World} {cb r:Nat} {m:Cm} {x:Int} (h:AskS w₀ w cb m r x) (hb:Below w.heap.size w w'):AskS w₀ w' cb m r x :=
 ⟨h.cmd.below hb h.lt,boxed_below h.ref hb,h.cr,Nat.lt_of_lt_of_le h.lt hb.size,h.kp.trans (below_toKeeps hb _)⟩
theorem AskS.drew {w₀ w:World} {cb r:Nat} {m:Cm} {x:Int} (h:AskS w₀ w cb m r x):AskS w₀ w.drew cb m r x:=h.below ((Below.refl _ _).drew)
theorem ask_s {w₀ w:World} {cb r:Nat} {m:Cm} {x:Int} (h:AskS w₀ w cb m r x) (e:Int) (hh:Bool) :
  Calls prog 144 #[.pointer (some ⟨r,0,none⟩),.int .i64 e,.bool hh] w fun o w'=>o=.returned (.tuple #[])/\AskS w₀ w' cb m r (askI x e hh) :=
 (ask_any r x e hh w h.ref).mono fun _ _ ⟨h1,h2,h3⟩=>⟨h1,has_keeps h.cmd h3 h.lt h.cr,h2,h.cr,Nat.lt_of_lt_of_le h.lt h3.size,h.kp.trans h3⟩
theorem AskS.new {w:World} {r:Nat} {m:Cm} {x:Int} (hR:Boxed w r 187 (.int .i64 x)):AskS w (w.alloc (.cells #[.int .i64 m.k,.int .i64 m.t,.int .i64 m.o,.int .i64 m.d,.int .i64 m.v,.int .i64 m.b,.int .i64 m.x,.int .i64 m.y,.int .i64 m.n] 31)) w.heap.size m r x:=by
 have hb0:=Cm.hb w m
 exact ⟨Cm.has_new w _ m,boxed_below hR hb0,by have:=hR.lt;omega,by simp,below_toKeeps hb0 _⟩
theorem askDonor_any (n₀ b r:Nat) (m:Cm) (hm:m.Ok) (L:Led) (x:Int) (w:World) (hT:TxL n₀ w b L) (hR:Boxed w r 187 (.int .i64 x)) (hnr:n₀<=r) (hbr:b≠r) :
  Calls prog 103 #[.pointer (some ⟨b,0,none⟩),m.val,.pointer (some ⟨r,0,none⟩)] w (AskEnds r (askAll x (L.asksD m)) w):=by
 have hS:=AskS.new (m:=m) hR
 have HO:=hid (fun u (hu:Keeps (fun k=>k=r) w u)=>ofD_any n₀ b m.d L.kvs L.ts hT.toks (Led.sel_ts hT.ok) (by have:=hT.fewT;omega) u (hT.keeps hu hnr hbr).tx)
 have hrl:=hR.lt
 have hk:=hm.k
 clear hT hR
 obtain ⟨k,t,o,d,v,bb,xx,y,n⟩:=m
 unfold Cm.val
 simp only at *
 have hkk:k=1\/k=2\/k=3\/k=4\/k=5\/k=6\/k=7\/k=8\/k=9\/k=10\/k=11\/k=12\/k=13\/k=14\/k=15\/k=16:=by omega
 obtain ⟨c0,c1,c3,c5,c6,c7⟩:=hS.cells
 have HS:=hid hS
 clear hS hk
 generalize hz:((k:Nat):Int)=z at c0
 generalize hln:(ofN d L.ts).length=ln at *
 have HL:=hid hln
 have HF:=hid (show ∀ (B:Nat) (u:World) (vv:Value),u.ownsRow B 3 1 vv ln (intCells (ofN d L.ts))->∃ oa cap,vv=.slice oa ln cap from fun B u vv h=>by
  rcases h.2 with ⟨hv,h0⟩ | ⟨g',cap',cur',rfl,_⟩
  ·exact ⟨none,0,by rw [hv,h0]⟩
  ·exact ⟨_,_,rfl⟩)
 clear hln
 go_enter func103,ntmps103
 rcases hkk with rfl | rfl | rfl | rfl | rfl | rfl | rfl | rfl | rfl | rfl | rfl | rfl | rfl | rfl | rfl | rfl
 all_goals (simp at hz;subst hz)
 all_goals
  go_wp2_with (first
   | (go_at_call 118;refine (HO.out _ HS.out.kp).mono ?_;rintro e w2 ⟨vv,rfl,hrow,hb2⟩;obtain ⟨oa,cap,rfl⟩:=HF.out _ _ _ hrow;have HS:=hid (HS.out.below hb2);clear hrow hb2)
   | (go_at_call 144;refine (ask_s HS.out _ _).mono ?_;rintro e w2 ⟨rfl,hS2⟩;have HS:=hid hS2;clear hS2))
  go_end0
  have hl:=HL.out
  subst hl
  exact ⟨rfl,HS.out.ref,HS.out.kp⟩
end
end Go.Proofs.YtalncjhldkcmaaaGreat
