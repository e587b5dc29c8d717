import Derived.Test.YtalncjhldkcmaaaGreatFb36
import Derived.Test.YtalncjhldkcmaaaGreatFb35
import Derived.Test.YtalncjhldkcmaaaGreatFb40
import Derived.Test.YtalncjhldkcmaaaGreatFb43
import Derived.Test.YtalncjhldkcmaaaGreatFb44
import Derived.Test.YtalncjhldkcmaaaGreatFb01
namespace Go.Proofs.YtalncjhldkcmaaaGreat
open _root_.Go.Proofs.Tryz
set_option maxHeartbeats 16000000
set_option maxRecDepth 8000
section
open Go.RowKit Go.Shelf
variable {B b:Nat} {w w':World} {vt vp:Value} {L:Led} {k:Bk} {m:Cm}
theorem bdo_ali (h:BkF B w b vt vp L k) (hI:L.Inv) (hm:m.Ok) (hk:((m.k:Nat):Int)=4) (he:L.err m=0) (_hB:B<=w.heap.size) (hf':L.kvs.length<=1000):Calls prog 63 #[.pointer (some ⟨b,0,none⟩),m.val] w (DoPost B w b L m):=by
 obtain ⟨q,hq,hD⟩:=Led.tube_of ((Led.no4 he (by omega)).2.2.2.1)
 obtain ⟨oa,cap,rfl,_⟩:=h.bk.tubes.form
 have hC0:=Cm.has_new w 31 m
 have hb0:=Cm.hb w m
 have hlt0:=has_new_lt w m
 have hF0:=h.below hb0
 have hK0:=hF0.bk
 have hkn:m.k=4:=by omega
 unfold Cm.val
 rw [hk] at hC0 hb0 hF0 hK0 hlt0 ⊢
 go_enter func63,ntmps63
 go_wp2_with fail
 refine (find_any b _ _ k _ _ hK0).mono ?_
 rintro e w' ⟨rfl,rfl⟩
 generalize w.alloc (.cells #[.int .i64 4,.int .i64 m.t,.int .i64 m.o,.int .i64 m.d,.int .i64 m.v,.int .i64 m.b,.int .i64 m.x,.int .i64 m.y,.int .i64 m.n] 31)=w1 at *
 have c0:=hC0.1 0 (by omega)
 have c1:=hC0.1 1 (by omega)
 have c2:=hC0.1 2 (by omega)
 have c4:=hC0.1 4 (by omega)
 have c5:=hC0.1 5 (by omega)
 have c6:=hC0.1 6 (by omega)
 have c7:=hC0.1 7 (by omega)
 simp only [Cm.ints] at c0 c1 c2 c4 c5 c6 c7
 rw [hk] at c0
 obtain ⟨i,hi,ei,hf⟩:=h.sim.find_some hI.ok hq
 have hil:i<k.tubes.length:=by rw [h.sim.tubes,List.length_map];exact hi
 have e1:k.tubes[i]=tF (m.t,q):=by have:=h.sim.at hi;rw [getD_T hil,ei] at this;exact this
 obtain ⟨g,rfl,hn,hcap,hgl,t0,t1,t2,t3,t4,t5,t6,t7,t8,t9,t10,hfz⟩:=hK0.tube hil
 rw [e1] at t0 t1 t2 t3 t4 t5 t6 t7 t8 t9 t10
 simp only [tF] at t0 t1 t2 t3 t4 t5 t6 t7 t8 t9 t10
 rw [hf]
 have hct:=hK0.ct
 have hbl:=h.bk.lt
 have hg:(Value.slice (some ⟨g,0,none⟩) k.tubes.length cap).ownBlock=some g:=rfl
 have hgw:=h.bk.own_lt (g:=g) (.inr (.inl rfl))
 have hgb:¬ g=b:=fun e=>hK0.nt (by rw [<- e];rfl)
 have hbg:¬ b=g:=fun e=>hgb e.symm
 have hgc:¬ g=w.heap.size:=by omega
 have hcg:¬ w.heap.size=g:=by omega
 have hbc:¬ b=w.heap.size:=by omega
 have hi':(i:Int)<(k.tubes.length:Int):=by omega
 have hfB:=h.ft g rfl
 obtain ⟨n1,n2,n3,n4,n5⟩:=Led.no4 he hkn
 rw [hD] at n2 n3
 have hmo:1<=m.o/\m.o<=999:=⟨hm.o1 (by omega),hm.o⟩
 have hmv:=hm.v
 have hmx:=hm.x
 have hmy:=hm.y
 have hmb:=hm.b
 have hgq:=(hI.ok.t1 _ ((Led.tube_mem hI.ok).1 hq)).2.2
 have hon:L.tube m.o=.none:=by cases ho:L.tube m.o with
  | none=>rfl
  | some x=>rw [ho] at n5;cases n5
 have hG0:PT.Good ⟨m.x,m.y,m.b,q.donor,1,0,0,0,0,0⟩:=⟨by show m.x<5;omega,by show m.y<5;omega,hmb,hgq.donor,by show 1<=1/\1<=3;omega,by show 0<=9;omega,by show 0<=1000000;omega,by show 0<=1000000;omega,by show 0<=1000000;omega,by show 0<=1000000;omega⟩
 have hO1:(L.putT m.o ⟨m.x,m.y,m.b,q.donor,1,0,0,0,0,0⟩).Ok:=hI.ok.insT hmo hG0
 have hS1:=h.sim.add hI.ok hon ⟨m.x,m.y,m.b,q.donor,1,0,0,0,0,0⟩
 have hqt1:(L.putT m.o ⟨m.x,m.y,m.b,q.donor,1,0,0,0,0,0⟩).tube m.t=some q:=by
  show ({ L with ts:=insT L.ts m.o _ }:Led).tube m.t=_
  rw [Led.tube_insT,if_neg (by omega),hq]
 have hqo1:(L.putT m.o ⟨m.x,m.y,m.b,q.donor,1,0,0,0,0,0⟩).tube m.o=some ⟨m.x,m.y,m.b,q.donor,1,0,0,0,0,0⟩:=by
  show ({ L with ts:=insT L.ts m.o _ }:Led).tube m.o=_
  rw [Led.tube_insT,if_pos rfl]
 have hlen1:(addT k.tubes (tF (m.o,⟨m.x,m.y,m.b,q.donor,1,0,0,0,0,0⟩))).length=k.tubes.length+1:=by
  unfold addT
  have:insAt k.tubes (tF (m.o,⟨m.x,m.y,m.b,q.donor,1,0,0,0,0,0⟩) 0)<=k.tubes.length:=by unfold insAt;exact List.findIdx_le_length
  simp only [List.length_append,List.length_take,List.length_drop,List.length_cons,List.length_nil]
  omega
 have hfw:=h.sim.few hf'
 have HT:=hid (fun n=>badd_both (hF0.below (below_drewN (Below.refl _ w1) n)) (tF (m.o,⟨m.x,m.y,m.b,q.donor,1,0,0,0,0,0⟩)) hf')
 simp only [tF] at HT
 have HB0:=hid hb0
 have hsz:=hb0.size
 have HC:=hid hC0
 have HS:=hid (And.intro hO1 (And.intro hS1 (And.intro hqt1 (And.intro hqo1 hlen1))))
 have eA:L.act m=(L.putT m.o ⟨m.x,m.y,m.b,q.donor,1,0,0,0,0,0⟩).pourL m:=by simp [Led.act,hkn,hD]
 have HE:=hid eA
 clear t0 t2 t3 t4 t5 t6 t7 t8 t9 t10 hC0 hF0 hb0 hK0 hO1 hS1 hqt1 hqo1 hlen1 hG0 hgq eA
 go_wp2_with fail
 refine wp_region_then 18 (by kernel_rfl) (by decide) (by kernel_rfl) (by kernel_rfl) (by kernel_rfl) (by kernel_rfl) ?_
 simp only [List.take_succ_cons,List.take_zero]
 repeat (go_big_quiet_step (fail))
 refine wpQuiet_nil ?_
 rintro w2 ⟨nq,rfl⟩
 simp only [List.drop_succ_cons,List.drop_zero]
 go_wp2_with fail
 refine (HT.out nq).mono ?_
 clear HT
 rintro e w3 ⟨rfl,vt3,hK3,hfr,hk3⟩
 obtain ⟨hO1,hS1,hqt1,hqo1,hlen1⟩:=HS.out
 clear HS
 have hlt3:w.heap.size<(w1.drewN nq).heap.size:=hlt0
 have hnb:¬ w.heap.size=b:=fun e=>hbc e.symm
 have c1:=(hk3.cell (p:=⟨w.heap.size,1,none⟩) hlt3 hnb).trans c1
 have c2:=(hk3.cell (p:=⟨w.heap.size,2,none⟩) hlt3 hnb).trans c2
 have c4:=(hk3.cell (p:=⟨w.heap.size,4,none⟩) hlt3 hnb).trans c4
 have hF3:BkF B w3 b vt3 vp (L.putT m.o ⟨m.x,m.y,m.b,q.donor,1,0,0,0,0,0⟩) (k.withTubes (addT k.tubes (tF (m.o,⟨m.x,m.y,m.b,q.donor,1,0,0,0,0,0⟩)))) :=
  ⟨hK3,hS1,fun e=>absurd e (addT_ne _ _),h.np,h.fb,fun g hg=>by have:=hfr g hg;have:w1.heap.size<=g:=this;omega,h.fp⟩
 obtain ⟨i1,hi1,ei1,hfi1⟩:=hS1.find_some hO1 hqt1
 obtain ⟨j1,hj1,ej1,hfj1⟩:=hS1.find_some hO1 hqo1
 have hl1:(k.withTubes (addT k.tubes (tF (m.o,⟨m.x,m.y,m.b,q.donor,1,0,0,0,0,0⟩)))).tubes.length=(L.putT m.o ⟨m.x,m.y,m.b,q.donor,1,0,0,0,0,0⟩).ts.length:=by rw [hS1.tubes,List.length_map]
 have hij:¬ i1=j1:=fun e=>by subst e;rw [ei1] at ej1;have:=congrArg Prod.fst ej1;simp only at this;omega
 have hpl:(k.withTubes (addT k.tubes (tF (m.o,⟨m.x,m.y,m.b,q.donor,1,0,0,0,0,0⟩)))).poured.length<900000:=by show k.poured.length<900000;omega
 have HP:=hid (bpour_any b vt3 vp _ m.t m.o m.v w3 hK3 (hS1.small hO1) (by omega) i1 j1 (by omega) (by omega) hij hfi1 hfj1 hpl)
 have HKp:=hid (((kp_new (B:=B) HB0.out).drewN nq).trans (hk3.mono (fun x _ hx=>by rw [hx];exact h.fb)))
 have HY:=hid (fun w4 vp4 hK4 hfr4=>hF3.poured (w':=w4) (vp':=vp4) (w1:=w3) (hS1.pourT (m:=m) hO1 hqt1 hqo1 (by omega) n2 (by show 0+m.v<=1000000;omega) hi1 hj1 ei1 ej1) hK4 (pourT_len _ _ _ _) (pourP_ne hS1 hO1 _ _ _) (by have:=hk3.size;have:w1.heap.size<=w3.heap.size:=this;omega) hfr4)
 have HO:=hid (own_ge hF3)
 clear hO1 hS1 hqt1 hqo1 hlen1 hF3 hK3 hfr hk3 ei1 ej1 hfi1 hfj1 hl1 hpl hi1 hj1
 go_wp2_with fail
 refine HP.out.mono ?_
 clear HP
 rintro e w4 ⟨rfl,vp4,hK4,hfr4,hk4⟩
 have HX:=hid (show BkX B w4 b (L.act m) from by rw [HE.out];exact HY.out w4 vp4 hK4 hfr4)
 have HK:=hid (HKp.out.trans (hk4.mono (fun x _ hx=>HO.out x hx)))
 clear HY hK4 hfr4 hk4 HKp HO
 go_wp2
 go_ret
 exact ⟨_,rfl,.inr ⟨rfl,by simp [Led.tell,hkn]⟩,HX.out,HK.out⟩
end
section
open Go.RowKit Go.Shelf
variable {B b:Nat} {w w':World} {L:Led} {m:Cm}
theorem bdo_any (hx:BkX B w b L) (hI:L.Inv) (hm:m.Ok) (he:L.err m=0) (hB:B<=w.heap.size) (hf:L.kvs.length<=1000):Calls prog 63 #[.pointer (some ⟨b,0,none⟩),m.val] w (DoPost B w b L m):=by
 obtain ⟨vt,vp,k,h⟩:=hx
 have hk:=hm.k
 have hk':m.k=1\/m.k=2\/m.k=3\/m.k=4\/m.k=5\/m.k=6\/m.k=7\/m.k=8\/m.k=9\/m.k=10\/m.k=11\/m.k=12\/m.k=13\/m.k=14\/m.k=15\/m.k=16:=by omega
 rcases hk' with e | e | e | e | e | e | e | e | e | e | e | e | e | e | e | e
 ·exact bdo_box h hI hm (by omega) he hB
 ·exact bdo_reg h hI hm (by omega) he hB hf
 ·exact bdo_move h hI hm (by omega) he hB
 ·exact bdo_ali h hI hm (by omega) he hB hf
 ·exact bdo_pour h hI hm (by omega) he hB hf
 ·exact bdo_use h hI hm (by omega) he hB
 ·exact bdo_take h hI hm (by omega) he hB
 ·exact bdo_back h hI hm (by omega) he hB
 ·exact bdo_wd h hI hm (by omega) he hB
 ·exact bdo_turn h hI hm (by omega) he hB
 ·exact bdo_flip h hI hm (by omega) he hB
 ·exact bdo_show h hI hm (by omega) he hB
 ·exact bdo_cont h hI hm (by omega) he hB
 ·exact bdo_of h hI hm (by omega) he hB
 ·exact bdo_up h hI hm (by omega) he hB
 ·exact bdo_down h hI hm (by omega) he hB
end
end Go.Proofs.YtalncjhldkcmaaaGreat
