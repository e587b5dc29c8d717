import Derived.Test.YtalncjhldkcmaaaGreatFb36
import Derived.Test.YtalncjhldkcmaaaGreatFb35
namespace Go.Proofs.YtalncjhldkcmaaaGreat
open Classical
open _root_.Go.Proofs.Tryz
set_option maxHeartbeats 16000000
set_option maxRecDepth 8000
section
open Go.RowKit Go.Shelf
variable {B b:Nat} {w w':World} {vt vp:Value} {L:Led} {k:Bk} {m:Cm}
theorem bdo_wd (h:BkF B w b vt vp L k) (hI:L.Inv) (_hm:m.Ok) (hk:((m.k:Nat):Int)=9) (_he:L.err m=0) (_hB:B<=w.heap.size):Calls prog 63 #[.pointer (some ⟨b,0,none⟩),m.val] w (DoPost B w b L m):=by
 have hC0:=Cm.has_new w 31 m
 have hb0:=Cm.hb w m
 have hlt0:=has_new_lt w m
 have hF0:=h.below hb0
 have hK0:=hF0.bk
 have hkn:m.k=9:=by omega
 unfold Cm.val
 rw [hk] at hC0 hb0 hF0 hK0 hlt0 ⊢
 go_enter func63,ntmps63
 go_wp2_with (go_at_call 90;refine (find_any b _ _ k _ _ hK0).mono ?_;rintro e w' ⟨rfl,rfl⟩)
 generalize w.alloc (.cells #[.int .i64 9,.int .i64 m.t,.int .i64 m.o,.int .i64 m.d,.int .i64 m.v,.int .i64 m.b,.int .i64 m.x,.int .i64 m.y,.int .i64 m.n] 31)=w1 at *
 have c3:=hC0.1 3 (by omega)
 simp only [Cm.ints] at c3
 have HF:=hid hF0
 have HB0:=hid hb0
 have HT:=hid (withdraw_any b vt vp k m.d w1 hK0 (h.sim.small hI.ok) (h.sim.wired hI))
 have hN:wdN k m.d=(L.hits m.d).length:=h.sim.wdN hI m.d
 rw [hN] at HT
 clear hC0 hF0 hK0 hb0 hN
 go_wp2_with fail
 refine HT.out.mono ?_
 rintro e w2 ⟨rfl,hK2,hk2⟩
 have HX:=hid (show BkX B w2 b (L.act m) from by
  have e1:L.act m=L.chg PT.lostAll (L.hits m.d):=by simp [Led.act,hkn]
  rw [e1]
  exact h.tubes (h.sim.wd hI m.d) hK2 (by rw [hitTo_len]))
 have HK:=hid ((kp_new (B:=B) HB0.out).trans (hk2.mono (fun g _ hg=>h.ft g hg)))
 have HTl:=hid (show L.tell m=[((L.hits m.d).length:Int)] by simp [Led.tell,hkn])
 clear hK2 hk2
 go_wp2
 go_ret
 have hba:Below w2.heap.size w2 (w2.alloc (.cells #[.int .i64 ((L.hits m.d).length:Nat)] 3)):=(Below.refl _ w2).alloc nlr _
 exact ⟨_,rfl,by rw [HTl.out];exact one_int w2 _ _,HX.out.below hba,HK.out.trans (below_toKeeps hba _)⟩
theorem bdo_turn (h:BkF B w b vt vp L k) (hI:L.Inv) (hm:m.Ok) (hk:((m.k:Nat):Int)=10) (_he:L.err m=0) (_hB:B<=w.heap.size):Calls prog 63 #[.pointer (some ⟨b,0,none⟩),m.val] w (DoPost B w b L m):=by
 have hC0:=Cm.has_new w 31 m
 have hb0:=Cm.hb w m
 have hlt0:=has_new_lt w m
 have hF0:=h.below hb0
 have hK0:=hF0.bk
 have hkn:m.k=10:=by omega
 unfold Cm.val
 rw [hk] at hC0 hb0 hF0 hK0 hlt0 ⊢
 go_enter func63,ntmps63
 go_wp2_with (go_at_call 90;refine (find_any b _ _ k _ _ hK0).mono ?_;rintro e w' ⟨rfl,rfl⟩)
 generalize w.alloc (.cells #[.int .i64 10,.int .i64 m.t,.int .i64 m.o,.int .i64 m.d,.int .i64 m.v,.int .i64 m.b,.int .i64 m.x,.int .i64 m.y,.int .i64 m.n] 31)=w1 at *
 have c5:=hC0.1 5 (by omega)
 have c8:=hC0.1 8 (by omega)
 simp only [Cm.ints] at c5 c8
 have hmb:=hm.b
 have hb1:=hm.b1 (by omega)
 have hmn:=hm.n
 have hs:=h.sim.sides m.b (by omega)
 have hsl:=Led.sideN_lt hI.ok m.b
 have HF:=hid hF0
 have HB0:=hid hb0
 have HC:=hid hC0
 have e1:L.act m=L.mvB m.b (turnXY (L.sideN m.b) m.n):=by
  rw [<- Led.turn_act hI hb1]
  simp [Led.act,hkn,Led.cmTurn]
 have HE:=hid e1
 have H0:=hid (show BkF B w1 b vt vp (L.mvB m.b (turnXY (L.sideN m.b) 0)) k from ⟨hF0.bk,by
  have:L.mvB m.b (turnXY (L.sideN m.b) 0)=L:=Led.mvB_id (fun t _ _=>rfl)
  rw [this];exact h.sim,h.nt,h.np,h.fb,h.ft,h.fp⟩)
 have hn3:=hm.n3 (by omega)
 have HSd:=hid (show L.sideN m.b≠0 from fun e0=>by
  have h1:=h.sim.err hI hm
  rw [_he] at h1
  unfold errI at h1
  rw [show (m.ints 0).toNat=10 by show ((m.k:Nat):Int).toNat=10;omega] at h1
  have h2:errBox k m.ints=0:=h1
  unfold errBox at h2
  rw [h.sim.side hm,e0] at h2
  simp at h2)
 have HVt:=hid (fun g (hg:vt.ownBlock=some g)=>show g≠w.heap.size from by have:=h.bk.own_lt (g:=g) (.inr (.inl hg));omega)
 clear hC0 hF0 hK0 hb0 e1 c5 c8
 go_wp2_with fail
 go_loopw [6] (fun i wr=>∃ (j:Nat) (k':Bk),j<=m.n/\i=.int .i64 j/\BkF B wr b vt vp (L.mvB m.b (turnXY (L.sideN m.b) j)) k'/\Keeps (fun g=>B<=g) w wr/\Has wr w.heap.size m.ints/\w.heap.size<wr.heap.size) (fun i _=>m.n - (intOf i).toNat)
 case atStart=>exact ⟨0,k,by omega,rfl,H0.out,kp_new HB0.out,HC.out,hlt0⟩
 case round =>
  clear H0 HC HF
  obtain ⟨j,k',hj,rfl,hF,hkp,hC,hlw⟩:=hrel
  have c5:=hC.1 5 (by omega)
  have c8:=hC.1 8 (by omega)
  simp only [Cm.ints] at c5 c8
  by_cases hjn:j<m.n
  ·have hji:(j:Int)<(m.n:Int):=by omega
   have hs':k'.sides m.b=L.sideN m.b:=hF.sim.sides m.b (by omega)
   have HT:=hid (bturned_any b vt vp k' m.b false (by omega) _ hF.bk (hF.sim.small (turn_inv hI ⟨hb1,hmb⟩ HSd.out (by omega)).ok) (by rw [hs'];omega))
   rw [hs'] at HT
   have HX:=hid (And.intro hF (And.intro hkp (And.intro hC hlw)))
   clear hF hkp hC hs'
   go_wp2_with fail
   refine HT.out.mono ?_
   clear HT
   rintro e w2 ⟨rfl,hK2,hk2⟩
   obtain ⟨hF,hkp,hC,hlw⟩:=HX.out
   have HY:=hid (show BkF B w2 b vt vp (L.mvB m.b (turnXY (L.sideN m.b) (j+1))) (k'.withTubes (k'.tubes.map (turnF m.b (L.sideN m.b) false))) from ⟨hK2,Sim.turn hI hb1 hF.sim,fun e=>hF.nt (List.map_eq_nil_iff.1 e),hF.np,hF.fb,hF.ft,hF.fp⟩)
   have HZ:=hid (And.intro (hkp.trans (hk2.mono (fun g _ hg=>hF.ft g hg))) (And.intro (has_keeps hC hk2 hlw (fun e=>HVt.out _ e rfl)) (Nat.lt_of_lt_of_le hlw hk2.size)))
   clear HX hF hkp hC hK2 hk2
   go_wp2_with fail
   exact ⟨⟨j+1,_,by omega,by go_num,HY.out,HZ.out.1,HZ.out.2.1,HZ.out.2.2⟩,by simp [intOf];omega⟩
  ·have hji:¬ (j:Int)<(m.n:Int):=by omega
   have e:j=m.n:=by omega
   subst e
   have HX:=hid (And.intro hF hkp)
   clear hF hkp hC
   go_wp2
   go_ret
   exact ⟨_,rfl,.inr ⟨rfl,by simp [Led.tell,hkn]⟩,by rw [HE.out];exact ⟨_,_,_,HX.out.1⟩,HX.out.2⟩
end
end Go.Proofs.YtalncjhldkcmaaaGreat
