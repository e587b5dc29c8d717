import Derived.Test.YtalncjhldkcmaaaGreatFb26
namespace Go.Proofs.YtalncjhldkcmaaaGreat
open _root_.Go.Proofs.Tryz
set_option maxHeartbeats 16000000
set_option maxRecDepth 8000
section
open Go.RowKit Go.Shelf
attribute [local go_sem] run_store_cplx
theorem askB_place {L:Led} {k t o d v bb xx y n:Nat} {Bi Bo Bt:Bool} (hk:k=2\/k=3\/k=4\/k=8) (hi:(decide ((xx:Int)<L.sideN bb)&&decide ((y:Int)<L.sideN bb))=Bi) (ho:(((occN xx y (L.ts.filter (inBox bb)):Nat):Int) != 0)=Bo) (ht:(((occN xx y (L.ts.filter (inBox bb)):Nat):Int) == t)=Bt) :
  L.asksB ⟨k,t,o,d,v,bb,xx,y,n⟩=[(10,!Bi||(Bo&&!((k:Int) == 3&&Bt))),(9,(L.sideN bb:Int) == 0)]:=by
 subst hi ho ht
 unfold Led.asksB
 rw [if_pos hk];rfl
theorem askBox_any (n₀ b r:Nat) (m:Cm) (hm:m.Ok) (L:Led) (x:Int) (w:World) (hT:TxL n₀ w b L) (hR:Boxed w r 187 (.int .i64 x)) (hnr:n₀<=r) (hbr:b≠r) :
  Calls prog 104 #[.pointer (some ⟨b,0,none⟩),m.val,.pointer (some ⟨r,0,none⟩)] w (AskEnds r (askAll x (L.asksB m)) w):=by
 have hS:=AskS.new (m:=m) hR
 have HSi:=hid (fun u (hu:Keeps (fun k=>k=r) w u)=>side_led n₀ b m.b L u (hT.keeps hu hnr hbr) (by have:=hm.b;omega))
 have HO:=hid (fun u (hu:Keeps (fun k=>k=r) w u)=>occupant_led n₀ b m.b m.x m.y (by have:=hm.x;omega) (by have:=hm.y;omega) L u (hT.keeps hu hnr hbr))
 have hpl:=@placeAt_any m.x m.y (by have:=hm.x;omega) (by have:=hm.y;omega)
 have hin:=@isIn_any m.x m.y (by have:=hm.x;omega) (by have:=hm.y;omega) (L.sideN m.b)
 have hrl:=hR.lt
 have hk:=hm.k
 clear hT hR
 obtain ⟨k,t,o,d,v,bb,xx,y,n⟩:=m
 unfold Cm.val
 simp only at *
 have hkk:k=1\/k=2\/k=3\/k=4\/k=5\/k=6\/k=7\/k=8\/k=9\/k=10\/k=11\/k=12\/k=13\/k=14\/k=15\/k=16:=by omega
 have HA:=hid (fun Bi Bo Bt h1 h2 h3 h4=>askB_place (L:=L) (k:=k) (t:=t) (o:=o) (d:=d) (v:=v) (bb:=bb) (xx:=xx) (y:=y) (n:=n) (Bi:=Bi) (Bo:=Bo) (Bt:=Bt) h1 h2 h3 h4)
 have HA2:=hid (show askAll x (L.asksB ⟨k,t,o,d,v,bb,xx,y,n⟩)=askAll x (L.asksB ⟨k,t,o,d,v,bb,xx,y,n⟩) from rfl)
 generalize hsd:L.sideN bb=sd at *
 have HSd:=hid hsd
 clear hsd
 generalize pl xx y=pp at *
 obtain ⟨c0,c1,c3,c5,c6,c7⟩:=hS.cells
 have HS:=hid hS
 clear hS hk
 go_enter func104,ntmps104
 go_upto_region 1 with fail
 go_cut [6,7] from 10 to 18 (fun a p wc=>a=.int .i64 sd/\p=pp/\AskS w wc w.heap.size ⟨k,t,o,d,v,bb,xx,y,n⟩ r x)
 case first =>
  go_region_with (first
   | (go_at_call 147;refine (hpl _).mono ?_;rintro e w' ⟨rfl,rfl⟩)
   | (go_at_call 146;refine (HSi.out _ HS.out.drew.kp).mono ?_;rintro e w3 ⟨rfl,hb3⟩;have hS3:=HS.out.drew.below hb3;have HS:=hid hS3;obtain ⟨c0,c1,c3,c5,c6,c7⟩:=hS3.cells;clear hS3 hb3))
  all_goals
   go_wp2_with fail
   go_meet
   exact ⟨rfl,rfl,HS.out⟩
 case rest =>
  obtain ⟨rfl,rfl,hS⟩:=hcut
  clear c0 c1 c3 c5 c6 c7 HS HSi hpl
  obtain ⟨c0,c1,c3,c5,c6,c7⟩:=hS.cells
  have HS:=hid hS
  clear hS
  have hkz:((k:Nat):Int)=k:=rfl
  generalize hz:((k:Nat):Int)=z at c0
  generalize hoc:occN xx y (L.ts.filter (inBox bb))=oc at *
  generalize hbi:(decide ((xx:Int)<(sd:Int))&&decide ((y:Int)<(sd:Int)))=Bi at *
  have HBi:=hid hbi
  generalize hbo:(((oc:Nat):Int) != 0)=Bo
  generalize hbt:(((oc:Nat):Int) == (t:Int))=Bt
  have HAk:Hid ((k=2\/k=3\/k=4\/k=8)->L.asksB ⟨k,t,o,d,v,bb,xx,y,n⟩=[(10,!Bi||(Bo&&!((k:Int) == 3&&Bt))),(9,(sd:Int) == 0)]):=hid (fun hk=>HA.out Bi Bo Bt hk rfl hbo hbt)
  clear HA hbi hoc hkz HA2
  rcases hkk with rfl | rfl | rfl | rfl | rfl | rfl | rfl | rfl | rfl | rfl | rfl | rfl | rfl | rfl | rfl | rfl
  all_goals (simp at hz;subst hz)
  case inr.inl =>
   cases Bi <;> cases Bo
   all_goals
    have HF:=hid (HAk.out (by omega))
    go_wp2_with (first
     | (go_at_call 148;refine (HO.out _ HS.out.kp).mono ?_;rintro e w2 ⟨rfl,hb2⟩;have hS2:=HS.out.below hb2;have HS:=hid hS2;obtain ⟨c0,c1,c3,c5,c6,c7⟩:=hS2.cells;clear hS2 hb2)
     | (go_at_call 149;refine (hin _).mono ?_;rintro e w' ⟨rfl,rfl⟩)
     | (go_at_call 144;refine (ask_s HS.out _ _).mono ?_;rintro e w2 ⟨rfl,hS2⟩;have HS:=hid hS2;clear hS2))
    go_end0
    exact ⟨rfl,by rw [HF.out];exact HS.out.ref,HS.out.kp⟩
  case inr.inr.inl =>
   cases Bi <;> cases Bo <;> cases Bt
   all_goals
    have HF:=hid (HAk.out (by omega))
    go_wp2_with (first
     | (go_at_call 148;refine (HO.out _ HS.out.kp).mono ?_;rintro e w2 ⟨rfl,hb2⟩;have hS2:=HS.out.below hb2;have HS:=hid hS2;obtain ⟨c0,c1,c3,c5,c6,c7⟩:=hS2.cells;clear hS2 hb2)
     | (go_at_call 149;refine (hin _).mono ?_;rintro e w' ⟨rfl,rfl⟩)
     | (go_at_call 144;refine (ask_s HS.out _ _).mono ?_;rintro e w2 ⟨rfl,hS2⟩;have HS:=hid hS2;clear hS2))
    go_end0
    exact ⟨rfl,by rw [HF.out];exact HS.out.ref,HS.out.kp⟩
  case inr.inr.inr.inl =>
   cases Bi <;> cases Bo
   all_goals
    have HF:=hid (HAk.out (by omega))
    go_wp2_with (first
     | (go_at_call 148;refine (HO.out _ HS.out.kp).mono ?_;rintro e w2 ⟨rfl,hb2⟩;have hS2:=HS.out.below hb2;have HS:=hid hS2;obtain ⟨c0,c1,c3,c5,c6,c7⟩:=hS2.cells;clear hS2 hb2)
     | (go_at_call 149;refine (hin _).mono ?_;rintro e w' ⟨rfl,rfl⟩)
     | (go_at_call 144;refine (ask_s HS.out _ _).mono ?_;rintro e w2 ⟨rfl,hS2⟩;have HS:=hid hS2;clear hS2))
    go_end0
    exact ⟨rfl,by rw [HF.out];exact HS.out.ref,HS.out.kp⟩
  case inr.inr.inr.inr.inr.inr.inr.inl =>
   cases Bi <;> cases Bo
   all_goals
    have HF:=hid (HAk.out (by omega))
    go_wp2_with (first
     | (go_at_call 148;refine (HO.out _ HS.out.kp).mono ?_;rintro e w2 ⟨rfl,hb2⟩;have hS2:=HS.out.below hb2;have HS:=hid hS2;obtain ⟨c0,c1,c3,c5,c6,c7⟩:=hS2.cells;clear hS2 hb2)
     | (go_at_call 149;refine (hin _).mono ?_;rintro e w' ⟨rfl,rfl⟩)
     | (go_at_call 144;refine (ask_s HS.out _ _).mono ?_;rintro e w2 ⟨rfl,hS2⟩;have HS:=hid hS2;clear hS2))
    go_end0
    exact ⟨rfl,by rw [HF.out];exact HS.out.ref,HS.out.kp⟩
  all_goals
   go_wp2_with (go_at_call 144;refine (ask_s HS.out _ _).mono ?_;rintro e w2 ⟨rfl,hS2⟩;have HS:=hid hS2;clear hS2)
   go_end0
   have hs:=HSd.out
   subst hs
   exact ⟨rfl,HS.out.ref,HS.out.kp⟩
end
section
open Go.RowKit Go.Shelf
theorem refused_any (n₀ b:Nat) (m:Cm) (hm:m.Ok) (L:Led) (w:World) (hT:TxL n₀ w b L) :
  Calls prog 70 #[.pointer (some ⟨b,0,none⟩),m.val] w fun e w'=>e=.returned (.int .i64 (L.err m))/\Below w.heap.size w w':=by
 have hn0:n₀<=w.heap.size:=by obtain ⟨⟨⟨r,hB,hI⟩,hf⟩,_,_⟩:=hT;exact hI.2.1
 have hbl:b<w.heap.size:=by obtain ⟨⟨⟨r,hB,hI⟩,hf⟩,_,_⟩:=hT;exact hB.lt
 have hC0:=Cm.has_new w 31 m
 have hb0:=Cm.hb w m
 have hs0:=Cm.hs w m
 have hb1:Below w.heap.size w ((w.alloc (.cells #[.int .i64 m.k,.int .i64 m.t,.int .i64 m.o,.int .i64 m.d,.int .i64 m.v,.int .i64 m.b,.int .i64 m.x,.int .i64 m.y,.int .i64 m.n] 31)).alloc (.cells #[.int .i64 0] 187)):=hb0.alloc (by omega) _
 have hR0:=Boxed.new (w.alloc (.cells #[.int .i64 m.k,.int .i64 m.t,.int .i64 m.o,.int .i64 m.d,.int .i64 m.v,.int .i64 m.b,.int .i64 m.x,.int .i64 m.y,.int .i64 m.n] 31)) 187 (.int .i64 0)
 rw [hs0] at hR0
 have hC1:=hC0.alloc (by omega) (.cells #[.int .i64 0] 187)
 have HB:=hid hb1
 have HT:=hid (fun u (hu:Keeps (fun k=>k=w.heap.size+1) w u)=>hT.keeps hu (by omega) (by omega))
 have HE:=hid (show askAll (askAll (askAll (askAll 0 (L.asksT m)) (L.asksO m)) (L.asksD m)) (L.asksB m)=L.err m by unfold Led.err;rw [askAll_append,askAll_append,askAll_append])
 have hA1:=fun u x hu hr=>askTube_any n₀ b (w.heap.size+1) m hm L x u (HT.out u hu) hr
 have hA2:=fun u x hu hr=>askOther_any n₀ b (w.heap.size+1) m hm L x u (HT.out u hu) hr (by omega) (by omega)
 have hA3:=fun u x hu hr=>askDonor_any n₀ b (w.heap.size+1) m hm L x u (HT.out u hu) hr (by omega) (by omega)
 have hA4:=fun u x hu hr=>askBox_any n₀ b (w.heap.size+1) m hm L x u (HT.out u hu) hr (by omega) (by omega)
 have H1:=hid hA1
 have H2:=hid hA2
 have H3:=hid hA3
 have H4:=hid hA4
 clear hA1 hA2 hA3 hA4 hb0 hs0 hC0 hT HT
 have HR:=hid hR0
 have HC:=hid hC1
 unfold Cm.val at *
 clear hR0
 go_enter func70,ntmps70
 have hk0:Keeps (fun k=>k=w.heap.size+1) w ((w.alloc (.cells #[.int .i64 m.k,.int .i64 m.t,.int .i64 m.o,.int .i64 m.d,.int .i64 m.v,.int .i64 m.b,.int .i64 m.x,.int .i64 m.y,.int .i64 m.n] 31)).alloc (.cells #[.int .i64 0] 187)):=below_toKeeps hb1 _
 go_wp2_with fail
 refine (H1.out _ _ hk0 HR.out).mono ?_
 rintro e u1 ⟨rfl,hR1,hk1⟩
 have hlt:w.heap.size<((w.alloc (.cells #[.int .i64 m.k,.int .i64 m.t,.int .i64 m.o,.int .i64 m.d,.int .i64 m.v,.int .i64 m.b,.int .i64 m.x,.int .i64 m.y,.int .i64 m.n] 31)).alloc (.cells #[.int .i64 0] 187)).heap.size:=by simp;omega
 have hCu:=has_keeps hC1 hk1 hlt (by omega)
 have hKu:=hk0.trans hk1
 have hlu:w.heap.size<u1.heap.size:=Nat.lt_of_lt_of_le hlt hk1.size
 clear hk1 hlt hC1 hk0 hb1 HR HC
 obtain ⟨c0,c1,c2,c3,c4,c5,c6,c7,c8⟩:=all9.1 hCu.1
 simp only [Cm.ints] at c0 c1 c2 c3 c4 c5 c6 c7 c8
 go_wp2_with fail
 refine (H2.out _ _ hKu hR1).mono ?_
 clear c0 c1 c2 c3 c4 c5 c6 c7 c8
 rintro e u2 ⟨rfl,hR2,hk2⟩
 have hCu2:=has_keeps hCu hk2 hlu (by omega)
 have hKu2:=hKu.trans hk2
 have hlu2:w.heap.size<u2.heap.size:=Nat.lt_of_lt_of_le hlu hk2.size
 obtain ⟨c0,c1,c2,c3,c4,c5,c6,c7,c8⟩:=all9.1 hCu2.1
 simp only [Cm.ints] at c0 c1 c2 c3 c4 c5 c6 c7 c8
 go_wp2_with fail
 refine (H3.out _ _ hKu2 hR2).mono ?_
 clear c0 c1 c2 c3 c4 c5 c6 c7 c8
 rintro e u3 ⟨rfl,hR3,hk3⟩
 have hCu3:=has_keeps hCu2 hk3 hlu2 (by omega)
 have hKu3:=hKu2.trans hk3
 have hlu3:w.heap.size<u3.heap.size:=Nat.lt_of_lt_of_le hlu2 hk3.size
 obtain ⟨c0,c1,c2,c3,c4,c5,c6,c7,c8⟩:=all9.1 hCu3.1
 simp only [Cm.ints] at c0 c1 c2 c3 c4 c5 c6 c7 c8
 go_wp2_with fail
 refine (H4.out _ _ hKu3 hR3).mono ?_
 clear c0 c1 c2 c3 c4 c5 c6 c7 c8
 rintro e u4 ⟨rfl,hR4,hk4⟩
 have hc4:=hR4.cell
 rw [HE.out] at hc4
 go_wp2
 go_ret
 exact ⟨rfl,(hKu3.trans hk4).toBelow (fun k h=>by omega) nlr⟩
end
end Go.Proofs.YtalncjhldkcmaaaGreat
