import Derived.Test.YtalncjhldkcmaaaGreatFb31
import Derived.Test.YtalncjhldkcmaaaGreatFb30
import Derived.Deep.RegionHeld3
namespace Go.Proofs.YtalncjhldkcmaaaGreat
open _root_.Go.Proofs.Tryz
set_option maxHeartbeats 16000000
set_option maxRecDepth 8000
section
open Go.RowKit Go.Shelf
def Led.stepL (L:Led) (lim:Nat) (m:Cm):Led:=if L.err m=0/\(L.act m).kvs.length<=lim then L.act m else L
def Led.stepE (L:Led) (lim:Nat) (m:Cm):Int:=if L.err m=0 then (if (L.act m).kvs.length<=lim then 0 else 3) else L.err m
def Led.stepN (L:Led) (lim:Nat) (m:Cm):List Int:=if L.err m=0/\(L.act m).kvs.length<=lim then L.tell m else []
def LedBox (w:World) (l:Nat) (d:Nat×Nat) (r:Option Addr) (n lim:Int):Prop:=w.heap[l]? = some (.cells #[.int .i64 d.1,.int .u64 d.2,.pointer r,.int .i64 n,.int .i64 lim] 113 (0,0))
section
variable {w:World} {l:Nat} {d:Nat×Nat} {r:Option Addr} {n lim:Int}
theorem LedBox.cs (h:LedBox w l d r n lim):w.cell? ⟨l,0,none⟩=some (.int .i64 d.1):=by simp only [World.cell?,show w.heap[l]? = _ from h];rfl
theorem LedBox.ct (h:LedBox w l d r n lim):w.cell? ⟨l,1,none⟩=some (.int .u64 d.2):=by simp only [World.cell?,show w.heap[l]? = _ from h];rfl
theorem LedBox.c0 (h:LedBox w l d r n lim):w.cell? ⟨l,2,none⟩=some (.pointer r):=by simp only [World.cell?,show w.heap[l]? = _ from h];rfl
theorem LedBox.c1 (h:LedBox w l d r n lim):w.cell? ⟨l,3,none⟩=some (.int .i64 n):=by simp only [World.cell?,show w.heap[l]? = _ from h];rfl
theorem LedBox.c2 (h:LedBox w l d r n lim):w.cell? ⟨l,4,none⟩=some (.int .i64 lim):=by simp only [World.cell?,show w.heap[l]? = _ from h];rfl
theorem LedBox.fz (h:LedBox w l d r n lim) (i:Nat):w.frozen? ⟨l,i,none⟩=false:=by simp [World.frozen?,show w.heap[l]? = _ from h]
theorem LedBox.lt (h:LedBox w l d r n lim):l<w.heap.size:=(Array.getElem?_eq_some_iff.1 h).1
theorem LedBox.noNode (h:LedBox w l d r n lim):NoNode w l:=by
 refine ⟨fun s k c e => ?_,fun o k e => ?_⟩
 ·rw [h.cs] at e;cases e
 ·match o,e with
  | 0,e=>rw [h.cs] at e;cases e
  | 1,e=>rw [h.ct] at e;cases e
  | 2,e=>rw [h.c0] at e;cases e
  | 3,e=>rw [h.c1] at e;cases e
  | 4,e=>rw [h.c2] at e;cases e
  | o+5,e=>simp only [World.cell?,show w.heap[l]? = _ from h] at e;simp at e
theorem ledBox_set0 (h:LedBox w l d r n lim) (r':Option Addr):LedBox (w.setCell ⟨l,2,none⟩ (.pointer r')) l d r' n lim:=heap_setCell_same w l 2 _ _ _ h
theorem ledBox_set1 (h:LedBox w l d r n lim) (n':Int):LedBox (w.setCell ⟨l,3,none⟩ (.int .i64 n')) l d r n' lim:=heap_setCell_same w l 3 _ _ _ h
end
theorem IntsIn.below' {w w':World} {v:Value} {zs:List Int} (h:IntsIn w v zs) (hb:Below w.heap.size w w'):IntsIn w' v zs:=by
 rcases h with ⟨g,cap,rfl,hg,hc⟩ | h
 ·exact .inl ⟨g,cap,rfl,Nat.lt_of_lt_of_le hg hb.size,fun i hi=>(hb.cell (p:=⟨g,i,none⟩) hg).trans (hc i hi)⟩
 ·exact .inr h
theorem IntsIn.store {w:World} {v:Value} {zs:List Int} (h:IntsIn w v zs) {l i:Nat} {x:Value} {d:Nat×Nat} {r r':Option Addr} {n lim n' lim':Int} (hb:LedBox w l d r n lim) (hb':LedBox (w.setCell ⟨l,i,none⟩ x) l d r' n' lim'):IntsIn (w.setCell ⟨l,i,none⟩ x) v zs:=by
 rcases h with ⟨g,cap,rfl,hg,hc⟩ | h
 ·refine .inl ⟨g,cap,rfl,by simpa using hg,fun j hj => ?_⟩
  by_cases hne:g=l
  ·subst hne
   match j,hj with
   | 0,hj =>
    have h0:=hc 0 hj
    rw [hb.cs] at h0
    rw [hb'.cs];exact h0
   | j+1,hj =>
    have h1:=hc 1 (by omega)
    rw [hb.ct] at h1;cases h1
  ·rw [World.cell?_of_block (w:=w) (Below.heap_setCell w ⟨l,i,none⟩ x g hne)]
   exact hc j hj
 ·exact .inr h
theorem TreeIs.setLed {n₀:Nat} {w:World} {l:Nat} {d:Nat×Nat} {r r0:Option Addr} {n lim:Int} {k:List KV} (h:TreeIs n₀ w r k) (hb:LedBox w l d r0 n lim) (i:Nat) (v:Value):TreeIs n₀ (w.setCell ⟨l,i,none⟩ v) r k :=
 h.keptX (X:=fun g=>g=l) (by simp) (fun g o u hg hc=>by rw [World.cell?_of_block (w:=w) (Below.heap_setCell w ⟨l,i,none⟩ v g hg)];exact hc) (fun g hg=>by subst hg;exact hb.noNode)
structure LedgerAt (w:World) (l:Nat) (d:Nat×Nat) (L:Led) (lim:Nat):Prop where
 box:∃ r n₀,LedBox w l d r L.kvs.length lim/\TreeIs n₀ w r L.kvs
 ok:L.Ok
 few:L.kvs.length<=lim
 lim:lim<=32
theorem LedgerAt.lt {w:World} {l:Nat} {d:Nat×Nat} {L:Led} {lim:Nat} (h:LedgerAt w l d L lim):l<w.heap.size:=by obtain ⟨⟨r,n₀,h1,_⟩,_⟩:=h;exact h1.lt
theorem len_any (r:Option Addr) (n:Int) (w:World) :
  Calls prog 72 #[.agg #[.pointer r,.int .i64 n]] w fun e w'=>e=.returned (.int .i64 n)/\Below w.heap.size w w':=by
 go_enter func72,ntmps72
 go_wp2
 go_ret
 exact ⟨rfl,bal⟩
def DoEnds (l:Nat) (d:Nat×Nat) (L:Led) (lim:Nat) (m:Cm) (w:World) (e:Ending) (w':World):Prop :=
 ∃ v,e=.returned (.tuple #[v,.int .i64 (L.stepE lim m)])/\IntsIn w' v (L.stepN lim m)/\LedgerAt w' l d (L.stepL lim m) lim/\Keeps (fun k=>k=l) w w'
theorem LedgerAt.below {w w':World} {l:Nat} {d:Nat×Nat} {L:Led} {lim:Nat} (h:LedgerAt w l d L lim) (hb:Below w.heap.size w w'):LedgerAt w' l d L lim:=by
 obtain ⟨⟨r,n₀,h1,h2⟩,h3,h4,h5⟩:=h
 exact ⟨⟨r,n₀,(hb.block l h1.lt).trans h1,h2.below (hb.mono h2.2.1)⟩,h3,h4,h5⟩
theorem act_len (L:Led) (m:Cm):(L.act m).kvs.length<=2*L.kvs.length+5:=by
 have hT:L.ts.length<=L.kvs.length:=by rw [Led.len];omega
 have hp:∀ (L:Led),(L.pourL m).kvs.length<=L.kvs.length+3:=fun L=>by
  have h1:=Led.putT_len L m.t ((L.tubeD m.t).less m.v)
  have h2:=Led.putT_len (L.putT m.t ((L.tubeD m.t).less m.v)) m.o (((L.putT m.t ((L.tubeD m.t).less m.v)).tubeD m.o).more m.v)
  have h3:=insP_len ((L.putT m.t ((L.tubeD m.t).less m.v)).putT m.o (((L.putT m.t ((L.tubeD m.t).less m.v)).tubeD m.o).more m.v)).ps m.t m.o (((L.putT m.t ((L.tubeD m.t).less m.v)).putT m.o (((L.putT m.t ((L.tubeD m.t).less m.v)).tubeD m.o).more m.v)).pouredN m.t m.o+m.v)
  have e:(L.pourL m).kvs.length=((L.putT m.t ((L.tubeD m.t).less m.v)).putT m.o (((L.putT m.t ((L.tubeD m.t).less m.v)).tubeD m.o).more m.v)).bs.length+((L.putT m.t ((L.tubeD m.t).less m.v)).putT m.o (((L.putT m.t ((L.tubeD m.t).less m.v)).tubeD m.o).more m.v)).ts.length+(insP ((L.putT m.t ((L.tubeD m.t).less m.v)).putT m.o (((L.putT m.t ((L.tubeD m.t).less m.v)).tubeD m.o).more m.v)).ps m.t m.o (((L.putT m.t ((L.tubeD m.t).less m.v)).putT m.o (((L.putT m.t ((L.tubeD m.t).less m.v)).tubeD m.o).more m.v)).pouredN m.t m.o+m.v)).length:=by rw [Led.len];rfl
  rw [e]
  rw [Led.len ((L.putT m.t ((L.tubeD m.t).less m.v)).putT m.o _)] at h2
  omega
 have hi:(L.ts.filter (inBox m.b)).length<=L.ts.length:=List.length_filter_le _ _
 have hh:(L.hits m.d).length<=L.ts.length:=List.length_filter_le _ _
 by_cases h1:m.k=1
 ·rw [Led.act,if_pos h1]
  have:=insB_len L.bs m.b m.n;rw [Led.len,Led.len L];simp only;omega
 by_cases h2:m.k=2
 ·rw [Led.act,if_neg h1,if_pos h2]
  have:=Led.putT_len L m.t ⟨m.x,m.y,m.b,m.d,1,0,m.v,m.v,0,0⟩;omega
 by_cases h3:m.k=3
 ·rw [Led.act,if_neg h1,if_neg h2,if_pos h3]
  have:=Led.putT_len L m.t ((L.tubeD m.t).stored m.b m.x m.y);omega
 by_cases h4:m.k=4
 ·rw [Led.act,if_neg h1,if_neg h2,if_neg h3,if_pos h4]
  have h1:=Led.putT_len L m.o ⟨m.x,m.y,m.b,(L.tubeD m.t).donor,1,0,0,0,0,0⟩
  have h2:=hp (L.putT m.o ⟨m.x,m.y,m.b,(L.tubeD m.t).donor,1,0,0,0,0,0⟩);omega
 by_cases h5:m.k=5
 ·rw [Led.act,if_neg h1,if_neg h2,if_neg h3,if_neg h4,if_pos h5]
  have:=hp L;omega
 by_cases h6:m.k=6
 ·rw [Led.act,if_neg h1,if_neg h2,if_neg h3,if_neg h4,if_neg h5,if_pos h6]
  have:=Led.putT_len L m.t ((L.tubeD m.t).usedBy m.v);omega
 by_cases h7:m.k=7
 ·rw [Led.act,if_neg h1,if_neg h2,if_neg h3,if_neg h4,if_neg h5,if_neg h6,if_pos h7]
  have:=Led.putT_len L m.t ((L.tubeD m.t).gone 2);omega
 by_cases h8:m.k=8
 ·rw [Led.act,if_neg h1,if_neg h2,if_neg h3,if_neg h4,if_neg h5,if_neg h6,if_neg h7,if_pos h8]
  have:=Led.putT_len L m.t ((L.tubeD m.t).backAt m.b m.x m.y);omega
 by_cases h9:m.k=9
 ·rw [Led.act,if_neg h1,if_neg h2,if_neg h3,if_neg h4,if_neg h5,if_neg h6,if_neg h7,if_neg h8,if_pos h9]
  have:=Led.chg_len PT.lostAll (L.hits m.d) L;omega
 by_cases h10:m.k=10
 ·rw [Led.act,if_neg h1,if_neg h2,if_neg h3,if_neg h4,if_neg h5,if_neg h6,if_neg h7,if_neg h8,if_neg h9,if_pos h10]
  have:=Led.chg_len (fun q:PT=>q.turnedBy (L.sideN m.b) m.n) (L.ts.filter (inBox m.b)) L;omega
 by_cases h11:m.k=11
 ·rw [Led.act,if_neg h1,if_neg h2,if_neg h3,if_neg h4,if_neg h5,if_neg h6,if_neg h7,if_neg h8,if_neg h9,if_neg h10,if_pos h11]
  have:=Led.chg_len (fun q:PT=>q.flippedIn (L.sideN m.b)) (L.ts.filter (inBox m.b)) L;omega
 rw [Led.act,if_neg h1,if_neg h2,if_neg h3,if_neg h4,if_neg h5,if_neg h6,if_neg h7,if_neg h8,if_neg h9,if_neg h10,if_neg h11]
 omega
theorem booksDo_any (l:Nat) (d:Nat×Nat) (L:Led) (lim:Nat) (m:Cm) (hm:m.Ok) (w:World) (hA:LedgerAt w l d L lim) (hcan:L.err m=0->L.Can m) :
  Calls prog 43 #[.pointer (some ⟨l,2,none⟩),m.val] w (DoEnds l d L lim m w):=by
 have hA0:=hA
 obtain ⟨⟨r,n₀,hB,hI⟩,hok,hfew,hlim⟩:=hA
 have hn0:=hI.2.1
 have hll:=hB.lt
 have hC0:=Cm.has_new w 31 m
 have hb0:=Cm.hb w m
 have hs0:=Cm.hs w m
 have hb1:=hb0.alloc (by omega) (.cells #[.pointer r,.int .i64 L.kvs.length] 147)
 have hs1:((w.alloc (.cells #[.int .i64 m.k,.int .i64 m.t,.int .i64 m.o,.int .i64 m.d,.int .i64 m.v,.int .i64 m.b,.int .i64 m.x,.int .i64 m.y,.int .i64 m.n] 31)).alloc (.cells #[.pointer r,.int .i64 L.kvs.length] 147)).heap.size=w.heap.size+1+1:=by simp
 have hX:=World.alloc_heap_new (w.alloc (.cells #[.int .i64 m.k,.int .i64 m.t,.int .i64 m.o,.int .i64 m.d,.int .i64 m.v,.int .i64 m.b,.int .i64 m.x,.int .i64 m.y,.int .i64 m.n] 31)) (.cells #[.pointer r,.int .i64 L.kvs.length] 147)
 rw [hs0] at hX
 have hC1:=hC0.alloc (by omega) (.cells #[.pointer r,.int .i64 L.kvs.length] 147)
 have hT1:TxL n₀ ((w.alloc (.cells #[.int .i64 m.k,.int .i64 m.t,.int .i64 m.o,.int .i64 m.d,.int .i64 m.v,.int .i64 m.b,.int .i64 m.x,.int .i64 m.y,.int .i64 m.n] 31)).alloc (.cells #[.pointer r,.int .i64 L.kvs.length] 147)) (w.heap.size+1) L :=
  ⟨⟨⟨r,hX,hI.below (hb1.mono hn0)⟩,by omega⟩,hok,by omega⟩
 have c0:=hB.c0
 have c1:=hB.c1
 have HRe:=hid (refused_any n₀ (w.heap.size+1) m hm L _ hT1)
 have HT1:=hid hT1
 have HC1:=hid hC1
 have HB1:=hid hb1
 have Hs1:=hid hs1
 have HA:=hid hA0
 have HBx:=hid hB
 clear hX hT1 hC0 hb0 hs0 hC1 hb1 hs1 hA0 hB hI
 unfold Cm.val at *
 go_enter func43,ntmps43
 go_wp2_with fail
 refine HRe.out.mono ?_
 clear HRe c0 c1
 rintro e w2 ⟨rfl,hb2⟩
 have hB1:=HB1.out
 have hT1:=HT1.out
 have hC1:=HC1.out
 have hs1:=Hs1.out
 clear HB1 HT1 HC1 Hs1
 generalize (w.alloc (.cells #[.int .i64 m.k,.int .i64 m.t,.int .i64 m.o,.int .i64 m.d,.int .i64 m.v,.int .i64 m.b,.int .i64 m.x,.int .i64 m.y,.int .i64 m.n] 31)).alloc (.cells #[.pointer r,.int .i64 L.kvs.length] 147)=w1 at *
 have hB2:Below w.heap.size w w2:=hB1.trans (hb2.mono (by omega))
 have hT2:=hT1.below hb2
 have hC2:=hC1.below hb2 (by omega)
 have hs2:=hb2.size
 by_cases he:L.err m=0
 ·have hen:(L.err m != 0)=false:=by simp [he]
  obtain ⟨c0,c1,c2,c3,c4,c5,c6,c7,c8⟩:=all9.1 hC2.1
  simp only [Cm.ints] at c0 c1 c2 c3 c4 c5 c6 c7 c8
  have HPf:=hid (perform_any hm hT2 (by omega) (by omega) (hcan he))
  unfold Cm.val at HPf
  have HE:=hid he
  clear he hC1 hC2 hT1 hT2
  go_wp2_with fail
  refine HPf.out.mono ?_
  clear HPf c0 c1 c2 c3 c4 c5 c6 c7 c8
  rintro e w3 ⟨v,rfl,hi3,⟨n₁,hT3⟩,hk3⟩
  obtain ⟨⟨⟨r3,hX3,hI3⟩,hf3⟩,hok3,hfw3⟩:=hT3
  have hk03:Keeps (fun k=>k=w.heap.size+1) w w3:=(below_toKeeps hB2 _).trans hk3
  have hL3:LedBox w3 l d r L.kvs.length lim:=keeps_same hk03 (by omega) HBx.out
  have hlen:=act_len L m
  have d0:=hX3.c0
  have d1:=hX3.c1
  have d2:=hL3.c2
  have HLn:=hid (len_any r3 (L.act m).kvs.length)
  have HX3:=hid hX3
  have HI3:=hid hI3
  have HL3:=hid hL3
  have HK3:=hid hk03
  have HIn:=hid hi3
  have hsl3:=hk3.size
  clear hk3 hk03 hX3 hI3 hL3 hi3 hb2 hB1 hB2
  go_wp2_with fail
  obtain ⟨ln,hln⟩:∃ ln,ln=(L.act m).kvs.length:=⟨_,rfl⟩
  rw [<- hln] at d1 HLn HX3
  have HLen:=hid hln
  clear hln
  by_cases hlt:lim<ln
  ·have hlt':(lim:Int)<(ln:Int):=by omega
   go_region_held3 (fun u=>u.cell? ⟨w.heap.size+1,0,none⟩=some (.pointer r3)/\u.cell? ⟨w.heap.size+1,1,none⟩=some (.int .i64 ln)/\u.cell? ⟨l,4,none⟩=some (.int .i64 lim)) (go_keep) (first
    | (go_at_call 72;refine (HLn.out _).mono ?_;rintro e w4 ⟨rfl,hb4⟩;have d0:=(hb4.cell (p:=⟨w.heap.size+1,0,none⟩) HX3.out.lt).trans d0;have d1:=(hb4.cell (p:=⟨w.heap.size+1,1,none⟩) HX3.out.lt).trans d1;have d2:=(hb4.cell (p:=⟨l,4,none⟩) HL3.out.lt).trans d2;have HB4:=hid hb4;clear hb4))
   all_goals
    go_wp2
    go_ret2
    have hS:L.stepE lim m=3/\L.stepN lim m=[]/\L.stepL lim m=L:=by
     have hgt:¬ (L.act m).kvs.length<=lim:=by have:=HLen.out;omega
     simp [Led.stepE,Led.stepN,Led.stepL,HE.out,hgt]
    have hk4:=(HK3.out.drew).trans (below_toKeeps HB4.out (fun k=>k=w.heap.size+1))
    refine ⟨.slice none 0 0,?_,?_,?_,hk4.mono (fun k hk h=>by omega)⟩
    ·rw [hS.1];rfl
    ·rw [hS.2.1];exact .inr ⟨rfl,rfl⟩
    ·rw [hS.2.2]
     exact HA.out.below (hk4.toBelow (fun k h=>by omega) nlr)
  ·have hlt':(ln:Int)<=(lim:Int):=by omega
   go_region_held3 (fun u=>u.cell? ⟨w.heap.size+1,0,none⟩=some (.pointer r3)/\u.cell? ⟨w.heap.size+1,1,none⟩=some (.int .i64 ln)/\u.cell? ⟨l,4,none⟩=some (.int .i64 lim)) (go_keep) (first
    | (go_at_call 72;refine (HLn.out _).mono ?_;rintro e w4 ⟨rfl,hb4⟩;have d0:=(hb4.cell (p:=⟨w.heap.size+1,0,none⟩) HX3.out.lt).trans d0;have d1:=(hb4.cell (p:=⟨w.heap.size+1,1,none⟩) HX3.out.lt).trans d1;have d2:=(hb4.cell (p:=⟨l,4,none⟩) HL3.out.lt).trans d2;have HB4:=hid hb4;clear hb4))
   all_goals
    have hL4:LedBox w4 l d r L.kvs.length lim:=(HB4.out.block l HL3.out.lt).trans HL3.out
    have e0:=hL4.c0
    have e1:=hL4.c1
    have f0:=hL4.fz 2
    have f1:=hL4.fz 3
    have HL4:=hid hL4
    clear hL4
    go_wp2
    go_ret2
    have hS:L.stepE lim m=0/\L.stepN lim m=L.tell m/\L.stepL lim m=L.act m:=by
     have hle:(L.act m).kvs.length<=lim:=by have:=HLen.out;omega
     simp [Led.stepE,Led.stepN,Led.stepL,HE.out,hle]
    have hk4:=(HK3.out.drew).trans (below_toKeeps HB4.out (fun k=>k=w.heap.size+1))
    have hb34:Below w3.heap.size w3 w4:=(Below.refl _ w3).drew.trans HB4.out
    have hkl:Keeps (fun k=>k=l) w w4:=hk4.mono (fun k hk h=>by omega)
    have hL5:=ledBox_set0 HL4.out r3
    have hL6:=ledBox_set1 hL5 ln
    refine ⟨v,?_,?_,⟨⟨r3,n₁,?_,?_⟩,by rw [hS.2.2];exact hok3,by have:=HLen.out;rw [hS.2.2];omega,hlim⟩,?_⟩
    ·rw [hS.1];rfl
    ·rw [hS.2.1]
     exact ((HIn.out.below' hb34).store HL4.out hL5).store hL5 hL6
    ·rw [hS.2.2,<- HLen.out];exact hL6
    ·rw [hS.2.2]
     have h4:TreeIs n₁ w4 r3 (L.act m).kvs:=HI3.out.below (hb34.mono HI3.out.2.1)
     exact (h4.setLed HL4.out _ _).setLed hL5 _ _
    ·exact (hkl.setCell (p:=⟨l,2,none⟩) (.inl rfl) _).setCell (p:=⟨l,3,none⟩) (.inl rfl) _
 ·have hen:(L.err m != 0)=true:=by simp [he]
  have HS:=hid (show L.stepE lim m=L.err m/\L.stepN lim m=[]/\L.stepL lim m=L by simp [Led.stepE,Led.stepN,Led.stepL,he])
  clear hcan
  go_wp2
  go_ret2
  refine ⟨.slice none 0 0,?_,?_,?_,below_toKeeps hB2 _⟩
  ·rw [HS.out.1];rfl
  ·rw [HS.out.2.1];exact .inr ⟨rfl,rfl⟩
  ·rw [HS.out.2.2];exact HA.out.below hB2
end
section
open Go.RowKit Go.Shelf
theorem turnXY_inj {s:Nat}:∀ (k:Nat) {p p':Nat×Nat},p.1<s->p.2<s->p'.1<s->p'.2<s->turnXY s k p=turnXY s k p'->p=p'
 | 0,_,_,_,_,_,_,h=>h
 | k+1,p,p',h1,h2,h3,h4,h=>by
  have a:=turnXY_lt h1 h2 k
  have b:=turnXY_lt h3 h4 k
  simp only [turnXY,Prod.mk.injEq] at h
  refine turnXY_inj k h1 h2 h3 h4 (Prod.ext ?_ ?_)
  ·omega
  ·omega
namespace Led
variable {L:Led} {m:Cm}
theorem tubeD_some {n:Nat} {q:PT} (h:L.tube n=some q):L.tubeD n=q:=by unfold tubeD;rw [h];rfl
theorem occ_none (hI:L.Inv) (h:L.occ m=0):∀ u∈L.ts,m.b=u.2.box->m.x=u.2.x->m.y=u.2.y->False:=by
 intro u hu e1 e2 e3
 unfold occ occN at h
 cases hf:(L.ts.filter (inBox m.b)).find? (atPl m.x m.y) with
 | none =>
  have:=List.find?_eq_none.1 hf u (List.mem_filter.2 ⟨hu,by simp only [inBox,decide_eq_true_eq];omega⟩)
  simp only [atPl,decide_eq_true_eq] at this
  exact this ⟨e2.symm,e3.symm⟩
 | some t =>
  rw [hf] at h
  have ht:=(List.mem_filter.1 (List.mem_of_find?_eq_some hf)).1
  have:=(hI.ok.t1 t ht).1
  simp only at h;omega
theorem occ_own (hI:L.Inv) (hb:1<=m.b) (h:L.occ m=m.t) (ht:1<=m.t):∀ u∈L.ts,u.1≠m.t->m.b=u.2.box->m.x=u.2.x->m.y=u.2.y->False:=by
 intro u hu hne e1 e2 e3
 unfold occ occN at h
 cases hf:(L.ts.filter (inBox m.b)).find? (atPl m.x m.y) with
 | none=>rw [hf] at h;simp only at h;omega
 | some t =>
  rw [hf] at h
  simp only at h
  obtain ⟨ht1,ht2⟩:=List.mem_filter.1 (List.mem_of_find?_eq_some hf)
  have ht3:=List.find?_some hf
  simp only [atPl,decide_eq_true_eq,inBox] at ht3 ht2
  have:=hI.apart t ht1 u hu (by omega) (by omega) (by omega) (by omega)
  omega
theorem good_tubeD (hI:L.Inv) {n:Nat} (h:(L.tube n).isSome=true):(L.tubeD n).Good/\(n,L.tubeD n)∈L.ts/\L.tube n=some (L.tubeD n)/\1<=n/\n<=999:=by
 obtain ⟨q,hq,hD⟩:=tube_of h
 have hm:=(tube_mem hI.ok).1 hq
 rw [hD]
 exact ⟨(hI.ok.t1 _ hm).2.2,hm,hq,(hI.ok.t1 _ hm).1,(hI.ok.t1 _ hm).2.1⟩
theorem inv_pour (hI:L.Inv) (hv1:1<=m.v) (ho:m.t<m.o) (h1:(L.tube m.t).isSome=true) (h2:(L.tube m.o).isSome=true) (hl:m.v<=(L.tubeD m.t).left) (hr:(L.tubeD m.o).left+m.v<=1000000) (hp:L.pouredN m.t m.o+m.v<=1000000):(L.pourL m).Inv:=by
 obtain ⟨g1,m1,e1,r1,_⟩:=good_tubeD hI h1
 obtain ⟨g2,m2,e2,_,r2⟩:=good_tubeD hI h2
 have i1:(L.putT m.t ((L.tubeD m.t).less m.v)).Inv:=inv_same hI e1 ⟨g1.x,g1.y,g1.box,g1.donor,g1.status,g1.thaws,g1.began,by have:=g1.left;show (L.tubeD m.t).left - m.v<=1000000;omega,g1.used,g1.lost⟩ rfl rfl rfl rfl rfl
 have e2':(L.putT m.t ((L.tubeD m.t).less m.v)).tube m.o=some (L.tubeD m.o):=by rw [putT_tube,if_neg (by omega)];exact e2
 have eD:(L.putT m.t ((L.tubeD m.t).less m.v)).tubeD m.o=L.tubeD m.o:=tubeD_some e2'
 have i2:((L.putT m.t ((L.tubeD m.t).less m.v)).putT m.o ((L.tubeD m.o).more m.v)).Inv:=inv_same i1 e2' ⟨g2.x,g2.y,g2.box,g2.donor,g2.status,g2.thaws,g2.began,hr,g2.used,g2.lost⟩ rfl rfl rfl rfl rfl
 have e:L.pourL m={ ((L.putT m.t ((L.tubeD m.t).less m.v)).putT m.o ((L.tubeD m.o).more m.v)) with ps:=insP L.ps m.t m.o (L.pouredN m.t m.o+m.v) }:=by
  show ({ ((L.putT m.t ((L.tubeD m.t).less m.v)).putT m.o (((L.putT m.t ((L.tubeD m.t).less m.v)).tubeD m.o).more m.v)) with ps:=_ }:Led)=_
  rw [eD];rfl
 rw [e]
 refine inv_insP i2 ⟨r1,ho,r2⟩ ⟨by omega,hp⟩ ?_ ?_
 ·rw [putT_tube,putT_tube];split
  ·rfl
  ·rw [if_pos rfl];rfl
 ·rw [putT_tube,if_pos rfl];rfl
theorem inv_act (hI:L.Inv) (hm:m.Ok) (h:L.err m=0):(L.act m).Inv:=by
 have hmb:=hm.b
 have hmx:=hm.x
 have hmy:=hm.y
 have hmv:=hm.v
 by_cases h1:m.k=1
 ·rw [act,if_pos h1]
  refine inv_insB hI ⟨hm.b1 (by omega),hmb⟩ ⟨hm.n1 (by omega),hm.n⟩ ?_
  obtain ⟨_,_,_,hb⟩:=err_zero h
  unfold asksB at hb;rw [if_neg (by omega),if_neg (by omega),if_pos h1] at hb
  have:=hb _ (.head _)
  simp only [bne_eq_false_iff_eq] at this;omega
 by_cases h2:m.k=2
 ·rw [act,if_neg h1,if_pos h2]
  obtain ⟨b1,b2,b3⟩:=noB h (.inl h2)
  have b4:L.occ m=0:=by omega
  have hb1:=hm.b1 (by omega)
  have hmd:=hm.d
  have hd1:=hm.d1 (by omega)
  exact inv_putT hI ⟨hm.t1 (by omega),hm.t⟩ (by constructor <;> simp only <;> omega) (by show m.b≠0↔1=1;omega) (fun h0=>by have h0':m.b=0:=h0;omega) (fun _=>⟨b1,b2⟩) (fun _ u hu _ e1 e2 e3=>occ_none hI b4 u hu e1 e2 e3) (fun _=>rfl)
 by_cases h3:m.k=3
 ·rw [act,if_neg h1,if_neg h2,if_pos h3]
  obtain ⟨b1,b2,b3⟩:=noB h (.inr (.inl h3))
  obtain ⟨s1,s2⟩:=no37 h (.inl h3)
  obtain ⟨g,mm,e,r1,r2⟩:=good_tubeD hI s2
  have hb1:=hm.b1 (by omega)
  refine inv_putT hI ⟨r1,r2⟩ ⟨by show m.x<5;omega,by show m.y<5;omega,by show m.b<=9;omega,g.donor,by show 1<=1/\1<=3;omega,g.thaws,g.began,g.left,g.used,g.lost⟩ ?_ ?_ (fun _=>⟨b1,b2⟩) (fun _ u hu hne e1 e2 e3 => ?_) (fun _ => ?_)
  ·show m.b≠0↔1=1;omega
  ·intro h0;have h0':m.b=0:=h0;omega
  ·rcases b3 with b3 | b3
   ·exact occ_none hI b3 u hu e1 e2 e3
   ·exact occ_own hI hb1 b3.2 r1 u hu hne e1 e2 e3
  ·exact hI.lost _ mm (by simp only;omega)
 by_cases h4:m.k=4
 ·rw [act,if_neg h1,if_neg h2,if_neg h3,if_pos h4]
  obtain ⟨b1,b2,b3⟩:=noB h (.inr (.inr (.inl h4)))
  have b4:L.occ m=0:=by omega
  obtain ⟨a1,a2,a3,a4,a5⟩:=no4 h h4
  obtain ⟨g,mm,e,r1,r2⟩:=good_tubeD hI a4
  have hb1:=hm.b1 (by omega)
  have hmo:=hm.o
  have gd:=g.donor
  have gt:=hmv
  have i1:(L.putT m.o ⟨m.x,m.y,m.b,(L.tubeD m.t).donor,1,0,0,0,0,0⟩).Inv:=inv_putT hI ⟨by omega,hmo⟩ (by constructor <;> simp only <;> omega) (by show m.b≠0↔1=1;omega) (fun h0=>by have h0':m.b=0:=h0;omega) (fun _=>⟨b1,b2⟩) (fun _ u hu _ e1 e2 e3=>occ_none hI b4 u hu e1 e2 e3) (fun _=>rfl)
  have t1:(L.putT m.o ⟨m.x,m.y,m.b,(L.tubeD m.t).donor,1,0,0,0,0,0⟩).tube m.t=some (L.tubeD m.t):=by rw [putT_tube,if_neg (by omega)];exact e
  have t2:(L.putT m.o ⟨m.x,m.y,m.b,(L.tubeD m.t).donor,1,0,0,0,0,0⟩).tube m.o=some ⟨m.x,m.y,m.b,(L.tubeD m.t).donor,1,0,0,0,0,0⟩:=by rw [putT_tube,if_pos rfl]
  have hp0:L.pouredN m.t m.o=0:=by unfold pouredN;rw [none_pour hI (by simpa using a5)];rfl
  refine inv_pour i1 (hm.v1 (by omega)) a1 (by rw [t1];rfl) (by rw [t2];rfl) ?_ ?_ ?_
  ·rw [tubeD_some t1];exact a2
  ·have:(L.putT m.o ⟨m.x,m.y,m.b,(L.tubeD m.t).donor,1,0,0,0,0,0⟩).tubeD m.o=⟨m.x,m.y,m.b,(L.tubeD m.t).donor,1,0,0,0,0,0⟩:=tubeD_some t2
   rw [this];simp only;omega
  ·have:(L.putT m.o ⟨m.x,m.y,m.b,(L.tubeD m.t).donor,1,0,0,0,0,0⟩).pouredN m.t m.o=L.pouredN m.t m.o:=rfl
   rw [this,hp0];omega
 by_cases h5:m.k=5
 ·rw [act,if_neg h1,if_neg h2,if_neg h3,if_neg h4,if_pos h5]
  obtain ⟨a1,a2,a3,a4,a5,a6,a7,a8⟩:=no5 h h5
  exact inv_pour hI (hm.v1 (by omega)) a1 a4 a5 a2 a6 a7
 by_cases h6:m.k=6
 ·rw [act,if_neg h1,if_neg h2,if_neg h3,if_neg h4,if_neg h5,if_pos h6]
  obtain ⟨a1,a2,a3,a4⟩:=no6 h h6
  obtain ⟨g,mm,e,r1,r2⟩:=good_tubeD hI a4
  exact inv_same hI e ⟨g.x,g.y,g.box,g.donor,g.status,g.thaws,g.began,by have:=g.left;show (L.tubeD m.t).left - m.v<=1000000;omega,a2,g.lost⟩ rfl rfl rfl rfl rfl
 by_cases h7:m.k=7
 ·rw [act,if_neg h1,if_neg h2,if_neg h3,if_neg h4,if_neg h5,if_neg h6,if_pos h7]
  obtain ⟨s1,s2⟩:=no37 h (.inr h7)
  obtain ⟨g,mm,e,r1,r2⟩:=good_tubeD hI s2
  refine inv_putT hI ⟨r1,r2⟩ ⟨by show (0:Nat)<5;omega,by show (0:Nat)<5;omega,by show (0:Nat)<=9;omega,g.donor,by show 1<=2/\2<=3;omega,g.thaws,g.began,g.left,g.used,g.lost⟩ ?_ (fun _=>⟨rfl,rfl⟩) (fun h0=>absurd rfl h0) (fun h0=>absurd rfl h0) (fun _ => ?_)
  ·show (0:Nat)≠0↔2=1;omega
  ·exact hI.lost _ mm (by simp only;omega)
 by_cases h8:m.k=8
 ·rw [act,if_neg h1,if_neg h2,if_neg h3,if_neg h4,if_neg h5,if_neg h6,if_neg h7,if_pos h8]
  obtain ⟨b1,b2,b3⟩:=noB h (.inr (.inr (.inr h8)))
  have b4:L.occ m=0:=by omega
  obtain ⟨s1,s2⟩:=no8 h h8
  obtain ⟨g,mm,e,r1,r2⟩:=good_tubeD hI s2
  have hb1:=hm.b1 (by omega)
  refine inv_putT hI ⟨r1,r2⟩ ⟨by show m.x<5;omega,by show m.y<5;omega,by show m.b<=9;omega,g.donor,by show 1<=1/\1<=3;omega,by show min ((L.tubeD m.t).thaws+1) 9<=9;omega,g.began,g.left,g.used,g.lost⟩ ?_ ?_ (fun _=>⟨b1,b2⟩) (fun _ u hu hne e1 e2 e3=>occ_none hI b4 u hu e1 e2 e3) (fun _ => ?_)
  ·show m.b≠0↔1=1;omega
  ·intro h0;have h0':m.b=0:=h0;omega
  ·exact hI.lost _ mm (by simp only;omega)
 have hbg:∀ t∈L.ts,inBox m.b t=true->t.2.box=m.b:=fun t _ ht=>by simp only [inBox,decide_eq_true_eq] at ht;omega
 by_cases h9:m.k=9
 ·rw [act,if_neg h1,if_neg h2,if_neg h3,if_neg h4,if_neg h5,if_neg h6,if_neg h7,if_neg h8,if_pos h9]
  have hg:∀ t∈L.ts,(L.goneS m.d t.1&&!decide (t.2.status=3))=true->(PT.lostAll t.2).Good:=fun t ht _=>by
   have g:=(hI.ok.t1 t ht).2.2
   exact ⟨by show (0:Nat)<5;omega,by show (0:Nat)<5;omega,by show (0:Nat)<=9;omega,g.donor,by show 1<=3/\3<=3;omega,g.thaws,g.began,by show (0:Nat)<=1000000;omega,g.used,g.left⟩
  unfold hits
  rw [chg_map hI.ok _ PT.lostAll hg]
  exact inv_map hI _ PT.lostAll hg (fun t _ _=>by show (0:Nat)≠0↔3=1;omega) (fun t _ _ _=>⟨rfl,rfl⟩) (fun t _ _ h0=>absurd rfl h0) (fun t _ u _ _ h0=>absurd rfl h0) (fun t _ _ h0=>absurd rfl h0)
 by_cases h10:m.k=10
 ·rw [act,if_neg h1,if_neg h2,if_neg h3,if_neg h4,if_neg h5,if_neg h6,if_neg h7,if_neg h8,if_neg h9,if_pos h10]
  have hb1:=hm.b1 (by omega)
  have hs5:=sideN_lt hI.ok m.b
  have hpl:∀ t∈L.ts,inBox m.b t=true->t.2.x<L.sideN m.b/\t.2.y<L.sideN m.b:=fun t ht hb=>by
   have:=hI.place t ht (by have:=hbg t ht hb;omega)
   rwa [hbg t ht hb] at this
  have hg:∀ t∈L.ts,inBox m.b t=true->((fun q:PT=>q.turnedBy (L.sideN m.b) m.n) t.2).Good:=fun t ht hb=>by
   have g:=(hI.ok.t1 t ht).2.2
   have h2:=hpl t ht hb
   have h3:=turnXY_lt (p:=(t.2.x,t.2.y)) h2.1 h2.2 m.n
   exact ⟨by show (turnXY _ _ _).1<5;omega,by show (turnXY _ _ _).2<5;omega,g.box,g.donor,g.status,g.thaws,g.began,g.left,g.used,g.lost⟩
  rw [chg_map hI.ok _ _ hg]
  refine inv_map hI _ _ hg (fun t ht _=>hI.box t ht) (fun t ht hb h0 => ?_) (fun t ht hb h0 => ?_) (fun t ht u hu hb h0=>⟨fun hb2 e1 e2 e3 => ?_,fun hb2 e1 _ _ => ?_⟩) (fun t ht _=>hI.lost t ht)
  ·have:=hbg t ht hb;have h0':t.2.box=0:=h0;omega
  ·have h2:=hpl t ht hb
   have h3:=turnXY_lt (p:=(t.2.x,t.2.y)) h2.1 h2.2 m.n
   have e:((fun q:PT=>q.turnedBy (L.sideN m.b) m.n) t.2).box=m.b:=hbg t ht hb
   rw [e];exact h3
  ·have p1:=hpl t ht hb
   have p2:=hpl u hu hb2
   have:=turnXY_inj m.n (p:=(t.2.x,t.2.y)) (p':=(u.2.x,u.2.y)) p1.1 p1.2 p2.1 p2.2 (Prod.ext e2 e3)
   simp only [Prod.mk.injEq] at this
   exact hI.apart t ht u hu h0 e1 this.1 this.2
  ·have e1':t.2.box=u.2.box:=e1
   have:=hbg t ht hb
   simp only [inBox,decide_eq_false_iff_not] at hb2;omega
 by_cases h11:m.k=11
 ·rw [act,if_neg h1,if_neg h2,if_neg h3,if_neg h4,if_neg h5,if_neg h6,if_neg h7,if_neg h8,if_neg h9,if_neg h10,if_pos h11]
  have hb1:=hm.b1 (by omega)
  have hs5:=sideN_lt hI.ok m.b
  have hpl:∀ t∈L.ts,inBox m.b t=true->t.2.x<L.sideN m.b/\t.2.y<L.sideN m.b:=fun t ht hb=>by
   have:=hI.place t ht (by have:=hbg t ht hb;omega)
   rwa [hbg t ht hb] at this
  have hg:∀ t∈L.ts,inBox m.b t=true->((fun q:PT=>q.flippedIn (L.sideN m.b)) t.2).Good:=fun t ht hb=>by
   have g:=(hI.ok.t1 t ht).2.2
   exact ⟨by show L.sideN m.b - 1 - t.2.x<5;omega,g.y,g.box,g.donor,g.status,g.thaws,g.began,g.left,g.used,g.lost⟩
  rw [chg_map hI.ok _ _ hg]
  refine inv_map hI _ _ hg (fun t ht _=>hI.box t ht) (fun t ht hb h0 => ?_) (fun t ht hb h0 => ?_) (fun t ht u hu hb h0=>⟨fun hb2 e1 e2 e3 => ?_,fun hb2 e1 _ _ => ?_⟩) (fun t ht _=>hI.lost t ht)
  ·have:=hbg t ht hb;have h0':t.2.box=0:=h0;omega
  ·have h2:=hpl t ht hb
   have e:((fun q:PT=>q.flippedIn (L.sideN m.b)) t.2).box=m.b:=hbg t ht hb
   rw [e]
   exact ⟨by show L.sideN m.b - 1 - t.2.x<_;omega,h2.2⟩
  ·have p1:=hpl t ht hb
   have p2:=hpl u hu hb2
   have e2':L.sideN m.b - 1 - t.2.x=L.sideN m.b - 1 - u.2.x:=e2
   exact hI.apart t ht u hu h0 e1 (by omega) e3
  ·have e1':t.2.box=u.2.box:=e1
   have:=hbg t ht hb
   simp only [inBox,decide_eq_false_iff_not] at hb2;omega
 rw [act,if_neg h1,if_neg h2,if_neg h3,if_neg h4,if_neg h5,if_neg h6,if_neg h7,if_neg h8,if_neg h9,if_neg h10,if_neg h11]
 exact hI
theorem inv_step (hI:L.Inv) (hm:m.Ok) (lim:Nat):(L.stepL lim m).Inv:=by
 unfold stepL
 split
 ·rename_i h;exact inv_act hI hm h.1
 ·exact hI
end Led
end
section
namespace Led
def Even (q:PT) (i o:Nat):Prop:=q.began+i=q.left+q.used+q.lost+o
structure Kept (L:Led) (i o:Nat->Nat):Prop where
 is:∀ n q,L.tube n=some q->Even q (i n) (o n)
 non:∀ n,L.tube n=Option.none->i n=0/\o n=0
def addAt (f:Nat->Nat) (a v:Nat):Nat->Nat:=fun n=>if n=a then f n+v else f n
variable {L:Led} {m:Cm} {i o:Nat->Nat}
theorem Kept.put (h:L.Kept i o) (n:Nat) (q:PT) (hq:Even q (i n) (o n)):(L.putT n q).Kept i o:=by
 refine ⟨fun k r hr => ?_,fun k hk => ?_⟩
 ·rw [putT_tube] at hr
  split at hr
  ·next e=>subst e;cases hr;exact hq
  ·exact h.is k r hr
 ·rw [putT_tube] at hk
  split at hk
  ·cases hk
  ·exact h.non k hk
theorem Kept.chg (f:PT->PT):∀ (l:List TN) (L:Led),L.Kept i o->(∀ t∈l,Even (f t.2) (i t.1) (o t.1))->(L.chg f l).Kept i o
 | [],_,h,_=>h
 | t::l,L,h,hl=>by
  rw [chg_cons]
  exact Kept.chg f l _ (h.put _ _ (hl t (List.mem_cons_self ..))) (fun u hu=>hl u (List.mem_cons_of_mem _ hu))
theorem Kept.pour (h:L.Kept i o) (ht:m.t<m.o) {q r:PT} (hq:L.tube m.t=some q) (hr:L.tube m.o=some r) (hv:m.v<=q.left):(L.pourL m).Kept (addAt i m.o m.v) (addAt o m.t m.v):=by
 have e1:L.tubeD m.t=q:=tubeD_some hq
 have e2:(L.putT m.t (q.less m.v)).tube m.o=some r:=by rw [putT_tube,if_neg (by omega)];exact hr
 have e3:(L.putT m.t (q.less m.v)).tubeD m.o=r:=tubeD_some e2
 have hT:∀ n,(L.pourL m).tube n=if n=m.o then some (r.more m.v) else if n=m.t then some (q.less m.v) else L.tube n:=fun n=>by
  have:(L.pourL m).tube n=((L.putT m.t (q.less m.v)).putT m.o (r.more m.v)).tube n:=by
   unfold pourL;rw [e1];simp only [e3];rfl
  rw [this,putT_tube,putT_tube]
 have hqe:=h.is _ _ hq
 have hre:=h.is _ _ hr
 unfold Even at hqe hre
 refine ⟨fun n s hs => ?_,fun n hn => ?_⟩
 ·rw [hT] at hs
  unfold addAt
  by_cases c1:n=m.o
  ·rw [if_pos c1] at hs
   cases hs
   subst c1
   rw [if_pos rfl,if_neg (by omega)]
   show r.began+(i m.o+m.v)=(r.left+m.v)+r.used+r.lost+o m.o
   omega
  ·rw [if_neg c1] at hs
   by_cases c2:n=m.t
   ·rw [if_pos c2] at hs
    cases hs
    subst c2
    rw [if_neg c1,if_pos rfl]
    show q.began+i m.t=(q.left - m.v)+q.used+q.lost+(o m.t+m.v)
    omega
   ·rw [if_neg c2] at hs
    rw [if_neg c1,if_neg c2]
    exact h.is n s hs
 ·rw [hT] at hn
  unfold addAt
  split at hn
  ·cases hn
  ·split at hn
   ·cases hn
   ·next c1 c2 =>
    rw [if_neg c1,if_neg c2]
    exact h.non n hn
theorem Kept.act (h:L.Kept i o) (hI:L.Inv) (_hm:m.Ok) (he:L.err m=0) (hk:m.k≠4/\m.k≠5):(L.act m).Kept i o:=by
 obtain ⟨h4,h5⟩:=hk
 have hsum:∀ t∈L.ts,Even t.2 (i t.1) (o t.1):=fun t ht=>h.is t.1 t.2 ((tube_mem hI.ok).2 ht)
 have hD:∀ n,(L.tube n).isSome=true->Even (L.tubeD n) (i n) (o n):=fun n hn=>by
  obtain ⟨_,_,e,_⟩:=good_tubeD hI hn
  exact h.is n _ e
 by_cases h1:m.k=1
 ·rw [Led.act,if_pos h1];exact ⟨h.is,h.non⟩
 by_cases h2:m.k=2
 ·rw [Led.act,if_neg h1,if_pos h2]
  have hn:=no2 he h2
  have:=h.non m.t (by simpa using hn)
  refine h.put _ _ ?_
  show m.v+i m.t=m.v+0+0+o m.t
  omega
 by_cases h3:m.k=3
 ·rw [Led.act,if_neg h1,if_neg h2,if_pos h3]
  exact h.put _ _ (hD _ (no37 he (.inl h3)).2)
 by_cases h6:m.k=6
 ·rw [Led.act,if_neg h1,if_neg h2,if_neg h3,if_neg h4,if_neg h5,if_pos h6]
  obtain ⟨a1,a2,a3,a4⟩:=no6 he h6
  have:=hD _ a4
  unfold Even at this
  refine h.put _ _ ?_
  show (L.tubeD m.t).began+i m.t=((L.tubeD m.t).left - m.v)+((L.tubeD m.t).used+m.v)+(L.tubeD m.t).lost+o m.t
  omega
 by_cases h7:m.k=7
 ·rw [Led.act,if_neg h1,if_neg h2,if_neg h3,if_neg h4,if_neg h5,if_neg h6,if_pos h7]
  exact h.put _ _ (hD _ (no37 he (.inr h7)).2)
 by_cases h8:m.k=8
 ·rw [Led.act,if_neg h1,if_neg h2,if_neg h3,if_neg h4,if_neg h5,if_neg h6,if_neg h7,if_pos h8]
  exact h.put _ _ (hD _ (no8 he h8).2)
 by_cases h9:m.k=9
 ·rw [Led.act,if_neg h1,if_neg h2,if_neg h3,if_neg h4,if_neg h5,if_neg h6,if_neg h7,if_neg h8,if_pos h9]
  refine Kept.chg _ _ _ h (fun t ht => ?_)
  obtain ⟨t1,t2⟩:=List.mem_filter.1 ht
  have hs:t.2.status≠3:=by simp at t2;exact t2.2
  have hl:=hI.lost t t1 hs
  have:=hsum t t1
  unfold Even at this
  show t.2.began+i t.1=0+t.2.used+t.2.left+o t.1
  omega
 by_cases h10:m.k=10
 ·rw [Led.act,if_neg h1,if_neg h2,if_neg h3,if_neg h4,if_neg h5,if_neg h6,if_neg h7,if_neg h8,if_neg h9,if_pos h10]
  exact Kept.chg _ _ _ h (fun t ht=>hsum t (List.mem_filter.1 ht).1)
 by_cases h11:m.k=11
 ·rw [Led.act,if_neg h1,if_neg h2,if_neg h3,if_neg h4,if_neg h5,if_neg h6,if_neg h7,if_neg h8,if_neg h9,if_neg h10,if_pos h11]
  exact Kept.chg _ _ _ h (fun t ht=>hsum t (List.mem_filter.1 ht).1)
 rw [Led.act,if_neg h1,if_neg h2,if_neg h3,if_neg h4,if_neg h5,if_neg h6,if_neg h7,if_neg h8,if_neg h9,if_neg h10,if_neg h11]
 exact h
theorem Kept.actP (h:L.Kept i o) (hI:L.Inv) (he:L.err m=0) (hk:m.k=4\/m.k=5):(L.act m).Kept (addAt i m.o m.v) (addAt o m.t m.v):=by
 rcases hk with hk | hk
 ·rw [Led.act,if_neg (by omega),if_neg (by omega),if_neg (by omega),if_pos hk]
  obtain ⟨a1,a2,a3,a4,a5⟩:=no4 he hk
  obtain ⟨_,_,e,_⟩:=good_tubeD hI a4
  have hz:=h.non m.o (by simpa using a5)
  have h1:=h.put m.o ⟨m.x,m.y,m.b,(L.tubeD m.t).donor,1,0,0,0,0,0⟩ (by show 0+i m.o=0+0+0+o m.o;omega)
  exact h1.pour a1 (q:=L.tubeD m.t) (by rw [putT_tube,if_neg (by omega)];exact e) (by rw [putT_tube,if_pos rfl]) a2
 ·rw [Led.act,if_neg (by omega),if_neg (by omega),if_neg (by omega),if_neg (by omega),if_pos hk]
  obtain ⟨a1,a2,a3,a4,a5,_⟩:=no5 he hk
  obtain ⟨_,_,e,_⟩:=good_tubeD hI a4
  obtain ⟨_,_,e2,_⟩:=good_tubeD hI a5
  exact h.pour a1 e e2 a2
end Led
end
section
namespace Led
def Each (L:Led) (Q:Nat->PT->Prop):Prop:=∀ n q,L.tube n=some q->Q n q
variable {L:Led} {m:Cm} {Q:Nat->PT->Prop}
theorem Each.put (h:L.Each Q) (n:Nat) (q:PT) (hq:Q n q):(L.putT n q).Each Q:=fun k r hr=>by
 rw [putT_tube] at hr
 split at hr
 ·next e=>subst e;cases hr;exact hq
 ·exact h k r hr
theorem Each.chg (f:PT->PT):∀ (l:List TN) (L:Led),L.Each Q->(∀ t∈l,Q t.1 (f t.2))->(L.chg f l).Each Q
 | [],_,h,_=>h
 | t::l,L,h,hl=>by
  rw [chg_cons]
  exact Each.chg f l _ (h.put _ _ (hl t (List.mem_cons_self ..))) (fun u hu=>hl u (List.mem_cons_of_mem _ hu))
theorem Each.pour (h:L.Each Q) (ht:m.t<m.o) {q r:PT} (hq:L.tube m.t=some q) (hr:L.tube m.o=some r) (h1:Q m.t (q.less m.v)) (h2:Q m.o (r.more m.v)):(L.pourL m).Each Q:=by
 have e1:L.tubeD m.t=q:=tubeD_some hq
 have e2:(L.putT m.t (q.less m.v)).tube m.o=some r:=by rw [putT_tube,if_neg (by omega)];exact hr
 have e3:(L.putT m.t (q.less m.v)).tubeD m.o=r:=tubeD_some e2
 have hT:∀ n,(L.pourL m).tube n=((L.putT m.t (q.less m.v)).putT m.o (r.more m.v)).tube n:=fun n=>by
  unfold pourL;rw [e1];simp only [e3];rfl
 intro n s hs
 rw [hT] at hs
 exact (h.put m.t _ h1).put m.o _ h2 n s hs
end Led
end
section
def inF (ps:List PN) (n:Nat):Nat:=(ps.map fun p=>if p.2.1=n then p.2.2 else 0).sum
def outF (ps:List PN) (n:Nat):Nat:=(ps.map fun p=>if p.1=n then p.2.2 else 0).sum
def pLt (a b:Nat) (x:PN):Bool:=decide (x.1<a\/(x.1=a/\x.2.1<b))
def pEq (a b:Nat) (x:PN):Bool:=decide (x.1=a/\x.2.1=b)
def pGt (a b:Nat) (x:PN):Bool:=decide (a<x.1\/(a=x.1/\b<x.2.1))
theorem sum3 (f:PN->Nat) (p q r:PN->Bool) (h:∀ x,(p x=true/\q x=false/\r x=false)\/(p x=false/\q x=true/\r x=false)\/(p x=false/\q x=false/\r x=true)):∀ ps:List PN,(ps.map f).sum=((ps.filter p).map f).sum+((ps.filter q).map f).sum+((ps.filter r).map f).sum
 | []=>rfl
 | x::ps=>by
  have ih:=sum3 f p q r h ps
  simp only [List.map_cons,List.sum_cons,List.filter_cons]
  rcases h x with ⟨h1,h2,h3⟩ | ⟨h1,h2,h3⟩ | ⟨h1,h2,h3⟩ <;>
   (simp only [h1,h2,h3,if_true,List.map_cons,List.sum_cons,Bool.false_eq_true,if_false];omega)
theorem one_pour {L:Led} (h:L.Fit) (a b:Nat) (f:PN->Nat) (hf:f (a,b,0)=0):((L.ps.filter fun x=>decide (x.1=a/\x.2.1=b)).map f).sum=f (a,b,L.pouredN a b):=by
 unfold Led.pouredN Led.pour
 have hpw:=h.ps.filter (fun x=>decide (x.1=a/\x.2.1=b))
 have hin:∀ x∈L.ps.filter (fun x=>decide (x.1=a/\x.2.1=b)),x.1=a/\x.2.1=b:=fun x hx=>by simpa using (List.mem_filter.1 hx).2
 generalize L.ps.filter (fun x=>decide (x.1=a/\x.2.1=b))=l at *
 match l,hpw,hin with
 | [],_,_=>simpa using hf.symm
 | [x],_,hin =>
  obtain ⟨x1,x2,x3⟩:=x
  obtain ⟨rfl,rfl⟩:=hin _ (List.mem_singleton.2 rfl)
  simp
 | x::y::l,hpw,hin =>
  have h1:=(List.pairwise_cons.1 hpw).1 y (List.mem_cons_self ..)
  have h2:=hin x (List.mem_cons_self ..)
  have h3:=hin y (List.mem_cons_of_mem _ (List.mem_cons_self ..))
  omega
theorem ins_sum {L:Led} (h:L.Fit) (a b v:Nat) (f:PN->Nat) (hf:f (a,b,0)=0):((insP L.ps a b v).map f).sum+f (a,b,L.pouredN a b)=(L.ps.map f).sum+f (a,b,v):=by
 have h3:=sum3 f (pLt a b) (pEq a b) (pGt a b) (fun x=>by
  simp only [pLt,pEq,pGt,decide_eq_true_eq,decide_eq_false_iff_not];omega) L.ps
 have h4:((L.ps.filter (pEq a b)).map f).sum=f (a,b,L.pouredN a b):=one_pour h a b f hf
 have e1:insP L.ps a b v=L.ps.filter (pLt a b)++(a,b,v)::L.ps.filter (pGt a b):=rfl
 rw [e1,List.map_append,List.map_cons,List.sum_append,List.sum_cons,h3,h4]
 omega
theorem inF_ins {L:Led} (h:L.Fit) (a b v:Nat):inF (insP L.ps a b (L.pouredN a b+v))=Led.addAt (inF L.ps) b v:=by
 funext n
 have:=ins_sum h a b (L.pouredN a b+v) (fun p=>if p.2.1=n then p.2.2 else 0) (by simp)
 simp only [inF,Led.addAt]
 by_cases e:n=b
 ·subst e;simp only [if_true] at this ⊢;omega
 ·have e':¬ b=n:=fun x=>e x.symm
  simp only [e',if_false] at this
  simp only [e,if_false];omega
theorem outF_ins {L:Led} (h:L.Fit) (a b v:Nat):outF (insP L.ps a b (L.pouredN a b+v))=Led.addAt (outF L.ps) a v:=by
 funext n
 have:=ins_sum h a b (L.pouredN a b+v) (fun p=>if p.1=n then p.2.2 else 0) (by simp)
 simp only [outF,Led.addAt]
 by_cases e:n=a
 ·subst e;simp only [if_true] at this ⊢;omega
 ·have e':¬ a=n:=fun x=>e x.symm
  simp only [e',if_false] at this
  simp only [e,if_false];omega
namespace Led
variable {L:Led} {m:Cm}
def DeadQ (_:Nat) (q:PT):Prop:=q.status=3->q.left=0
structure Sound (L:Led):Prop where
 inv:L.Inv
 kept:L.Kept (inF L.ps) (outF L.ps)
 dead:L.Each DeadQ
theorem none_sound (h:Led.Inv ⟨[],[],[]⟩):Led.Sound ⟨[],[],[]⟩ :=
 ⟨h,⟨fun n q hq=>(by cases hq),fun n _=>⟨rfl,rfl⟩⟩,fun n q hq=>(by cases hq)⟩
theorem chg_ps (f:PT->PT):∀ (l:List TN) (L:Led),(L.chg f l).ps=L.ps
 | [],_=>rfl
 | t::l,L=>by rw [chg_cons,chg_ps f l];rfl
theorem act_ps (h4:m.k≠4) (h5:m.k≠5):(L.act m).ps=L.ps:=by
 unfold act
 repeat' split
 all_goals first | rfl | contradiction | exact chg_ps _ _ _
theorem dead_act (h:L.Each DeadQ) (hI:L.Inv) (he:L.err m=0):(L.act m).Each DeadQ:=by
 have hsum:∀ t∈L.ts,DeadQ t.1 t.2:=fun t ht=>h t.1 t.2 ((tube_mem hI.ok).2 ht)
 by_cases h1:m.k=1
 ·rw [Led.act,if_pos h1];exact h
 by_cases h2:m.k=2
 ·rw [Led.act,if_neg h1,if_pos h2]
  exact h.put _ _ (fun e=>by cases e)
 by_cases h3:m.k=3
 ·rw [Led.act,if_neg h1,if_neg h2,if_pos h3]
  exact h.put _ _ (fun e=>by cases e)
 by_cases h4:m.k=4
 ·rw [Led.act,if_neg h1,if_neg h2,if_neg h3,if_pos h4]
  obtain ⟨a1,a2,a3,a4,a5⟩:=no4 he h4
  obtain ⟨_,_,e,_⟩:=good_tubeD hI a4
  have h1':(L.putT m.o ⟨m.x,m.y,m.b,(L.tubeD m.t).donor,1,0,0,0,0,0⟩).Each DeadQ:=Each.put h _ _ (fun e=>by cases e)
  exact h1'.pour a1 (q:=L.tubeD m.t) (by rw [putT_tube,if_neg (by omega)];exact e) (r:=⟨m.x,m.y,m.b,(L.tubeD m.t).donor,1,0,0,0,0,0⟩) (by rw [putT_tube,if_pos rfl]) (fun e=>by have e':(L.tubeD m.t).status=3:=e;omega) (fun e=>by cases e)
 by_cases h5:m.k=5
 ·rw [Led.act,if_neg h1,if_neg h2,if_neg h3,if_neg h4,if_pos h5]
  obtain ⟨a1,a2,a3,a4,a5,a6,a7,a8⟩:=no5 he h5
  obtain ⟨_,_,e,_⟩:=good_tubeD hI a4
  obtain ⟨_,_,e2,_⟩:=good_tubeD hI a5
  exact Each.pour h a1 e e2 (fun e=>by have e':(L.tubeD m.t).status=3:=e;omega) (fun e=>by have e':(L.tubeD m.o).status=3:=e;omega)
 by_cases h6:m.k=6
 ·rw [Led.act,if_neg h1,if_neg h2,if_neg h3,if_neg h4,if_neg h5,if_pos h6]
  obtain ⟨a1,a2,a3,a4⟩:=no6 he h6
  exact h.put _ _ (fun e=>absurd (show (L.tubeD m.t).status=3 from e) a3)
 by_cases h7:m.k=7
 ·rw [Led.act,if_neg h1,if_neg h2,if_neg h3,if_neg h4,if_neg h5,if_neg h6,if_pos h7]
  exact h.put _ _ (fun e=>by cases e)
 by_cases h8:m.k=8
 ·rw [Led.act,if_neg h1,if_neg h2,if_neg h3,if_neg h4,if_neg h5,if_neg h6,if_neg h7,if_pos h8]
  exact h.put _ _ (fun e=>by cases e)
 by_cases h9:m.k=9
 ·rw [Led.act,if_neg h1,if_neg h2,if_neg h3,if_neg h4,if_neg h5,if_neg h6,if_neg h7,if_neg h8,if_pos h9]
  exact Each.chg _ _ _ h (fun t ht=>fun _=>rfl)
 by_cases h10:m.k=10
 ·rw [Led.act,if_neg h1,if_neg h2,if_neg h3,if_neg h4,if_neg h5,if_neg h6,if_neg h7,if_neg h8,if_neg h9,if_pos h10]
  exact Each.chg _ _ _ h (fun t ht=>hsum t (List.mem_filter.1 ht).1)
 by_cases h11:m.k=11
 ·rw [Led.act,if_neg h1,if_neg h2,if_neg h3,if_neg h4,if_neg h5,if_neg h6,if_neg h7,if_neg h8,if_neg h9,if_neg h10,if_pos h11]
  exact Each.chg _ _ _ h (fun t ht=>hsum t (List.mem_filter.1 ht).1)
 rw [Led.act,if_neg h1,if_neg h2,if_neg h3,if_neg h4,if_neg h5,if_neg h6,if_neg h7,if_neg h8,if_neg h9,if_neg h10,if_neg h11]
 exact h
theorem sound_act (h:L.Sound) (hm:m.Ok) (he:L.err m=0) (hI:(L.act m).Inv):(L.act m).Sound:=by
 refine ⟨hI,?_,dead_act h.dead h.inv he⟩
 by_cases hk:m.k=4\/m.k=5
 ·have h1:=h.kept.actP h.inv he hk
  have e:(L.act m).ps=insP L.ps m.t m.o (L.pouredN m.t m.o+m.v):=by
   rcases hk with hk | hk
   ·rw [Led.act,if_neg (by omega),if_neg (by omega),if_neg (by omega),if_pos hk];rfl
   ·rw [Led.act,if_neg (by omega),if_neg (by omega),if_neg (by omega),if_neg (by omega),if_pos hk];rfl
  rw [e,inF_ins h.inv.ok.fit,outF_ins h.inv.ok.fit]
  exact h1
 ·rw [act_ps (fun e=>hk (.inl e)) (fun e=>hk (.inr e))]
  exact h.kept.act h.inv hm he ⟨fun e=>hk (.inl e),fun e=>hk (.inr e)⟩
theorem sound_step (h:L.Sound) (hm:m.Ok) (lim:Nat):(L.stepL lim m).Sound:=by
 have hI:=inv_step h.inv hm lim
 unfold stepL at hI ⊢
 split
 ·next c=>rw [if_pos c] at hI;exact sound_act h hm c.1 hI
 ·exact h
end Led
end
end Go.Proofs.YtalncjhldkcmaaaGreat
