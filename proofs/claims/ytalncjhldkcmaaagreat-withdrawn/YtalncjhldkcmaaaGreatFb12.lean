import Derived.Test.YtalncjhldkcmaaaGreatFb08
import Derived.Test.YtalncjhldkcmaaaGreatFb11
namespace Go.Proofs.YtalncjhldkcmaaaGreat
open _root_.Go.Proofs.Tryz
set_option maxHeartbeats 16000000
set_option maxRecDepth 8000
section
open Go.RowKit Go.Shelf
attribute [local go_sem] run_store_cplx
theorem rec_set1 {u:World} {p:Nat} {q q':PT} {i:Nat} {v:Value} (hR:RecBox u p q.cells) (h:q.cells.set! i v=q'.cells):RecBox (u.setCell ⟨p,i,none⟩ v) p q'.cells/\Keeps (fun k=>k=p) u (u.setCell ⟨p,i,none⟩ v):=by
 refine ⟨?_,(Keeps.refl (fun k=>k=p) u).setCell (p:=⟨p,i,none⟩) (.inl rfl) _⟩
 rw [<- h];exact hR.set i v
theorem pour1_turns {w:World} {cb:Nat} {c:Nat->Int} {q:PT} {v:Nat} (hC:Has w cb c) (hl:cb<w.heap.size) (hv:c 4=v) (hle:v<=q.left) (hq:q.Ok) :
  Turns 155 #[.pointer (some ⟨cb,0,none⟩)] w.heap.size w q { q with left:=q.left - v }:=by
 intro u p hb hp hR
 have hz:=hq.left
 have hE:=hid (rec_set1 (q':={ q with left:=q.left - v }) (i:=6) (v:=.int .i64 ((q.left:Int) - v)) hR (by simp [PT.cells];omega))
 obtain ⟨c0,c1,c2,c3,c4,c5,c6,c7,c8⟩:=hR.cells
 have f6:=hR.fz 6
 have k4:=(hb.cell (p:=⟨cb,4,none⟩) hl).trans (hC.1 4 (by omega))
 rw [hv] at k4
 clear hR hC
 simp only [List.append_toArray,List.cons_append,List.nil_append]
 go_enter func155,ntmps155
 go_wp2_with fail
 go_region
 go_end0
 exact ⟨rfl,hE.out.1,hE.out.2.drew⟩
theorem pour2_turns {w:World} {cb:Nat} {c:Nat->Int} {q:PT} {v:Nat} (hC:Has w cb c) (hl:cb<w.heap.size) (hv:c 4=v) (hle:v<=16777216) (hq:q.Ok) :
  Turns 156 #[.pointer (some ⟨cb,0,none⟩)] w.heap.size w q { q with left:=q.left+v }:=by
 intro u p hb hp hR
 have hz:=hq.left
 have hE:=hid (rec_set1 (q':={ q with left:=q.left+v }) (i:=6) (v:=.int .i64 ((q.left:Int)+v)) hR (by simp [PT.cells]))
 obtain ⟨c0,c1,c2,c3,c4,c5,c6,c7,c8⟩:=hR.cells
 have f6:=hR.fz 6
 have k4:=(hb.cell (p:=⟨cb,4,none⟩) hl).trans (hC.1 4 (by omega))
 rw [hv] at k4
 clear hR hC
 simp only [List.append_toArray,List.cons_append,List.nil_append]
 go_enter func156,ntmps156
 go_wp2_with fail
 go_region
 go_end0
 exact ⟨rfl,hE.out.1,hE.out.2.drew⟩
theorem take_turns {w:World} {q:PT}:Turns 159 #[] w.heap.size w q (q.gone 2):=by
 intro u p hb hp hR
 have hL:=leave_any p q 2 u hR
 simp only [List.append_toArray,List.cons_append,List.nil_append]
 go_enter func159,ntmps159
 go_wp2_with (go_at_call 160;refine hL.mono ?_;clear hL;rintro e u1 ⟨rfl,h1,h2⟩)
 go_end0
 exact ⟨rfl,h1,h2⟩
def PT.lostAll (q:PT):PT:={ (q.gone 3) with lost:=q.left,left:=0 }
theorem destroy_turns {w:World} {q:PT}:Turns 164 #[] w.heap.size w q q.lostAll:=by
 intro u p hb hp hR
 have hk:RecBox ((u.setCell ⟨p,8,none⟩ (.int .i64 q.left)).setCell ⟨p,6,none⟩ (.int .i64 0)) p ({ q with lost:=q.left,left:=0 }:PT).cells/\Keeps (fun k=>k=p) u ((u.setCell ⟨p,8,none⟩ (.int .i64 q.left)).setCell ⟨p,6,none⟩ (.int .i64 0)):=by
  refine ⟨?_,((Keeps.refl (fun k=>k=p) u).setCell (p:=⟨p,8,none⟩) (.inl rfl) _).setCell (p:=⟨p,6,none⟩) (.inl rfl) _⟩
  have:=(hR.set 8 (.int .i64 q.left)).set 6 (.int .i64 0)
  simp only [PT.cells,Array.set!_eq_setIfInBounds,List.setIfInBounds_toArray,List.set_cons_zero,List.set_cons_succ] at this
  exact this
 have HK:=hid hk
 have HL:=hid (leave_any p _ 3 _ hk.1)
 obtain ⟨c0,c1,c2,c3,c4,c5,c6,c7,c8⟩:=hR.cells
 have f6:=hR.fz 6
 have f8:=hR.fz 8
 clear hR hk
 simp only [List.append_toArray,List.cons_append,List.nil_append]
 go_enter func164,ntmps164
 go_wp2_with (go_at_call 160;refine HL.out.mono ?_;clear HL;rintro e u1 ⟨rfl,h1,h2⟩)
 go_end0
 exact ⟨rfl,h1,HK.out.2.trans h2⟩
theorem use_turns {w:World} {cb:Nat} {c:Nat->Int} {q:PT} {v:Nat} (hC:Has w cb c) (hl:cb<w.heap.size) (hv:c 4=v) (hle:v<=q.left) (hq:q.Ok) :
  Turns 158 #[.pointer (some ⟨cb,0,none⟩)] w.heap.size w q { q with left:=q.left - v,used:=q.used+v }:=by
 intro u p hb hp hR
 have hz:=hq.left
 have hz7:=hq.used
 have hE:=hid (rec_set1 (q':={ q with left:=q.left - v }) (i:=6) (v:=.int .i64 ((q.left:Int) - v)) hR (by simp [PT.cells];omega))
 have hE2:=hid (rec_set1 (q':={ q with left:=q.left - v,used:=q.used+v }) (i:=7) (v:=.int .i64 ((q.used:Int)+v)) (hE.out.1) (by simp [PT.cells]))
 obtain ⟨c0,c1,c2,c3,c4,c5,c6,c7,c8⟩:=hR.cells
 have f6:=hR.fz 6
 have f7:=hR.fz 7
 have k4:=(hb.cell (p:=⟨cb,4,none⟩) hl).trans (hC.1 4 (by omega))
 rw [hv] at k4
 have hne:p≠cb:=by omega
 clear hR hC
 simp only [List.append_toArray,List.cons_append,List.nil_append]
 go_enter func158,ntmps158
 go_wp2_with fail
 go_region
 go_wp2_with fail
 go_region
 go_end0
 exact ⟨rfl,hE2.out.1,(hE.out.2.trans hE2.out.2).drew.drew⟩
end
section
open Go.RowKit Go.Shelf
attribute [local go_sem] run_store_cplx
def PT.backAt (q:PT) (bx px py:Nat):PT:={ (q.stored bx px py) with thaws:=min (q.thaws+1) 9 }
theorem give_turns {w:World} {cb:Nat} {c:Nat->Int} {q:PT} {bx px py:Nat} (hq:q.Ok) (hC:Has w cb c) (hl:cb<w.heap.size) (h5:c 5=bx) (h6:c 6=px) (h7:c 7=py) (hx:px<5) (hy:py<5) :
  Turns 161 #[.pointer (some ⟨cb,0,none⟩)] w.heap.size w q (q.backAt bx px py):=by
 intro u p hb hp hR
 have HS:=hid (store_any p q bx px py u.drew hR)
 have hpl:=@placeAt_any px py (by omega) (by omega)
 have k5:=(hb.cell (p:=⟨cb,5,none⟩) hl).trans (hC.1 5 (by omega))
 have k6:=(hb.cell (p:=⟨cb,6,none⟩) hl).trans (hC.1 6 (by omega))
 have k7:=(hb.cell (p:=⟨cb,7,none⟩) hl).trans (hC.1 7 (by omega))
 have hth:=hq.thaws
 rw [h5] at k5
 rw [h6] at k6
 rw [h7] at k7
 simp only [pl] at HS hpl
 clear hR hC
 simp only [List.append_toArray,List.cons_append,List.nil_append]
 go_enter func161,ntmps161
 go_wp2_with fail
 go_region_with (first
  | (go_at_call 147;refine (hpl _).mono ?_;rintro e w' ⟨rfl,rfl⟩)
  | (go_at_call 151;refine HS.out.mono ?_;clear HS;rintro e u1 ⟨rfl,hr1,hk1⟩))
 all_goals
  have hE:=hid (fun t (ht:t=min ((q.thaws:Int)+1) 9)=>rec_set1 (q':=q.backAt bx px py) (i:=4) (v:=.int .i64 t) hr1 (by subst ht;simp [PT.cells,PT.backAt,PT.stored];omega))
  have c4:=hr1.cells.c4
  have f4:=hr1.fz 4
  simp only [PT.stored] at c4
  have HK:=hid (((Keeps.refl (fun k=>k=p) u).drew).trans hk1)
  clear hr1 hk1
  by_cases h9:(q.thaws:Int)+1<=9
  ·obtain ⟨e1,e2⟩:=hE.out ((q.thaws:Int)+1) (by omega)
   have hmn:min ((q.thaws:Int)+1) 9=(q.thaws:Int)+1:=by omega
   have HE:=hid (And.intro e1 e2)
   clear hE e1 e2
   go_wp2
   go_end0
   exact ⟨rfl,HE.out.1,HK.out.trans HE.out.2⟩
  ·obtain ⟨e1,e2⟩:=hE.out 9 (by omega)
   have hmn:min ((q.thaws:Int)+1) 9=9:=by omega
   have HE:=hid (And.intro e1 e2)
   clear hE e1 e2
   go_wp2
   go_end0
   exact ⟨rfl,HE.out.1,HK.out.trans HE.out.2⟩
end
section
open Go.RowKit Go.Shelf
attribute [local go_sem] run_store_cplx
theorem flip_turns {w:World} {sb s:Nat} {q:PT} (hC:w.cell? ⟨sb,0,none⟩=some (.int .i64 s)) (hl:sb<w.heap.size) (hx:q.x<s) (hy:q.y<s) (hs:s<6) :
  Turns 168 #[.pointer (some ⟨sb,0,none⟩)] w.heap.size w q { q with x:=s - 1 - q.x }:=by
 intro u p hb hp hR
 have hfl:=@flipped_any s q.x q.y hx hy hs
 have hE:=hid (rec_set1 (q':={ q with x:=s - 1 - q.x }) (i:=0) (v:=.complex .f64 (fl (s - 1 - q.x)) (fl q.y)) hR (by simp [PT.cells,pl]))
 obtain ⟨c0,c1,c2,c3,c4,c5,c6,c7,c8⟩:=hR.cells
 have f0:=hR.fz 0
 have k0:=(hb.cell (p:=⟨sb,0,none⟩) hl).trans hC
 simp only [pl] at hfl
 clear hR hC
 simp only [List.append_toArray,List.cons_append,List.nil_append]
 go_enter func168,ntmps168
 go_wp2_with fail
 go_region_with (go_at_call 169;refine (hfl _).mono ?_;rintro e w' ⟨rfl,rfl⟩)
 all_goals go_end0
 all_goals exact ⟨rfl,hE.out.1,hE.out.2.drew⟩
def turnXY (s:Nat):Nat->Nat×Nat->Nat×Nat
 | 0,p=>p
 | k+1,p=>(s - 1 - (turnXY s k p).2,(turnXY s k p).1)
theorem turnXY_lt {s:Nat} {p:Nat×Nat} (h1:p.1<s) (h2:p.2<s):∀ k,(turnXY s k p).1<s/\(turnXY s k p).2<s
 | 0=>⟨h1,h2⟩
 | k+1=>by have:=turnXY_lt h1 h2 k;simp only [turnXY];omega
def PT.turnedBy (q:PT) (s k:Nat):PT:={ q with x:=(turnXY s k (q.x,q.y)).1,y:=(turnXY s k (q.x,q.y)).2 }
theorem turn_turns {w:World} {cb sb s n:Nat} {c:Nat->Int} {q:PT} (hC:Has w cb c) (hl:cb<w.heap.size) (h8:c 8=n) (hn:n<100) (hS:w.cell? ⟨sb,0,none⟩=some (.int .i64 s)) (hsl:sb<w.heap.size) (hx:q.x<s) (hy:q.y<s) (hs:s<6) :
  Turns 166 #[.pointer (some ⟨cb,0,none⟩),.pointer (some ⟨sb,0,none⟩)] w.heap.size w q (q.turnedBy s n):=by
 intro u p hb hp hR
 have k8:=(hb.cell (p:=⟨cb,8,none⟩) hl).trans (hC.1 8 (by omega))
 have k0:=(hb.cell (p:=⟨sb,0,none⟩) hsl).trans hS
 have hus:=hb.size
 rw [h8] at k8
 have HR:=hid hR
 clear hR hC hS
 simp only [List.append_toArray,List.cons_append,List.nil_append]
 go_enter func166,ntmps166
 go_wp2_with fail
 go_loopg [6] n (fun gk i wr=>∃ m:Nat,m+gk=n/\i=.int .i64 m/\RecBox wr p (q.turnedBy s m).cells/\Keeps (fun k=>k=p) u wr)
 case atStart=>exact ⟨0,by omega,rfl,HR.out,Keeps.refl _ _⟩
 case round =>
  obtain ⟨m,hm,rfl,hr,hk⟩:=hrel
  have HM:=hid hm
  have hmle:m<=n:=by omega
  clear hm
  by_cases hlt:m<n
  ·have hlt':(m:Int)<(n:Int):=by omega
   have hb2:=turnXY_lt (p:=(q.x,q.y)) hx hy m
   have hfl:=@turned_any s (q.turnedBy s m).x (q.turnedBy s m).y hb2.1 hb2.2 hs
   have hE:=hid (rec_set1 (q':=q.turnedBy s (m+1)) (i:=0) (v:=.complex .f64 (fl (s - 1 - (q.turnedBy s m).y)) (fl (q.turnedBy s m).x)) hr (by simp [PT.cells,pl,PT.turnedBy,turnXY]))
   have c0:=hr.cells.c0
   have f0:=hr.fz 0
   have k1:=(hk.cell (p:=⟨sb,0,none⟩) (by show sb<_;omega) (by show sb≠p;omega)).trans k0
   have HK:=hid hk
   simp only [pl] at hfl
   clear hr hk hb2
   generalize (q.turnedBy s m).x=xx at *
   generalize (q.turnedBy s m).y=yy at *
   go_wp2_with fail
   go_region_with (go_at_call 167;refine (hfl _).mono ?_;rintro e w' ⟨rfl,rfl⟩)
   all_goals go_wp2_with fail
   all_goals
    go_roundg (gk - 1)
    case measure=>have:=HM.out;omega
    case rel=>exact ⟨m+1,by have:=HM.out;omega,by go_num,hE.out.1,(HK.out.trans hE.out.2).drew⟩
  ·have hme:m=n:=by omega
   subst hme
   have hge:(m:Int)<=(m:Int):=by omega
   go_wp2
   go_end0
   exact ⟨rfl,hr,hk⟩
end
end Go.Proofs.YtalncjhldkcmaaaGreat
