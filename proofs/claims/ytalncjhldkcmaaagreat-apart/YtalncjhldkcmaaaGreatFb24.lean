import Derived.Test.YtalncjhldkcmaaaGreatFb21
import Derived.Lib.QuietBelow
namespace Go.Proofs.YtalncjhldkcmaaaGreat
open _root_.Go.Proofs.Tryz
set_option maxHeartbeats 16000000
set_option maxRecDepth 8000
section
open Go.RowKit Go.Shelf
open Go.Sort (grow)
attribute [local go_sem] run_store_cplx
def ownP (L:Led) (n:Nat) (q:PT):Bool:=(decide (q.x<L.sideN q.box)&&decide (q.y<L.sideN q.box))&&decide (occN q.x q.y (L.ts.filter (inBox q.box))=n)
theorem Calls.regrown_same {P:Program} {f:FuncId} {args:Array Value} {w:World} {d:Nat} {os:Array Obj} {v:Value}
  (h:Calls P f args (grow (redrawn w d) os) fun e w'=>e=.returned v/\w'=grow (redrawn w d) os):Calls P f args (grow (redrawn w d) os) fun e w''=>e=.returned v/\∃ p:Regrown,w''=grow (redrawn w p.d) p.os :=
 h.mono fun _ _ ⟨he,hb⟩=>⟨he,⟨d,os⟩,hb⟩
theorem ownPlace_any (n₀ b n:Nat) (q:PT) (hq:q.Ok) (L:Led) (w:World) (hT:TxF n₀ w b L) :
  Calls prog 191 #[.pointer (some ⟨b,0,none⟩),.int .i64 n,q.val] w fun e w'=>e=.returned (.bool (ownP L n q))/\Below w.heap.size w w':=by
 have hmx:prog.follows .mixedOrders=true:=by kernel_rfl
 have hb1:Below w.heap.size w (w.alloc (.cells #[.complex .f64 (fl q.x) (fl q.y),.int .i64 q.box,.int .i64 q.donor,.int .i64 q.status,.int .i64 q.thaws,.int .i64 q.began,.int .i64 q.left,.int .i64 q.used,.int .i64 q.lost] 216)):=bal
 have hN:=World.alloc_heap_new w (.cells #[.complex .f64 (fl q.x) (fl q.y),.int .i64 q.box,.int .i64 q.donor,.int .i64 q.status,.int .i64 q.thaws,.int .i64 q.began,.int .i64 q.left,.int .i64 q.used,.int .i64 q.lost] 216)
 have hbx:q.box<1024:=by have:=hq.box;omega
 have HS:=hid (fun u (hu:Below w.heap.size w u)=>side_fit n₀ b q.box L u (hT.below hu) hbx)
 have HI:=hid (fun u => @isIn_any q.x q.y hq.x hq.y (L.sideN q.box) u)
 have HO:=hid (fun u (hu:Below w.heap.size w u)=>occupant_fit n₀ b q.box q.x q.y hq.x hq.y L u (hT.below hu))
 have HE:=hid (show ownP L n q=((decide ((q.x:Int)<(L.sideN q.box:Int))&&decide ((q.y:Int)<(L.sideN q.box:Int)))&&decide (occN q.x q.y (L.ts.filter (inBox q.box))=n)) by
  unfold ownP
  rw [show decide ((q.x:Int)<(L.sideN q.box:Int))=decide (q.x<L.sideN q.box) from decide_eq_decide.2 (by omega),show decide ((q.y:Int)<(L.sideN q.box:Int))=decide (q.y<L.sideN q.box) from decide_eq_decide.2 (by omega)])
 simp only [PT.val,PT.cells,pl] at HI HO ⊢
 go_enter func191,ntmps191
 go_wp2_with fail
 have hc0:(w.alloc (.cells #[.complex .f64 (fl q.x) (fl q.y),.int .i64 q.box,.int .i64 q.donor,.int .i64 q.status,.int .i64 q.thaws,.int .i64 q.began,.int .i64 q.left,.int .i64 q.used,.int .i64 q.lost] 216)).cell? ⟨w.heap.size,0,none⟩=some (.complex .f64 (fl q.x) (fl q.y)):=by simp only [World.cell?,hN];rfl
 have hc1:(w.alloc (.cells #[.complex .f64 (fl q.x) (fl q.y),.int .i64 q.box,.int .i64 q.donor,.int .i64 q.status,.int .i64 q.thaws,.int .i64 q.began,.int .i64 q.left,.int .i64 q.used,.int .i64 q.lost] 216)).cell? ⟨w.heap.size,1,none⟩=some (.int .i64 q.box):=by simp only [World.cell?,hN];rfl
 have q0:=cell_regrown hc0
 have q1:=cell_regrown hc1
 clear hN hc0 hc1
 generalize w.alloc (.cells #[.complex .f64 (fl q.x) (fl q.y),.int .i64 q.box,.int .i64 q.donor,.int .i64 q.status,.int .i64 q.thaws,.int .i64 q.began,.int .i64 q.left,.int .i64 q.used,.int .i64 q.lost] 216)=w1 at *
 have hall:∀ d os,Below w.heap.size w (grow (redrawn w1 d) os):=fun d os=>hb1.trans ((below_regrown w1 d os).mono hb1.size)
 have kS:=fun d os=>Calls.regrown_of (HS.out (grow (redrawn w1 d) os) (hall d os))
 have kI:=fun d os=>Calls.regrown_same (HI.out (grow (redrawn w1 d) os))
 have kO:=fun d os=>Calls.regrown_of (HO.out (grow (redrawn w1 d) os) (hall d os))
 have HB1:=hid hb1
 clear hall hb1 HS HI HO
 generalize L.sideN q.box=sd at *
 generalize occN q.x q.y (L.ts.filter (inBox q.box))=oc at *
 generalize fl q.x=fx at *
 generalize fl q.y=fy at *
 cases hin:(decide ((q.x:Int)<(sd:Int))&&decide ((q.y:Int)<(sd:Int))) with
 | false =>
  rw [hin] at kI
  refine wp_region_quiet_below hmx (by kernel_rfl) ?_
  repeat (quiet_step (first | with_reducible exact kS _ _ | with_reducible exact kI _ _ | with_reducible exact kO _ _))
  refine wpQuiet_nil ?_
  intro _ hw'
  obtain ⟨⟨dq,osq⟩,hw''⟩:=hw'
  subst hw''
  go_wp2
  go_ret
  rw [HE.out,hin]
  exact ⟨rfl,HB1.out.trans ((below_regrown w1 dq osq).mono HB1.out.size)⟩
 | true =>
  rw [hin] at kI
  refine wp_region_quiet_below hmx (by kernel_rfl) ?_
  repeat (quiet_step (first | with_reducible exact kS _ _ | with_reducible exact kI _ _ | with_reducible exact kO _ _))
  refine wpQuiet_nil ?_
  intro _ hw'
  obtain ⟨⟨dq,osq⟩,hw''⟩:=hw'
  subst hw''
  go_wp2
  go_ret
  rw [HE.out,hin]
  refine ⟨congrArg Ending.returned (congrArg Value.bool ?_),HB1.out.trans ((below_regrown w1 dq osq).mono HB1.out.size)⟩
  rw [Bool.true_and,Bool.eq_iff_iff,beq_iff_eq,decide_eq_true_eq]
  omega
end
end Go.Proofs.YtalncjhldkcmaaaGreat
