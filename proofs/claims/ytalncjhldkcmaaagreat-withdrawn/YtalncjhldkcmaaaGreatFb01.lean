import Derived.RangeFuncNested
import Derived.RangeFuncBound
import Derived.RangeFuncCalls
import Derived.RangeFuncLeaves
import Derived.Shelf.Abstract
import Derived.Shelf.RegionOpen
import Derived.WalkKit
import Derived.OwnWalkIn
import Derived.TacticsInMore
import Derived.LoopNIn
import Derived.LoopIn
import Derived.Deep.Quiet
import Derived.BigQuiet
namespace Go.Proofs.YtalncjhldkcmaaaGreat
set_option maxHeartbeats 16000000
set_option maxRecDepth 8000
section
open Go.RowKit Go.Shelf
theorem keepsFrom_mono {B B':Nat} {W W':World} (h:KeepsFrom B W W') (hB:B<=B'):KeepsFrom B' W W':=⟨h.size,fun k o hk h0 ho=>h.same k o (Nat.le_trans hB hk) h0 ho⟩
theorem keepsFrom_putObj (W:World) (l:Nat) (o:Obj):KeepsFrom (l+1) W (W.putObj l o):=KeepsFrom.of_grownBy (grownBy_putObj' W l o) (fun j e=>by cases e;omega)
def Gives {α:Type} (P:Program) (g:Nat) (lb:Array Value) (encs:α->Array Value) (n₀:Nat) (xs:List α) (w:World):Prop :=
 ∀ (l:Nat) (J Jx:List α->World->Prop) (W:World),Below w.heap.size w W->l<W.heap.size->OwnFrom W.heap.size J->OwnFrom W.heap.size Jx ->
  (∀ pre x W1,(pre++[x]) <+: xs->J pre W1->YieldAt Fence.wide 0 P l (encs x) W1 fun e W' =>
   (e=.returned (.bool true)/\J (pre++[x]) W'/\Below n₀ W1 W'/\KeepsFrom (l+1) W1 W')\/(e=.returned (.bool false)/\Jx (pre++[x]) W'/\KeepsFrom (l+1) W1 W')) ->
  J [] W ->
  Calls P g (#[.func (.yield l) #[] #[]]++lb) W fun e W'=>(∃ v,e=.returned v)/\(J xs W'\/∃ pre,pre <+: xs/\Jx pre W')
theorem range_law {α:Type} {P:Program} {n:Nat} {g:Operand} {ps:Array Tmp} {assign body:Code} {Q:Exit->Act->World->Prop} {a:Act} {w:World}
  {gf:Nat} {lb:Array Value} (hg:a.eval g=.func (.func gf) #[] lb) (eg:∀ args w,(callFunc gf args).run P w=.ok (.enter gf args) w)
  {encs:α->Array Value} {n₀:Nat} {xs:List α} {w0:World} (hseq:Gives P gf lb encs n₀ xs w0) (hb0:Below w0.heap.size w0 w) (hn:n₀<=w.heap.size) (hps:∀ x,(encs x).size=ps.size)
  (I:List α->World->Prop) (Ix:Code->List α->World->Prop) (hI:OwnFrom w.heap.size I) (hIx:∀ c,OwnFrom w.heap.size (Ix c)) (h0:I [] w)
  (Ax:α->Act->World->Prop) (hAx:∀ x a',OwnFrom w.heap.size (fun (_:Unit) W=>Ax x a' W))
  (hassign:∀ (l:Nat) (pre:List α) (x:α) (W:World) (K:Act->World->Prop),(pre++[x]) <+: xs->I pre W->(∀ a' W',KeepsFrom w.heap.size W W'->Below n₀ W W'->I pre W'->Ax x a' W'->K a' W') ->
   assign.wpIn (Fence.wide.inRound l) 0 P (Exit.then K (fun _ _ _=>False)) { tmps:=(ps.zip (encs x)).foldl (fun t (p,v)=>t.setIfInBounds p v) a.tmps,defers:=[] } W)
  (hbody:∀ (l:Nat) (pre:List α) (x:α) (a':Act) (W:World),w.heap.size<=l->l<W.heap.size->(pre++[x]) <+: xs->I pre W->Ax x a' W->body.wpIn (Fence.wide.inRound l) 0 P (ownPostG w.heap.size (Below n₀) I Ix (pre++[x]) W) a' W)
  (hdone:∀ W,I xs W->W.heap[w.heap.size]? = some (.deferred (some []))->Q .normal { a with defers:={ target:=.collected w.heap.size,args:=#[] }::a.defers } W)
  (hstop:∀ c pre W,pre <+: xs->Ix c pre W->W.heap[w.heap.size]? = some (.deferred (some []))->c.wpIn Fence.wide n P Q { a with defers:={ target:=.collected w.heap.size,args:=#[] }::a.defers } W) :
  (Code.rangeFunc g ps assign body).wpIn Fence.wide n P Q a w:=by
 refine wpIn_rangeFunc fun fn hfn => ?_
 rw [Fence.wide_round]
 obtain ⟨rc,hrc⟩:∃ rc:LoopState->Option Code->Loop,rc=fun st pe=>{ state:=st,pending:=pe,fn,tmps:=a.tmps,params:=ps,assign,body,defers:=w.heap.size }:=⟨_,rfl⟩
 obtain ⟨S,hS⟩:∃ S,(w.alloc (.deferred (some []))).alloc (.loop (rc .ready none))=S:=⟨_,rfl⟩
 have sS:S.heap.size=w.heap.size+2:=by rw [<- hS];simp
 have lS:S.heap[w.heap.size+1]? = some (.loop (rc .ready none)):=by
  rw [<- hS];have:=World.alloc_heap_new (w.alloc (.deferred (some []))) (.loop (rc .ready none));rwa [World.size_alloc] at this
 have dS:S.heap[w.heap.size]? = some (.deferred (some [])):=by
  rw [<- hS];exact (Below.heap_alloc _ _ _ (by simp)).trans (World.alloc_heap_new w _)
 have iS:I [] S:=by rw [<- hS];exact hI.alloc _ (hI.alloc _ h0)
 have bS:Below w0.heap.size w0 S:=by
  rw [<- hS];exact hb0.trans ((((Below.refl _ w).alloc (Nat.le_refl _) _).alloc (by simp) _).mono hb0.size)
 -- what is no cells and lies ahead of S's end lies on through what the iterator turns
 have keep:∀ {A B:World} {row:Option Nat} {k:Nat} {o:Obj},A.grownBy B row->(∀ r,row=some r->S.heap.size<=r/\∃ o:Obj,A.heap[r]? = some o/\o.isCells=false)->k<w.heap.size+2->A.heap[k]? = some o->B.heap[k]? = some o:=by
  intro A B row k o hgr hr hk ha
  refine (hgr.block k (Array.getElem?_eq_some_iff.1 ha).1 (fun e => ?_)).trans ha
  have:=(hr k e.symm).1;omega
 have low:∀ {A:World} {row:Option Nat},(∀ r,row=some r->S.heap.size<=r/\∃ o:Obj,A.heap[r]? = some o/\o.isCells=false)->(∀ r,row=some r->w.heap.size<=r/\∃ o:Obj,A.heap[r]? = some o/\o.isCells=false) :=
  fun hr r e=>⟨by have:=(hr r e).1;omega,(hr r e).2⟩
 refine ⟨w.heap.size+1,[{ target:=.collected w.heap.size,args:=#[] }],S,{ target:=.fn (.func gf) lb,args:=#[.func (.yield (w.heap.size+1)) #[] #[]] },S,gf,
  #[.func (.yield (w.heap.size+1)) #[] #[]]++lb,S,?_,?_,fun _ _=>trivial,?_,fun h=>by simp [Fence.wide] at h,?_⟩
 ·rw [<- hS,hrc];exact run_enterLoop_outer _ _ _ _ _
 ·simp only [resolve,hg];simp [go_sem]
 ·simp [invoke,go_sem,eg]
 refine callsIn_wide.2 ((hseq (w.heap.size+1)
  (fun pre W=>I pre W/\W.heap[w.heap.size+1]? = some (.loop (rc .ready none))/\W.heap[w.heap.size]? = some (.deferred (some [])))
  (fun pre W=>∃ c,Ix c pre W/\W.heap[w.heap.size+1]? = some (.loop (rc .done (some c)))/\W.heap[w.heap.size]? = some (.deferred (some [])))
  S bS (by omega)
  (fun s A B row hs hg' hr=>⟨hI s A B row hs.1 hg' (low hr),keep hg' hr (by omega) hs.2.1,keep hg' hr (by omega) hs.2.2⟩)
  (fun s A B row hs hg' hr=>by
   obtain ⟨c,hc,hl,hk⟩:=hs
   exact ⟨c,hIx c s A B row hc hg' (low hr),keep hg' hr (by omega) hl,keep hg' hr (by omega) hk⟩)
  ?_ ⟨iS,lS,dS⟩).mono ?_)
 ·rintro pre x V hp ⟨hi,hl,hk⟩
  have hy:=run_yield (P:=P) (args:=encs x) hl (by rw [hrc];exact hps x)
  rw [hrc] at hy
  refine ⟨fn,_,assign,body,hy,roundIn_of_wpIn hfn (hassign _ pre x V _ hp hi ?_)⟩
  clear hy
  intro a' V1 k1 b1 i1 ax1
  have l1:=k1.same _ _ (by omega) hl rfl
  have d1:=k1.same _ _ (Nat.le_refl _) hk rfl
  have z1:w.heap.size+1<V1.heap.size:=(Array.getElem?_eq_some_iff.1 l1).1
  refine ⟨_,run_beginRound l1 (by rw [hrc]),?_⟩
  obtain ⟨V2,hV2⟩:∃ V2,V1.putObj (w.heap.size+1) (.loop { rc .ready none with state:=.busy })=V2:=⟨_,rfl⟩
  have l2:V2.heap[w.heap.size+1]? = some (.loop { rc .ready none with state:=.busy }):=by rw [<- hV2];exact World.putObj_heap_same z1
  have d2:V2.heap[w.heap.size]? = some (.deferred (some [])):=by rw [<- hV2];exact (World.putObj_heap_other (by omega)).trans d1
  have b2:Below n₀ V1 V2:=by rw [<- hV2];exact belowK_b hn _ _ _ _ (by omega) l1 rfl rfl
  have k2:KeepsFrom (w.heap.size+1+1) V1 V2:=by rw [<- hV2];exact keepsFrom_putObj _ _ _
  have i2:I pre V2:=by rw [<- hV2];exact hI.putObj _ i1 (by omega) l1 rfl
  have ax2:Ax x a' V2:=by rw [<- hV2];exact (hAx x a').putObj (s:=()) _ ax1 (by omega) l1 rfl
  rw [hV2]
  have z2:w.heap.size+1<V2.heap.size:=(Array.getElem?_eq_some_iff.1 l2).1
  refine wpIn_mono (hbody _ pre x a' V2 (by omega) z2 hp i2 ax2) ?_
  have k12:KeepsFrom (w.heap.size+1+1) V V2:=(keepsFrom_mono k1 (by omega)).trans k2
  -- the round's end
  have fin:∀ (jump:Option Code) (V3:World),KeepsFrom w.heap.size V2 V3 ->
    (Instr.endRound (w.heap.size+1) jump).run P V3=.ok (.bool jump.isNone) (V3.putObj (w.heap.size+1) (.loop (rc (if jump.isNone then .ready else .done) jump))) /\
    V3.heap[w.heap.size+1]? = some (.loop { rc .ready none with state:=.busy }) /\
    (V3.putObj (w.heap.size+1) (.loop (rc (if jump.isNone then .ready else .done) jump))).heap[w.heap.size+1]? = some (.loop (rc (if jump.isNone then .ready else .done) jump)) /\
    (V3.putObj (w.heap.size+1) (.loop (rc (if jump.isNone then .ready else .done) jump))).heap[w.heap.size]? = some (.deferred (some [])) /\
    KeepsFrom (w.heap.size+1+1) V (V3.putObj (w.heap.size+1) (.loop (rc (if jump.isNone then .ready else .done) jump))):=by
   intro jump V3 k3
   have l3:=k3.same _ _ (by omega) l2 rfl
   have:=run_endRound (P:=P) jump l3
   refine ⟨?_,l3,World.putObj_heap_same (Array.getElem?_eq_some_iff.1 l3).1,(World.putObj_heap_other (by omega)).trans (k3.same _ _ (Nat.le_refl _) d2 rfl),(k12.trans (keepsFrom_mono k3 (by omega))).trans (keepsFrom_putObj _ _ _)⟩
   rw [hrc] at this ⊢
   exact this
  rintro e a3 V3 hp3
  cases e with
  | normal =>
   obtain ⟨k3,b3,i3⟩:=hp3
   obtain ⟨hr,l3,l4,d4,k4⟩:=fin none V3 k3
   exact ⟨_,_,hr,.inl ⟨rfl,⟨hI.putObj _ i3 (by omega) l3 rfl,l4,d4⟩,(b1.trans (b2.trans b3)).trans (belowK_b hn _ _ _ _ (by omega) l3 rfl rfl),k4⟩⟩
  | ret =>
   obtain ⟨k3,i3⟩:=hp3
   obtain ⟨hr,l3,l4,d4,k4⟩:=fin (some .ret) V3 k3
   exact ⟨_,_,hr,.inr ⟨rfl,⟨.ret,(hIx _).putObj _ i3 (by omega) l3 rfl,l4,d4⟩,k4⟩⟩
  | exit id =>
   obtain ⟨k3,i3⟩:=hp3
   obtain ⟨hr,l3,l4,d4,k4⟩:=fin (some (.exit id)) V3 k3
   exact ⟨_,_,hr,.inr ⟨rfl,⟨.exit id,(hIx _).putObj _ i3 (by omega) l3 rfl,l4,d4⟩,k4⟩⟩
  | goto t =>
   obtain ⟨k3,i3⟩:=hp3
   obtain ⟨hr,l3,l4,d4,k4⟩:=fin (some (.goto t)) V3 k3
   exact ⟨_,_,hr,.inr ⟨rfl,⟨.goto t,(hIx _).putObj _ i3 (by omega) l3 rfl,l4,d4⟩,k4⟩⟩
  | panic ch=>exact hp3.elim
  | outgrown=>exact hp3.elim
 ·rintro e V ⟨⟨v,rfl⟩,(⟨hi,hl,hk⟩ | ⟨pre,hp,c,hi,hl,hk⟩)⟩
  ·exact ⟨none,_,by have:=run_endLoop (P:=P) hl (by rw [hrc];simp);rw [hrc] at this;exact this,hdone _ (hI.putObj _ hi (by omega) hl rfl) ((World.putObj_heap_other (by omega)).trans hk)⟩
  ·exact ⟨some c,_,by have:=run_endLoop (P:=P) hl (by rw [hrc];simp);rw [hrc] at this;exact this,hstop c pre _ hp ((hIx c).putObj _ hi (by omega) hl rfl) ((World.putObj_heap_other (by omega)).trans hk)⟩
theorem calls_marks {P:Program} {f:FuncId} {fn:Func} {c:Code} {args:Array Value} {w:World} {R:Ending->World->Prop} (hf:P.funcs[f]? = some fn) (hb:fn.body=some c)
  (h:c.wp P (bodyPostM Fence.wide 0 P fn R) { tmps:=args++Array.replicate (fn.ntmps - args.size) undef,defers:=[] } w):Calls P f args w R :=
 (callsIn_wide (n:=0)).1 (callsIn_of_wp_marks hf hb trivial (wpIn_wide.2 h) rfl)
end
section
open Go
section
variable {P:Program} {ops:Array Oper} {md:Region.Mode} {C:World->Prop} {n:Nat}
def Shut (md:Region.Mode) (ops:Array Oper) (listed:Array Bool):Prop:=∀ j o,ops[j]? = some o->listed.getD j false=true->∀ e∈o.after,Region.binds md e=true->listed.getD e.on false=true
theorem shut_step {listed:Array Bool} {i:Nat} (h:Shut md ops listed) (hi:i∈Region.ready md ops listed):Shut md ops (listed.setIfInBounds i true):=by
 intro j o ho hj e he hb
 obtain ⟨_,oi,hoi,hall⟩:=mem_ready.1 hi
 by_cases hij:i=j
 ·subst hij
  rw [hoi] at ho;cases ho
  exact getD_set_true (hall e he hb)
 ·rw [getD_set_ne false hij] at hj
  exact getD_set_true (h j o ho hj e he hb)
def Tails (md:Region.Mode) (ops:Array Oper) (n:Nat):Prop:=∀ listed,Shut md ops listed->(∃ i,i<n/\listed.getD i true=false)->∀ j∈Region.ready md ops listed,j<n
def anyT (P:Program) (md:Region.Mode) (ops:Array Oper) (C:World->Prop) (n:Nat) (Q:Array Bool->Act->Prop):Nat->Array Bool->Act->Prop
 | 0,listed,a=>(∀ j∈Region.ready md ops listed,¬ j<n)/\Q listed a
 | fuel+1,listed,a=>Region.ready md ops listed≠[]/\∀ i∈Region.ready md ops listed,qOp P ops C i (anyT P md ops C n Q fuel (listed.setIfInBounds i true)) a
theorem wpAny_of_T {Q:Array Bool->Act->Prop} {Q':Exit->Act->World->Prop} {m:Nat} (hQ:∀ listed a w,C w->Q listed a->wpAny P md ops Q' m listed a w):∀ (fuel:Nat) (listed:Array Bool) (a:Act) (w:World),C w ->
  anyT P md ops C n Q fuel listed a->wpAny P md ops Q' (m+fuel) listed a w
 | 0,_,_,_,hw,h=>hQ _ _ _ hw h.2
 | fuel+1,_,_,_,hw,h=>⟨fun h0=>absurd h0 h.1,fun i hi=>wpOp_of_qOp hw (fun a' w' hw'=>wpAny_of_T hQ fuel _ a' w' hw') (h.2 i hi)⟩
theorem anyT_first {Q:Array Bool->Act->Prop} (hT:Tails md ops n) {i:Nat} {oi:Oper} {v:Value} (hin:i<n) (hi:ops[i]? = some oi) (hsel:∀ (j:Nat) (o:Oper) cs b,ops[j]? = some o->o.op≠.select cs b) :
  ∀ (fuel:Nat) (listed:Array Bool) (a:Act),Shut md ops listed ->
   (∀ j oj,ops[j]? = some oj->j≠i->listed.getD j true=false->(∀ e∈oj.after,Region.binds md e=true->e.on≠i)->oi.apart ops oj=true) ->
   i∈Region.ready md ops listed->YieldsIn P ops C oi v a ->
   anyT P md ops C n Q fuel (listed.setIfInBounds i true) (a.put oi.dst v)->anyT P md ops C n Q (fuel+1) listed a:=by
 intro fuel
 induction fuel with
 | zero =>
  intro listed a hc _ hr hy H
  refine ⟨fun h=>(by rw [h] at hr;cases hr),fun j hj => ?_⟩
  by_cases hji:j=i
  ·subst hji;exact hy.qOp hi H
  ·exact absurd (hT listed hc ⟨i,hin,(mem_ready.1 hr).1⟩ j hj) (H.1 j (ready_mono hj hji))
 | succ fuel ih =>
  intro listed a hc hfree hr hy H
  refine ⟨fun h=>(by rw [h] at hr;cases hr),fun j hj => ?_⟩
  by_cases hji:j=i
  ·subst hji;exact hy.qOp hi H
  ·have h1:=H.2 j (ready_mono hj hji)
   obtain ⟨hjun,oj,hoj,hall⟩:=mem_ready.1 hj
   have hnot:∀ e∈oj.after,Region.binds md e=true->e.on≠i:=fun e he hb heq=>by
    have h1:=hall e he hb
    have h0:=(mem_ready.1 hr).1
    rw [heq] at h1
    rcases Nat.lt_or_ge i listed.size with h' | h'
    ·simp [h'] at h0 h1;rw [h0] at h1;cases h1
    ·simp [Array.getElem?_eq_none h'] at h1
   have h2:=qOp_put hoj (hfree j oj hoj hji hjun hnot) (fun cs b=>hsel i oi cs b hi) (fun cs b=>hsel j oj cs b hoj) hy h1
   refine qOp_mono (fun a' h3=>ih (listed.setIfInBounds j true) a' (shut_step hc hj) (fun k ok hk hki hun hno => ?_) (ready_mono hr (Ne.symm hji)) h3.1 ?_) h2
   ·refine hfree k ok hk hki ?_ hno
    by_cases hjk:j=k
    ·subst hjk;exact hjun
    ·rw [getD_set_ne true hjk] at hun;exact hun
   ·rw [Array.setIfInBounds_comm _ _ hji]
    exact h3.2
def lexT (md:Region.Mode) (ops:Array Oper) (n:Nat):Nat->Nat->Array Bool->Bool
 | 0,_,listed=>(Region.ready md ops listed).all fun j=>decide (n<=j)
 | fuel+1,k,listed=>decide (k<n)&&(Region.ready md ops listed).contains k&&Region.free md ops listed k&&lexT md ops n fuel (k+1) (listed.setIfInBounds k true)
def lstT:Nat->Nat->Array Bool->Array Bool
 | 0,_,listed=>listed
 | fuel+1,k,listed=>lstT fuel (k+1) (listed.setIfInBounds k true)
theorem anyT_lex {Q:Array Bool->Act->Prop} (hT:Tails md ops n) (hs:Region.noSelect ops=true):∀ (l:List Oper) (k:Nat) (listed:Array Bool) (a:Act),Shut md ops listed->(∀ j,j<l.length->l[j]? = ops[k+j]?) ->
  lexT md ops n l.length k listed=true->wpQuiet P ops C (Q (lstT l.length k listed)) l a->anyT P md ops C n Q l.length listed a
 | [],_,_,_,_,_,hB,h=>⟨fun j hj=>by have:=List.all_eq_true.1 hB j hj;simp at this;omega,h⟩
 | o::l,k,listed,a,hc,hl,hB,h=>by
  have h0:ops[k]? = some o:=by simpa using (hl 0 (by simp)).symm
  simp only [List.length_cons,lexT,Bool.and_eq_true,decide_eq_true_eq] at hB
  obtain ⟨⟨⟨hk,hr⟩,hf⟩,hB'⟩:=hB
  have hst:qOp P ops C k (wpQuiet P ops C (Q (lstT (o::l).length k listed)) l) a:=by unfold qOp;simp only [h0];exact h
  obtain ⟨v,hy,hK⟩:=yieldsIn_of_qOp h0 hst
  have hrr:k∈Region.ready md ops listed:=by simpa using hr
  exact anyT_first hT hk h0 (Region.noSelect_spec hs) l.length listed a hc (Region.free_spec h0 hf) hrr hy
   (anyT_lex hT hs l (k+1) _ _ (shut_step hc hrr) (fun j hj=>by have:=hl (j+1) (by simpa using hj);simpa [Nat.add_assoc,Nat.add_comm 1 j] using this) hB' hK)
def predsT (md:Region.Mode) (ops:Array Oper) (j:Nat):List Nat:=match ops[j]? with
 | some o=>(o.after.toList.filter (fun e=>Region.binds md e)).map (·.on)
 | none=>[]
def stepT (md:Region.Mode) (ops:Array Oper) (S:Array Bool) (k:Nat):Array Bool:=if S.getD k false then (predsT md ops k).foldl (fun S p=>S.setIfInBounds p true) S else S
def coverT (md:Region.Mode) (ops:Array Oper) (n j:Nat):Bool :=
 let S:=((List.range ops.size).reverse).foldl (stepT md ops) ((predsT md ops j).foldl (fun S p=>S.setIfInBounds p true) (Array.replicate ops.size false))
 (List.range n).all fun i=>S.getD i false
def tailsB (md:Region.Mode) (ops:Array Oper) (n:Nat):Bool:=(List.range ops.size).all fun j=>decide (j<n)||coverT md ops n j
theorem set_sub {listed S:Array Bool} (h:∀ p,S.getD p false=true->listed.getD p false=true):∀ (l:List Nat),(∀ p∈l,listed.getD p false=true)->∀ (S:Array Bool),(∀ p,S.getD p false=true->listed.getD p false=true)->∀ p,(l.foldl (fun S p=>S.setIfInBounds p true) S).getD p false=true->listed.getD p false=true
 | [],_,_,hS=>hS
 | q::l,hl,S,hS=>set_sub h l (fun p hp=>hl p (by simp [hp])) _ (fun p hp=>by
   by_cases hq:q=p
   ·subst hq;exact hl q (by simp)
   ·rw [getD_set_ne false hq] at hp;exact hS p hp)
theorem tails_of (hB:tailsB md ops n=true):Tails md ops n:=by
 intro listed hc ⟨i,hi,hun⟩ j hj
 by_cases hjn:j<n
 ·exact hjn
 ·exfalso
  obtain ⟨_,o,ho,hall⟩:=mem_ready.1 hj
  have hjs:j<ops.size:=(Array.getElem?_eq_some_iff.1 ho).1
  have hcov:=List.all_eq_true.1 hB j (by simpa using hjs)
  have hcv:coverT md ops n j=true:=by simpa [hjn] using hcov
  have hci:=List.all_eq_true.1 hcv i (List.mem_range.2 hi)
  have preds:∀ k,listed.getD k false=true->∀ p∈predsT md ops k,listed.getD p false=true:=by
   intro k hk p hp
   unfold predsT at hp
   split at hp
   ·rename_i ok hok
    obtain ⟨e,he,rfl⟩:=List.mem_map.1 hp
    obtain ⟨he1,he2⟩:=List.mem_filter.1 he
    exact hc k ok hok hk e (by simpa using he1) (by simpa using he2)
   ·simp at hp
  have predsj:∀ p∈predsT md ops j,listed.getD p false=true:=by
   intro p hp
   unfold predsT at hp
   rw [ho] at hp
   obtain ⟨e,he,rfl⟩:=List.mem_map.1 hp
   obtain ⟨he1,he2⟩:=List.mem_filter.1 he
   exact hall e (by simpa using he1) (by simpa using he2)
  have base:∀ p,(Array.replicate ops.size false).getD p false=true->listed.getD p false=true:=by
   intro p hp;exfalso;simp [Array.getElem?_replicate] at hp;split at hp <;> simp at hp
  have s0:=set_sub (S:=Array.replicate ops.size false) base _ predsj _ base
  have steps:∀ (l:List Nat) (S:Array Bool),(∀ p,S.getD p false=true->listed.getD p false=true)->∀ p,(l.foldl (stepT md ops) S).getD p false=true->listed.getD p false=true:=by
   intro l
   induction l with
   | nil=>intro S hS;exact hS
   | cons k l ih =>
    intro S hS
    refine ih _ ?_
    unfold stepT
    split
    ·rename_i hk;exact set_sub hS _ (preds k (hS k hk)) _ hS
    ·exact hS
  have hl:=steps _ _ s0 i hci
  rcases Nat.lt_or_ge i listed.size with h' | h'
  ·simp [h'] at hl hun;rw [hl] at hun;cases hun
  ·simp [Array.getElem?_eq_none h'] at hl
theorem wp_region_tail {id:Nat} {Q:Exit->Act->World->Prop} {a:Act} {w:World} {pre tl:List Oper} (hm:P.follows .mixedOrders=true) (hs:Region.noSelect (pre++tl).toArray=true) (hT:tailsB .any (pre++tl).toArray pre.length=true)
  (hB:lexT .any (pre++tl).toArray pre.length pre.length 0 (Array.replicate (pre++tl).length false)=true)
  (h:wpQuiet P (pre++tl).toArray (fun w'=>∃ n,w'=w.drewN n) (fun a'=>∀ w',(∃ n,w'=w.drewN n)->wpAny P .any (pre++tl).toArray Q tl.length (lstT pre.length 0 (Array.replicate (pre++tl).length false)) a' w') pre a) :
  (Code.region id (pre++tl).toArray true).wp P Q a w:=by
 refine wp_region_any hm ?_
 have h1:=anyT_lex (P:=P) (md:=.any) (C:=fun w'=>∃ n,w'=w.drewN n) (n:=pre.length) (ops:=(pre++tl).toArray) (Q:=fun listed a'=>∀ w',(∃ n,w'=w.drewN n)->wpAny P .any (pre++tl).toArray Q tl.length listed a' w') (tails_of hT) hs pre 0 (Array.replicate (pre++tl).length false) a
  (by intro j o _ hj;exfalso;simp [Array.getElem?_replicate] at hj;split at hj <;> simp at hj)
  (fun j hj=>by simp [List.getElem?_append,hj]) hB h
 have h2:=wpAny_of_T (Q':=Q) (m:=tl.length) (fun listed a w hw hq=>hq w hw) pre.length _ a { w with drawn:=w.drawn+1 } ⟨1,rfl⟩ h1
 have e:tl.length+pre.length=(pre++tl).toArray.size:=by simp;omega
 rw [e] at h2
 simpa using h2
theorem wp_region_tail_lit (k:Nat) {id:Nat} {Q:Exit->Act->World->Prop} {a:Act} {w:World} {l:List Oper} (hm:P.follows .mixedOrders=true) (hk:k<=l.length) (hs:Region.noSelect l.toArray=true) (hT:tailsB .any l.toArray k=true)
  (hB:lexT .any l.toArray k k 0 (Array.replicate l.length false)=true)
  (h:wpQuiet P l.toArray (fun w'=>∃ n,w'=w.drewN n) (fun a'=>∀ w',(∃ n,w'=w.drewN n)->wpAny P .any l.toArray Q (l.length - k) (lstT k 0 (Array.replicate l.length false)) a' w') (l.take k) a) :
  (Code.region id l.toArray true).wp P Q a w:=by
 have e:l.take k++l.drop k=l:=List.take_append_drop k l
 have e1:(l.take k).length=k:=by rw [List.length_take];omega
 have e2:(l.drop k).length=l.length - k:=by rw [List.length_drop]
 have:=wp_region_tail (P:=P) (id:=id) (Q:=Q) (a:=a) (w:=w) (pre:=l.take k) (tl:=l.drop k) hm (by rw [e];exact hs) (by rw [e,e1];exact hT) (by rw [e,e1];exact hB) (by rw [e,e1,e2];exact h)
 rwa [e] at this
theorem wpQuiet_mono {Q Q':Act->Prop} (h:∀ a,Q a->Q' a):∀ (l:List Oper) (a:Act),wpQuiet P ops C Q l a->wpQuiet P ops C Q' l a
 | [],a,hq=>h a hq
 | o::l,a,hq=>by
  unfold wpQuiet at *
  split
  ·rename_i hw;simp only [hw,if_true] at hq;exact Oper.quiet_mono (fun a' h'=>wpQuiet_mono h l a' h') hq
  ·rename_i hw;simp only [hw] at hq;exact wpQuiet_mono h l _ hq
def chainT (md:Region.Mode) (ops:Array Oper):Nat->Nat->Array Bool->Bool
 | 0,_,listed=>(Region.ready md ops listed).isEmpty
 | fuel+1,k,listed=>(Region.ready md ops listed == [k])&&chainT md ops fuel (k+1) (listed.setIfInBounds k true)
theorem any_of_list {Q:Exit->Act->World->Prop}:∀ (tl:List Oper) (k:Nat) (listed:Array Bool) (a:Act) (w:World),chainT md ops tl.length k listed=true->(∀ j,j<tl.length->tl[j]? = ops[k+j]?)->wpList P ops Q tl a w->wpAny P md ops Q tl.length listed a w
 | [],_,_,_,_,hB,_,h=>⟨by simpa [chainT] using hB,h⟩
 | o::tl,k,listed,a,w,hB,hl,h=>by
  simp only [List.length_cons,chainT,Bool.and_eq_true,beq_iff_eq] at hB
  have h0:ops[k]? = some o:=by simpa using (hl 0 (by simp)).symm
  refine wpAny_all hB.1 (by simp) ?_
  intro i hi
  rw [List.mem_singleton] at hi
  subst hi
  have next:∀ a w,wpList P ops Q tl a w->wpAny P md ops Q tl.length (listed.setIfInBounds i true) a w:=fun a w h =>
   any_of_list tl (i+1) _ a w hB.2 (fun j hj=>by have:=hl (j+1) (by simpa using hj);simpa [Nat.add_assoc,Nat.add_comm 1 j] using this) h
  unfold wpOp
  simp only [h0]
  unfold wpList at h
  split
  ·rename_i hw;simp only [hw,if_true] at h;exact h.imp (Oper.wp_mono next) id
  ·rename_i hw;simp only [hw] at h;exact next _ _ h
theorem wp_region_then (k:Nat) {id:Nat} {Q:Exit->Act->World->Prop} {a:Act} {w:World} {l:List Oper} (hm:P.follows .mixedOrders=true) (hk:k<=l.length) (hs:Region.noSelect l.toArray=true) (hT:tailsB .any l.toArray k=true)
  (hB:lexT .any l.toArray k k 0 (Array.replicate l.length false)=true) (hC:chainT .any l.toArray (l.length - k) k (lstT k 0 (Array.replicate l.length false))=true)
  (h:wpQuiet P l.toArray (fun w'=>∃ n,w'=w.drewN n) (fun a'=>∀ w',(∃ n,w'=w.drewN n)->wpList P l.toArray Q (l.drop k) a' w') (l.take k) a) :
  (Code.region id l.toArray true).wp P Q a w:=by
 refine wp_region_tail_lit k hm hk hs hT hB (wpQuiet_mono (fun a' h' w' hw' => ?_) _ _ h)
 have e2:(l.drop k).length=l.length - k:=by rw [List.length_drop]
 have:=any_of_list (md:=.any) (ops:=l.toArray) (Q:=Q) (l.drop k) k (lstT k 0 (Array.replicate l.length false)) a' w' (by rw [e2];exact hC) (fun j hj=>by simp) (h' w' hw')
 rwa [e2] at this
end
end
end Go.Proofs.YtalncjhldkcmaaaGreat
