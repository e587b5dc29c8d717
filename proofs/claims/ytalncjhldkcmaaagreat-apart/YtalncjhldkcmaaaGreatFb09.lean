import Derived.Test.YtalncjhldkcmaaaGreatFb01
import Derived.Test.YtalncjhldkcmaaaGreatFb00
import Derived.Test.YtalncjhldkcmaaaGreatFb04
import Derived.Test.YtalncjhldkcmaaaGreatFb08
namespace Go.Proofs.YtalncjhldkcmaaaGreat
open _root_.Go.Proofs.Tryz
set_option maxHeartbeats 16000000
set_option maxRecDepth 8000
section
open Go.RowKit Go.Shelf
theorem keeps_same {S:Nat->Prop} {W W':World} (h:Keeps S W W') {k:Nat} {o:Obj} (hS:¬ S k) (ho:W.heap[k]? = some o):W'.heap[k]? = some o:=(h.block k (Array.getElem?_eq_some_iff.1 ho).1 hS).trans ho
theorem keeps_putObj (X:Nat->Prop) (l:Nat) (W:World) (o:Obj):Keeps (fun k=>X k\/k=l) W (W.putObj l o):=(Keeps.refl _ W).grown (grownBy_putObj' W l o) (fun k e=>by cases e;exact .inl (.inr rfl))
def ownPostX {α:Type} (X:Nat->Prop) (I:List α->World->Prop) (Ix:Code->List α->World->Prop) (xs:List α) (W:World):Exit->Act->World->Prop
 | .normal,_,W'=>Keeps X W W'/\I xs W'
 | .ret,_,W'=>Keeps X W W'/\Ix .ret xs W'
 | .exit id,_,W'=>Keeps X W W'/\Ix (.exit id) xs W'
 | .goto t,_,W'=>Keeps X W W'/\Ix (.goto t) xs W'
 | .panic _,_,_=>False
 | .outgrown,_,_=>False
end
section
open Go.RowKit Go.Shelf
def NoNodeT (W:World) (g:Nat):Prop:=(∀ a l c,W.cell? ⟨g,0,none⟩=some (.slice (some a) l c)->∀ o k,W.cell? ⟨a.block,o,none⟩≠some (.int .u32 k))/\(∀ o k,W.cell? ⟨g,o,none⟩≠some (.int .u32 k))
theorem EntsAt.keptT {n₀:Nat} {A B:World} {X:Nat->Prop} (hs:A.heap.size<=B.heap.size) (hk:∀ g o v,¬ X g->A.cell? ⟨g,o,none⟩=some v->B.cell? ⟨g,o,none⟩=some v) (hx:∀ g,X g->NoNodeT A g) {v:Value} {es:List Ent} (h:EntsAt n₀ A v es) (hne:es≠[]):EntsAt n₀ B v es:=by
 obtain ⟨g,o,cap,rfl,h1,h2,h3,h4,h5⟩:=h
 have hX:¬ X g:=fun h=>(hx g h).2 _ _ (h5 0 (List.length_pos_iff.2 hne)).1
 exact ⟨g,o,cap,rfl,h1,h2,by omega,h4,fun i hi=>⟨hk _ _ _ hX (h5 i hi).1,hk _ _ _ hX (h5 i hi).2.1,hk _ _ _ hX (h5 i hi).2.2⟩⟩
theorem ents_no {n₀:Nat} {A:World} {X:Nat->Prop} (hx:∀ g,X g->NoNodeT A g) {b:Nat} {v:Value} {es:List Ent} (h2:A.cell? ⟨b,0,none⟩=some v) (h3:EntsAt n₀ A v es) (hne:es≠[]):¬ X b:=by
 intro hX
 obtain ⟨g,o,cap,rfl,_,_,_,_,h5⟩:=h3
 exact (hx b hX).1 _ _ _ h2 _ _ (h5 0 (List.length_pos_iff.2 hne)).1
theorem NodeAt.keptT {n₀:Nat} {A B:World} {X:Nat->Prop} (hs:A.heap.size<=B.heap.size) (hk:∀ g o v,¬ X g->A.cell? ⟨g,o,none⟩=some v->B.cell? ⟨g,o,none⟩=some v) (hx:∀ g,X g->NoNodeT A g):∀ {h b:Nat} {l:List KV},NodeAt n₀ A h b l->NodeAt n₀ B h b l
 | 0,b,l,⟨h1,v,es,h2,h3,h4,h5⟩=>⟨h1,_,es,hk _ _ _ (ents_no hx h2 h3 h4) h2,h3.keptT hs hk hx h4,h4,h5⟩
 | h+1,b,l,⟨h1,v,es,ls,h2,h3,h4,h5,h6,h7⟩=>by
  refine ⟨h1,_,es,ls,hk _ _ _ (ents_no hx h2 h3 h4) h2,h3.keptT hs hk hx h4,h4,h5,h6,fun i hi hj => ?_⟩
  obtain ⟨c,c1,c2,c3⟩:=h7 i hi hj
  exact ⟨c,c1,NodeAt.keptT hs hk hx c2,c3⟩
theorem TreeIs.keptT {n₀:Nat} {A B:World} {X:Nat->Prop} (hs:A.heap.size<=B.heap.size) (hk:∀ g o v,¬ X g->A.cell? ⟨g,o,none⟩=some v->B.cell? ⟨g,o,none⟩=some v) (hx:∀ g,X g->NoNodeT A g) {r:Option Addr} {l:List KV} (h:TreeIs n₀ A r l):TreeIs n₀ B r l:=by
 refine ⟨h.1,by have:=h.2.1;omega,?_⟩
 rcases h.2.2 with h0 | ⟨ht,b,e,hn⟩
 ·exact .inl h0
 ·exact .inr ⟨ht,b,e,hn.keptT hs hk hx⟩
theorem tag_ne {w:World} {x y:Nat} {c c':Array Value} {t t':TypeId} (h:w.heap[x]? = some (.cells c t (0,0))) (h':w.heap[y]? = some (.cells c' t' (0,0))) (ht:t≠t'):¬ x=y:=by
 rintro rfl
 rw [h] at h'
 injection h' with h'
 injection h' with _ e _
 exact ht e
def NoBk (w:World) (g:Nat):Prop:=∀ z y,w.cell? ⟨g,0,none⟩=some (.int .i64 z)->w.cell? ⟨g,1,none⟩=some (.int .i64 y)->False
end
section
open Go.RowKit Go.Shelf
def GivesM {α:Type} (P:Program) (g:Nat) (lb:Array Value) (encs:α->Array Value) (X:Nat->Prop) (xs:List α) (w:World):Prop :=
 ∀ (l:Nat) (J Jx:Nat->List α->World->Prop) (W:World),Below w.heap.size w W->w.heap.size<=l->l<W.heap.size->(∀ k,X k->k<W.heap.size)->(∀ M,OwnFrom W.heap.size (J M))->(∀ M,OwnFrom W.heap.size (Jx M)) ->
  (∀ M pre x W1,W.heap.size<=M->M<=W1.heap.size->(pre++[x]) <+: xs->J M pre W1->YieldAt Fence.wide 0 P l (encs x) W1 fun e W' =>
   (e=.returned (.bool true)/\J M (pre++[x]) W'/\Keeps (fun k=>X k\/k=l\/M<=k) W1 W')\/(e=.returned (.bool false)/\Jx M (pre++[x]) W'/\Keeps (fun k=>X k\/k=l\/M<=k) W1 W')) ->
  (∀ M,W.heap.size<=M->J M [] W) ->
  Calls P g (#[.func (.yield l) #[] #[]]++lb) W fun e W'=>(∃ v,e=.returned v)/\∃ M,W.heap.size<=M/\(J M xs W'\/∃ pre,pre <+: xs/\Jx M pre W')
theorem rangeM_law {α:Type} {P:Program} {n:Nat} {g:Operand} {ps:Array Tmp} {assign body:Code} {Q:Exit->Act->World->Prop} {a:Act} {w:World}
  {gf:Nat} {lb:Array Value} (hg:a.eval g=.func (.func gf) #[] lb) (eg:∀ args w,(callFunc gf args).run P w=.ok (.enter gf args) w)
  {encs:α->Array Value} {X:Nat->Prop} {xs:List α} {w0:World} (hseq:GivesM P gf lb encs X xs w0) (hb0:Below w0.heap.size w0 w) (hX:∀ k,X k->k<w.heap.size) (hps:∀ x,(encs x).size=ps.size)
  (I:Nat->List α->World->Prop) (Ix:Nat->Code->List α->World->Prop) (hI:∀ M,OwnFrom w.heap.size (I M)) (hIx:∀ M c,OwnFrom w.heap.size (Ix M c)) (h0:∀ M,w.heap.size+2<=M->I M [] w)
  (Ax:α->Act->World->Prop) (hAx:∀ x a',OwnFrom w.heap.size (fun (_:Unit) W=>Ax x a' W))
  (hassign:∀ (l M:Nat) (pre:List α) (x:α) (W:World) (K:Act->World->Prop),w.heap.size+2<=M->M<=W.heap.size->(pre++[x]) <+: xs->I M pre W->(∀ a' W',Keeps (fun k=>X k\/M<=k) W W'->I M pre W'->Ax x a' W'->K a' W') ->
   assign.wpIn (Fence.wide.inRound l) 0 P (Exit.then K (fun _ _ _=>False)) { tmps:=(ps.zip (encs x)).foldl (fun t (p,v)=>t.setIfInBounds p v) a.tmps,defers:=[] } W)
  (hbody:∀ (l M:Nat) (pre:List α) (x:α) (a':Act) (W:World),w.heap.size<=l->l<M->w.heap.size+2<=M->M<=W.heap.size->(pre++[x]) <+: xs->I M pre W->Ax x a' W->body.wpIn (Fence.wide.inRound l) 0 P (ownPostX (fun k=>X k\/M<=k) (I M) (Ix M) (pre++[x]) W) a' W)
  (hdone:∀ M W,w.heap.size+2<=M->I M xs W->W.heap[w.heap.size]? = some (.deferred (some []))->Q .normal { a with defers:={ target:=.collected w.heap.size,args:=#[] }::a.defers } W)
  (hstop:∀ M c pre W,w.heap.size+2<=M->pre <+: xs->Ix M c pre W->W.heap[w.heap.size]? = some (.deferred (some []))->c.wpIn Fence.wide n P Q { a with defers:={ target:=.collected w.heap.size,args:=#[] }::a.defers } W) :
  (Code.rangeFunc g ps assign body).wpIn Fence.wide n P Q a w:=by
 refine wpIn_rangeFunc fun fn hfn => ?_
 rw [Fence.wide_round]
 obtain ⟨rc,hrc⟩:∃ rc:LoopState->Option Code->Loop,rc=fun st pe=>{ state:=st,pending:=pe,fn,tmps:=a.tmps,params:=ps,assign,body,defers:=w.heap.size }:=⟨_,rfl⟩
 obtain ⟨S,hS⟩:∃ S,(w.alloc (.deferred (some []))).alloc (.loop (rc .ready none))=S:=⟨_,rfl⟩
 have sS:S.heap.size=w.heap.size+2:=by rw [<- hS];simp
 have lS:S.heap[w.heap.size+1]? = some (.loop (rc .ready none)):=by
  rw [<- hS];have:=World.alloc_heap_new (w.alloc (.deferred (some []))) (.loop (rc .ready none));rwa [World.size_alloc] at this
 have dS:S.heap[w.heap.size]? = some (.deferred (some [])):=by
  rw [<- hS];exact (Below.heap_alloc _ _ _ (by simp)).trans (World.alloc_heap_new w _)
 have iS:∀ M,S.heap.size<=M->I M [] S:=fun M hM=>by rw [sS] at hM;rw [<- hS];exact (hI M).alloc _ ((hI M).alloc _ (h0 M hM))
 have bS:Below w0.heap.size w0 S:=by
  rw [<- hS];exact hb0.trans ((((Below.refl _ w).alloc nlr _).alloc (by simp) _).mono hb0.size)
 -- what is no cells and lies ahead of S's end lies on through what the iterator turns
 have keep:∀ {A B:World} {row:Option Nat} {k:Nat} {o:Obj},A.grownBy B row->(∀ r,row=some r->S.heap.size<=r/\∃ o:Obj,A.heap[r]? = some o/\o.isCells=false)->k<w.heap.size+2->A.heap[k]? = some o->B.heap[k]? = some o:=by
  intro A B row k o hgr hr hk ha
  refine (hgr.block k (Array.getElem?_eq_some_iff.1 ha).1 (fun e => ?_)).trans ha
  have:=(hr k e.symm).1;omega
 have low:∀ {A:World} {row:Option Nat},(∀ r,row=some r->S.heap.size<=r/\∃ o:Obj,A.heap[r]? = some o/\o.isCells=false)->(∀ r,row=some r->w.heap.size<=r/\∃ o:Obj,A.heap[r]? = some o/\o.isCells=false) :=
  fun hr r e=>⟨by have:=(hr r e).1;omega,(hr r e).2⟩
 refine ⟨w.heap.size+1,[{ target:=.collected w.heap.size,args:=#[] }],S,{ target:=.fn (.func gf) lb,args:=#[.func (.yield (w.heap.size+1)) #[] #[]] },S,gf,
  #[.func (.yield (w.heap.size+1)) #[] #[]]++lb,S,?_,?_,fun _ _=>trivial,?_,fun h=>by simp [Fence.wide] at h,?_⟩
 ·rw [<- hS,hrc];exact run_enterLoop_outer _ _ _ _ _
 ·simp only [resolve,hg];simp [go_sem]
 ·simp [invoke,go_sem,eg]
 refine callsIn_wide.2 ((hseq (w.heap.size+1)
  (fun M pre W=>I M pre W/\W.heap[w.heap.size+1]? = some (.loop (rc .ready none))/\W.heap[w.heap.size]? = some (.deferred (some [])))
  (fun M pre W=>∃ c,Ix M c pre W/\W.heap[w.heap.size+1]? = some (.loop (rc .done (some c)))/\W.heap[w.heap.size]? = some (.deferred (some [])))
  S bS (by have:=hb0.size;omega) (by omega) (fun k h=>by have:=hX k h;omega)
  (fun M s A B row hs hg' hr=>⟨hI M s A B row hs.1 hg' (low hr),keep hg' hr (by omega) hs.2.1,keep hg' hr (by omega) hs.2.2⟩)
  (fun M s A B row hs hg' hr=>by
   obtain ⟨c,hc,hl,hk⟩:=hs
   exact ⟨c,hIx M c s A B row hc hg' (low hr),keep hg' hr (by omega) hl,keep hg' hr (by omega) hk⟩)
  ?_ (fun M hM=>⟨iS M hM,lS,dS⟩)).mono ?_)
 ·rintro M pre x V hM1 hM2 hp ⟨hi,hl,hk⟩
  have hy:=run_yield (P:=P) (args:=encs x) hl (by rw [hrc];exact hps x)
  rw [hrc] at hy
  refine ⟨fn,_,assign,body,hy,roundIn_of_wpIn hfn (hassign _ M pre x V _ (by omega) hM2 hp hi ?_)⟩
  clear hy
  intro a' V1 k1 i1 ax1
  have l1:=keeps_same k1 (fun h=>by rcases h with h | h;(have:=hX _ h;omega);omega) hl
  have d1:=keeps_same k1 (fun h=>by rcases h with h | h;(have:=hX _ h;omega);omega) hk
  have z1:w.heap.size+1<V1.heap.size:=(Array.getElem?_eq_some_iff.1 l1).1
  refine ⟨_,run_beginRound l1 (by rw [hrc]),?_⟩
  obtain ⟨V2,hV2⟩:∃ V2,V1.putObj (w.heap.size+1) (.loop { rc .ready none with state:=.busy })=V2:=⟨_,rfl⟩
  have l2:V2.heap[w.heap.size+1]? = some (.loop { rc .ready none with state:=.busy }):=by rw [<- hV2];exact World.putObj_heap_same z1
  have d2:V2.heap[w.heap.size]? = some (.deferred (some [])):=by rw [<- hV2];exact (World.putObj_heap_other (by omega)).trans d1
  have k2:Keeps (fun k=>X k\/k=w.heap.size+1\/M<=k) V1 V2:=by rw [<- hV2];exact (keeps_putObj X _ _ _).mono (fun k _ h=>by rcases h with h | h;exact .inl h;exact .inr (.inl h))
  have i2:I M pre V2:=by rw [<- hV2];exact (hI M).putObj _ i1 (by omega) l1 rfl
  have ax2:Ax x a' V2:=by rw [<- hV2];exact (hAx x a').putObj (s:=()) _ ax1 (by omega) l1 rfl
  rw [hV2]
  have z2:w.heap.size+1<V2.heap.size:=(Array.getElem?_eq_some_iff.1 l2).1
  refine wpIn_mono (hbody _ M pre x a' V2 (by omega) (by omega) (by omega) (by have:=k1.size;have:=k2.size;omega) hp i2 ax2) ?_
  have wide:∀ {A B:World},Keeps (fun k=>X k\/M<=k) A B->Keeps (fun k=>X k\/k=w.heap.size+1\/M<=k) A B:=fun h=>h.mono (fun k _ h=>by rcases h with h | h;exact .inl h;exact .inr (.inr h))
  have k12:Keeps (fun k=>X k\/k=w.heap.size+1\/M<=k) V V2:=(wide k1).trans k2
  -- the round's end
  have fin:∀ (jump:Option Code) (V3:World),Keeps (fun k=>X k\/M<=k) V2 V3 ->
    (Instr.endRound (w.heap.size+1) jump).run P V3=.ok (.bool jump.isNone) (V3.putObj (w.heap.size+1) (.loop (rc (if jump.isNone then .ready else .done) jump))) /\
    V3.heap[w.heap.size+1]? = some (.loop { rc .ready none with state:=.busy }) /\
    (V3.putObj (w.heap.size+1) (.loop (rc (if jump.isNone then .ready else .done) jump))).heap[w.heap.size+1]? = some (.loop (rc (if jump.isNone then .ready else .done) jump)) /\
    (V3.putObj (w.heap.size+1) (.loop (rc (if jump.isNone then .ready else .done) jump))).heap[w.heap.size]? = some (.deferred (some [])) /\
    Keeps (fun k=>X k\/k=w.heap.size+1\/M<=k) V (V3.putObj (w.heap.size+1) (.loop (rc (if jump.isNone then .ready else .done) jump))):=by
   intro jump V3 k3
   have l3:=keeps_same k3 (fun h=>by rcases h with h | h;(have:=hX _ h;omega);omega) l2
   have:=run_endRound (P:=P) jump l3
   refine ⟨?_,l3,World.putObj_heap_same (Array.getElem?_eq_some_iff.1 l3).1,(World.putObj_heap_other (by omega)).trans (keeps_same k3 (fun h=>by rcases h with h | h;(have:=hX _ h;omega);omega) d2),(k12.trans (wide k3)).trans ((keeps_putObj X _ _ _).mono (fun k _ h=>by rcases h with h | h;exact .inl h;exact .inr (.inl h)))⟩
   rw [hrc] at this ⊢
   exact this
  rintro e a3 V3 hp3
  cases e with
  | normal =>
   obtain ⟨k3,i3⟩:=hp3
   obtain ⟨hr,l3,l4,d4,k4⟩:=fin none V3 k3
   exact ⟨_,_,hr,.inl ⟨rfl,⟨(hI M).putObj _ i3 (by omega) l3 rfl,l4,d4⟩,k4⟩⟩
  | ret =>
   obtain ⟨k3,i3⟩:=hp3
   obtain ⟨hr,l3,l4,d4,k4⟩:=fin (some .ret) V3 k3
   exact ⟨_,_,hr,.inr ⟨rfl,⟨.ret,(hIx M _).putObj _ i3 (by omega) l3 rfl,l4,d4⟩,k4⟩⟩
  | exit id =>
   obtain ⟨k3,i3⟩:=hp3
   obtain ⟨hr,l3,l4,d4,k4⟩:=fin (some (.exit id)) V3 k3
   exact ⟨_,_,hr,.inr ⟨rfl,⟨.exit id,(hIx M _).putObj _ i3 (by omega) l3 rfl,l4,d4⟩,k4⟩⟩
  | goto t =>
   obtain ⟨k3,i3⟩:=hp3
   obtain ⟨hr,l3,l4,d4,k4⟩:=fin (some (.goto t)) V3 k3
   exact ⟨_,_,hr,.inr ⟨rfl,⟨.goto t,(hIx M _).putObj _ i3 (by omega) l3 rfl,l4,d4⟩,k4⟩⟩
  | panic ch=>exact hp3.elim
  | outgrown=>exact hp3.elim
 ·rintro e V ⟨⟨v,rfl⟩,M,hM,(⟨hi,hl,hk⟩ | ⟨pre,hp,c,hi,hl,hk⟩)⟩
  ·exact ⟨none,_,by have:=run_endLoop (P:=P) hl (by rw [hrc];simp);rw [hrc] at this;exact this,hdone M _ (by omega) ((hI M).putObj _ hi (by omega) hl rfl) ((World.putObj_heap_other (by omega)).trans hk)⟩
  ·exact ⟨some c,_,by have:=run_endLoop (P:=P) hl (by rw [hrc];simp);rw [hrc] at this;exact this,hstop M c pre _ (by omega) hp ((hIx M c).putObj _ hi (by omega) hl rfl) ((World.putObj_heap_other (by omega)).trans hk)⟩
end
section
open Go.RowKit Go.Shelf
attribute [local go_sem] run_store_cplx
def showQ (q:PT):List Int:=[q.donor,q.began,q.left,q.used,q.lost,q.status,q.thaws,q.box,q.x,q.y]
theorem ints_new {B:Nat} (w:World) (zs:List Int) (hB:B<=w.heap.size) (hz:zs.length<=maxLen) {s:Nat} (hs:w.heap.size=s):(w.alloc (.cells (intCells zs).toArray 3)).ownsRow B 3 1 (.slice (some ⟨s,0,none⟩) zs.length zs.length) zs.length (intCells zs):=by
 subst hs
 have hl:(intCells zs).length=zs.length:=by simp [intCells]
 refine ⟨by simp [intCells],.inr ⟨w.heap.size,zs.length,(intCells zs).toArray,rfl,hB,World.alloc_heap_new w _,Nat.le_refl _,hz,by simp [hl],?_⟩⟩
 rw [Nat.mul_one,<- hl];simp
theorem recNumbers_any (q:PT) (h:q.Ok) (w:World) :
  Calls prog 170 #[q.val] w fun e w'=>∃ v,e=.returned v/\w'.ownsRow w.heap.size 3 1 v (showQ q).length (intCells (showQ q))/\Below w.heap.size w w':=by
 have hx:=@x_any q.x q.y h.x
 have hy:=@y_any q.x q.y h.y
 have HE:=hid (fun u (hu:u.heap.size=w.heap.size+1)=>ints_new (B:=w.heap.size) u (showQ q) (by omega) (by show 10<=maxLen;unfold maxLen;omega) hu)
 unfold PT.val PT.cells
 simp only [pl] at hx hy ⊢
 generalize fl q.x=fa at *
 generalize fl q.y=fb at *
 go_enter func170,ntmps170
 go_wp2_with fail
 refine wp_region_then 22 (by kernel_rfl) (by decide) (by kernel_rfl) (by kernel_rfl) (by kernel_rfl) (by kernel_rfl) ?_
 simp only [List.take_succ_cons,List.take_zero]
 repeat (go_big_quiet_step (first
  | (go_at_call 171;exact Calls.quiet_of_same (hx _))
  | (go_at_call 172;exact Calls.quiet_of_same (hy _))))
 refine wpQuiet_nil ?_
 rintro w2 ⟨nq,rfl⟩
 simp only [List.drop_succ_cons,List.drop_zero]
 go_wp2
 go_ret
 have hb1:Below w.heap.size w (w.alloc (.cells #[.complex .f64 fa fb,.int .i64 q.box,.int .i64 q.donor,.int .i64 q.status,.int .i64 q.thaws,.int .i64 q.began,.int .i64 q.left,.int .i64 q.used,.int .i64 q.lost] 216)):=(Below.refl _ w).alloc nlr _
 exact ⟨_,rfl,HE.out ((w.alloc (.cells #[.complex .f64 fa fb,.int .i64 q.box,.int .i64 q.donor,.int .i64 q.status,.int .i64 q.thaws,.int .i64 q.began,.int .i64 q.left,.int .i64 q.used,.int .i64 q.lost] 216)).drewN nq) (by show (w.alloc _).heap.size=_;simp),(below_drewN hb1 nq).alloc (by have:=hb1.size;exact this) _⟩
end
section
open Go.RowKit
attribute [local go_sem] Tryz.eqlNilF
theorem decode_yes (s:ByteArray) (w:World) (hs:s.size<=maxLen) (h0:0<s.size) (k:Nat) (hk:s[0].toNat=k) (h1:1<=(k:Int)) (h2:(k:Int)<=16) :
  Calls prog 41 #[.string s] w fun e w'=>e=.returned (.tuple #[.agg #[.int .i64 (decC s.data.toList 0),.int .i64 (decC s.data.toList 1),.int .i64 (decC s.data.toList 2),.int .i64 (decC s.data.toList 3),.int .i64 (decC s.data.toList 4),.int .i64 (decC s.data.toList 5),.int .i64 (decC s.data.toList 6),.int .i64 (decC s.data.toList 7),.int .i64 (decC s.data.toList 8)],.int .i64 (decE s.data.toList)])/\Below w.heap.size w w':=by
 unfold maxLen at hs
 have hne:=isEmpty_no s h0
 have HL:=hid (cons_of s h0)
 have hl:=flds_len k
 have HF:=hid (flds_lt k)
 have hZ:=(((Has.newK w 31 0).congr (d:=zero9) (fun j _=>by simp [base,zero9])).alloc (by simp) (.cells #[.int .i64 k,.int .i64 0,.int .i64 0,.int .i64 0,.int .i64 0,.int .i64 0,.int .i64 0,.int .i64 0,.int .i64 0] 31)).alloc (by simp;omega) (.cells (codes (flds k)).toArray 136)
 have hC:=(Has.newK (w.alloc (.cells #[.int .i64 0,.int .i64 0,.int .i64 0,.int .i64 0,.int .i64 0,.int .i64 0,.int .i64 0,.int .i64 0,.int .i64 0] 31)) 31 k).alloc (by simp) (.cells (codes (flds k)).toArray 136)
 have hFs:=HasF.new ((w.alloc (.cells #[.int .i64 0,.int .i64 0,.int .i64 0,.int .i64 0,.int .i64 0,.int .i64 0,.int .i64 0,.int .i64 0,.int .i64 0] 31)).alloc (.cells #[.int .i64 k,.int .i64 0,.int .i64 0,.int .i64 0,.int .i64 0,.int .i64 0,.int .i64 0,.int .i64 0,.int .i64 0] 31)) 136 (flds k)
 go_enter func41,ntmps41
 go_upto_region 4 with fail
 go_cut [5,6] from 17 to 21 (fun a b wc=>a=.slice (some ⟨w.heap.size+2,0,none⟩) (flds k).length (flds k).length/\b=.string (s.extract 1 s.size)/\Has wc w.heap.size zero9/\Has wc (w.heap.size+1) (base k)/\HasF wc (w.heap.size+2) (flds k)/\Below w.heap.size w wc/\w.heap.size+2<wc.heap.size)
 case first =>
  go_region_with (go_at_call 64;refine (fieldsOf_yes _ h1 h2 _).mono ?_;rintro e w' ⟨rfl,rfl⟩)
  all_goals
   go_wp2_with fail
   go_meet
   refine ⟨rfl,rfl,hZ.drew,by simpa using hC.drew,by simpa using hFs.drew,?_,by simp⟩
   exact (((bal).alloc (by simp) _).alloc (by simp;omega) _).drew
 case rest =>
  clear hZ hC hFs
  obtain ⟨rfl,rfl,hZ,hC,hFs,hbel,hsz⟩:=hcut
  have HT:=hid (show (s.extract 1 s.size).size+1=s.size by simp;omega)
  generalize s.extract 1 s.size=t at *
  have ht63:t.size<2 ^ 63 - 1:=by have:=HT.out;omega
  have htl:t.data.toList.length=t.size:=by simp
  have HTL:=hid htl
  clear htl
  have z0:=hZ.1 0 (by omega)
  have z1:=hZ.1 1 (by omega)
  have z2:=hZ.1 2 (by omega)
  have z3:=hZ.1 3 (by omega)
  have z4:=hZ.1 4 (by omega)
  have z5:=hZ.1 5 (by omega)
  have z6:=hZ.1 6 (by omega)
  have z7:=hZ.1 7 (by omega)
  have z8:=hZ.1 8 (by omega)
  have zf:=hZ.2
  simp only [zero9] at z0 z1 z2 z3 z4 z5 z6 z7 z8
  by_cases hd:t.size=4*(flds k).length
  ·have HBad:Hid (okTo (flds k) t.data.toList (flds k).length=false->decC s.data.toList=zero9/\decE s.data.toList=1):=by
    intro h;rw [HL.out];exact dec_bad s[0] t.data.toList (by rw [hk];exact h)
   have HGood:Hid (okTo (flds k) t.data.toList (flds k).length=true->decC s.data.toList=decTo k (flds k) t.data.toList (flds k).length/\decE s.data.toList=0):=by
    intro h;rw [HL.out];have:=dec_good s[0] t.data.toList (by rw [hk];omega) (by rw [hk];omega) (by rw [HTL.out,hk];exact hd) (by rw [hk];exact h);rw [hk] at this;exact this
   have htest:((t.size:Int) != ((flds k).length:Int)*4)=false:=by rw [bne_eq_false_iff_eq];omega
   have hd1:4*(flds k).length<=t.size:=by omega
   clear hd
   generalize flds k=fs at *
   clear HT HTL HL z0 z1 z2 z3 z4 z5 z6 z7 z8 zf
   go_wp2_with fail
   go_loopw [35] (fun i wr=>∃ m:Nat,m<=fs.length/\i=.int .i64 m/\Has wr w.heap.size zero9/\Has wr (w.heap.size+1) (decTo k fs t.data.toList m)/\HasF wr (w.heap.size+2) fs/\Below w.heap.size w wr/\okTo fs t.data.toList m=true/\w.heap.size+2<wr.heap.size)
    (fun i _=>fs.length - (intOf i).toNat)
   case atStart=>exact ⟨0,Nat.zero_le _,rfl,hZ,hC,hFs,hbel,rfl,hsz⟩
   case round =>
    clear hZ hC hFs hbel hsz
    obtain ⟨m,hm,rfl,hZ,hC,hFs,hbel,hok,hsz⟩:=hrel
    have HOK:=hid hok
    clear hok
    by_cases hlt:m<fs.length
    ·have hcx:=hFs m hlt
     have hf9:=HF.out (fs[m]) (List.getElem_mem hlt)
     have hfd:fs.getD m 0=fs[m]:=by rw [List.getD_eq_getElem?_getD,List.getElem?_eq_getElem hlt];rfl
     have hnl:=numB_lt t.data.toList (4*m)
     have hco:=hC.1 (off fs[m]) (off_lt _)
     have hfz:=hC.2 (off fs[m])
     have HS:Hid (∀ j,upd (decTo k fs t.data.toList m) (off fs[m]) (numB t.data.toList (4*m):Nat) j=decTo k fs t.data.toList (m+1) j):=by
      intro j;rw [<- hfd];rfl
     cases hb:okB fs[m] (numB t.data.toList (4*m):Nat) with
     | false =>
      have hE:=hid (HBad.out (okTo_bad fs t.data.toList m fs.length hlt (by rw [hfd];exact hb)))
      clear hfd HS hco hfz
      have z0:=hZ.1 0 (by omega)
      have z1:=hZ.1 1 (by omega)
      have z2:=hZ.1 2 (by omega)
      have z3:=hZ.1 3 (by omega)
      have z4:=hZ.1 4 (by omega)
      have z5:=hZ.1 5 (by omega)
      have z6:=hZ.1 6 (by omega)
      have z7:=hZ.1 7 (by omega)
      have z8:=hZ.1 8 (by omega)
      have zf:=hZ.2
      simp only [zero9] at z0 z1 z2 z3 z4 z5 z6 z7 z8
      generalize fs[m]=f at *
      go_wp2_with (first | (go_at_call 69;refine (numberAt_any t m _ (by unfold maxLen;omega) (by omega)).mono ?_;rintro e w' ⟨rfl,nd,rfl⟩) | (go_at_call 66;refine (allows_any f hf9 _ _).mono ?_;rintro e w' ⟨rfl,rfl⟩))
      have hZ':=(hZ.drewN nd).put9 zero9
      have hB':=Below.put9 (below_drewN hbel nd) nlr zero9
      change bodyPost _ _ _ _ _ (put9 (wr.drewN nd) w.heap.size zero9)
      generalize put9 (wr.drewN nd) w.heap.size zero9=w9 at hZ' hB' ⊢
      have y0:=hZ'.1 0 (by omega)
      have y1:=hZ'.1 1 (by omega)
      have y2:=hZ'.1 2 (by omega)
      have y3:=hZ'.1 3 (by omega)
      have y4:=hZ'.1 4 (by omega)
      have y5:=hZ'.1 5 (by omega)
      have y6:=hZ'.1 6 (by omega)
      have y7:=hZ'.1 7 (by omega)
      have y8:=hZ'.1 8 (by omega)
      exact bodyPost_ret (v:=.tuple #[.agg #[.int .i64 (zero9 0),.int .i64 (zero9 1),.int .i64 (zero9 2),.int .i64 (zero9 3),.int .i64 (zero9 4),.int .i64 (zero9 5),.int .i64 (zero9 6),.int .i64 (zero9 7),.int .i64 (zero9 8)],.int .i64 1]) (by simp [results,results41,go_sem,y0,y1,y2,y3,y4,y5,y6,y7,y8]) rfl ⟨ret_dec hE.out,hB'⟩
     | true =>
      have hst:=hid (okTo_step fs t.data.toList m HOK.out (by rw [hfd];exact hb))
      clear hfd
      generalize fs[m]=f at *
      go_wp2_with (first | (go_at_call 69;refine (numberAt_any t m _ (by unfold maxLen;omega) (by omega)).mono ?_;rintro e w' ⟨rfl,nd,rfl⟩) | (go_at_call 66;refine (allows_any f hf9 _ _).mono ?_;rintro e w' ⟨rfl,rfl⟩) | (go_at_call 65;refine (of_any f hf9 _ _).mono ?_;rintro e w' ⟨rfl,rfl⟩))
      go_roundw
      case rel =>
       have r1:Has ((wr.drewN nd).setCell ⟨w.heap.size+1,off f,none⟩ (.int .i64 (numB t.data.toList (4*m):Nat))) w.heap.size zero9:=(hZ.drewN nd).below (B:=w.heap.size+1) ((Below.refl (w.heap.size+1) _).setCell (by simp) _) (by omega)
       have r2:=((hC.drewN nd).set (off_lt f) (numB t.data.toList (4*m):Nat)).congr (fun j _=>HS.out j)
       have r3:HasF ((wr.drewN nd).setCell ⟨w.heap.size+1,off f,none⟩ (.int .i64 (numB t.data.toList (4*m):Nat))) (w.heap.size+2) fs:=(hFs.drewN nd).setOther (by omega)
       have r4:Below w.heap.size w ((wr.drewN nd).setCell ⟨w.heap.size+1,off f,none⟩ (.int .i64 (numB t.data.toList (4*m):Nat))):=(below_drewN hbel nd).setCell (by simp) _
       have r5:w.heap.size+2<((wr.drewN nd).setCell ⟨w.heap.size+1,off f,none⟩ (.int .i64 (numB t.data.toList (4*m):Nat))).heap.size:=by simpa using hsz
       exact ⟨m+1,by omega,by go_num,r1,r2,r3,r4,hst.out,r5⟩
      case measure=>simp [intOf];omega
    ·have hme:m=fs.length:=by omega
     rw [hme] at hC
     have hE:=HGood.out (by rw [<- hme];exact HOK.out)
     have hE':=hid hE
     clear hE hme
     generalize decTo k fs t.data.toList fs.length=d at *
     have z0:=hZ.1 0 (by omega)
     have z1:=hZ.1 1 (by omega)
     have z2:=hZ.1 2 (by omega)
     have z3:=hZ.1 3 (by omega)
     have z4:=hZ.1 4 (by omega)
     have z5:=hZ.1 5 (by omega)
     have z6:=hZ.1 6 (by omega)
     have z7:=hZ.1 7 (by omega)
     have z8:=hZ.1 8 (by omega)
     obtain ⟨c0,c1,c2,c3,c4,c5,c6,c7,c8⟩:=hC.nine
     have zf:=hZ.2
     simp only [zero9] at z0 z1 z2 z3 z4 z5 z6 z7 z8
     go_wp2
     have hZ':=hZ.put9 d
     have hB':=Below.put9 hbel nlr d
     change bodyPost _ _ _ _ _ (put9 wr w.heap.size d)
     generalize put9 wr w.heap.size d=w9 at hZ' hB' ⊢
     have y0:=hZ'.1 0 (by omega)
     have y1:=hZ'.1 1 (by omega)
     have y2:=hZ'.1 2 (by omega)
     have y3:=hZ'.1 3 (by omega)
     have y4:=hZ'.1 4 (by omega)
     have y5:=hZ'.1 5 (by omega)
     have y6:=hZ'.1 6 (by omega)
     have y7:=hZ'.1 7 (by omega)
     have y8:=hZ'.1 8 (by omega)
     exact bodyPost_ret (v:=.tuple #[.agg #[.int .i64 (d 0),.int .i64 (d 1),.int .i64 (d 2),.int .i64 (d 3),.int .i64 (d 4),.int .i64 (d 5),.int .i64 (d 6),.int .i64 (d 7),.int .i64 (d 8)],.int .i64 0]) (by simp [results,results41,go_sem,y0,y1,y2,y3,y4,y5,y6,y7,y8]) rfl ⟨ret_dec hE'.out,hB'⟩
  ·have hE:Hid (decC s.data.toList=zero9/\decE s.data.toList=1):=by
    rw [HL.out];exact dec_len s[0] t.data.toList (by rw [HTL.out,hk];exact hd)
   go_wp2
   have hZ':=hZ.put9 zero9
   have hB':=Below.put9 hbel nlr zero9
   change bodyPost _ _ _ _ _ (put9 wc w.heap.size zero9)
   generalize put9 wc w.heap.size zero9=w9 at hZ' hB' ⊢
   have y0:=hZ'.1 0 (by omega)
   have y1:=hZ'.1 1 (by omega)
   have y2:=hZ'.1 2 (by omega)
   have y3:=hZ'.1 3 (by omega)
   have y4:=hZ'.1 4 (by omega)
   have y5:=hZ'.1 5 (by omega)
   have y6:=hZ'.1 6 (by omega)
   have y7:=hZ'.1 7 (by omega)
   have y8:=hZ'.1 8 (by omega)
   exact bodyPost_ret (v:=.tuple #[.agg #[.int .i64 (zero9 0),.int .i64 (zero9 1),.int .i64 (zero9 2),.int .i64 (zero9 3),.int .i64 (zero9 4),.int .i64 (zero9 5),.int .i64 (zero9 6),.int .i64 (zero9 7),.int .i64 (zero9 8)],.int .i64 1]) (by simp [results,results41,go_sem,y0,y1,y2,y3,y4,y5,y6,y7,y8]) rfl ⟨ret_dec hE.out,hB'⟩
theorem decode_nil (w:World) :
  Calls prog 41 #[.string ByteArray.empty] w fun e w'=>e=.returned (.tuple #[.agg #[.int .i64 (decC [] 0),.int .i64 (decC [] 1),.int .i64 (decC [] 2),.int .i64 (decC [] 3),.int .i64 (decC [] 4),.int .i64 (decC [] 5),.int .i64 (decC [] 6),.int .i64 (decC [] 7),.int .i64 (decC [] 8)],.int .i64 (decE [])])/\Below w.heap.size w w':=by
 go_enter func41,ntmps41
 go_wp2
 exact bodyPost_ret (v:=.tuple #[.agg #[.int .i64 (zero9 0),.int .i64 (zero9 1),.int .i64 (zero9 2),.int .i64 (zero9 3),.int .i64 (zero9 4),.int .i64 (zero9 5),.int .i64 (zero9 6),.int .i64 (zero9 7),.int .i64 (zero9 8)],.int .i64 1]) (by simp [results,results41,go_sem,zero9]) rfl ⟨ret_dec dec_nil,bal⟩
theorem decode_no (s:ByteArray) (w:World) (hs:s.size<=maxLen) (h0:0<s.size) (k:Nat) (hk:s[0].toNat=k) (h:(k:Int)<1\/16<(k:Int)) :
  Calls prog 41 #[.string s] w fun e w'=>e=.returned (.tuple #[.agg #[.int .i64 (decC s.data.toList 0),.int .i64 (decC s.data.toList 1),.int .i64 (decC s.data.toList 2),.int .i64 (decC s.data.toList 3),.int .i64 (decC s.data.toList 4),.int .i64 (decC s.data.toList 5),.int .i64 (decC s.data.toList 6),.int .i64 (decC s.data.toList 7),.int .i64 (decC s.data.toList 8)],.int .i64 (decE s.data.toList)])/\Below w.heap.size w w':=by
 unfold maxLen at hs
 have hne:=isEmpty_no s h0
 have hE:Hid (decC s.data.toList=zero9/\decE s.data.toList=1):=by
  rw [cons_of s h0];exact dec_kind s[0] _ (by rw [hk];omega)
 have hk256:k<256:=by rw [<- hk];exact byte_lt _
 have hZ:=((Has.newK w 31 0).congr (d:=zero9) (fun j _=>by simp [base,zero9])).alloc (by simp) (.cells #[.int .i64 k,.int .i64 0,.int .i64 0,.int .i64 0,.int .i64 0,.int .i64 0,.int .i64 0,.int .i64 0,.int .i64 0] 31)
 go_enter func41,ntmps41
 go_upto_region 4 with fail
 go_cut [5,6] from 17 to 21 (fun a b wc=>a=.slice none 0 0/\b=.string (s.extract 1 s.size)/\Has wc w.heap.size zero9/\Below w.heap.size w wc)
 case first =>
  go_region_with (go_at_call 64;refine (fieldsOf_no _ h _).mono ?_;rintro e w' ⟨rfl,rfl⟩)
  all_goals
   go_wp2_with fail
   go_meet
   refine ⟨rfl,rfl,hZ.drew,?_⟩
   exact ((bal).alloc (by simp) _).drew
 case rest =>
  clear hZ
  obtain ⟨rfl,rfl,hZ,hbel⟩:=hcut
  have z0:=hZ.1 0 (by omega)
  have z1:=hZ.1 1 (by omega)
  have z2:=hZ.1 2 (by omega)
  have z3:=hZ.1 3 (by omega)
  have z4:=hZ.1 4 (by omega)
  have z5:=hZ.1 5 (by omega)
  have z6:=hZ.1 6 (by omega)
  have z7:=hZ.1 7 (by omega)
  have z8:=hZ.1 8 (by omega)
  have zf:=hZ.2
  simp only [zero9] at z0 z1 z2 z3 z4 z5 z6 z7 z8
  go_wp2
  have hZ':=hZ.put9 zero9
  have hB':=Below.put9 hbel nlr zero9
  change bodyPost _ _ _ _ _ (put9 wc w.heap.size zero9)
  generalize put9 wc w.heap.size zero9=w9 at hZ' hB' ⊢
  have y0:=hZ'.1 0 (by omega)
  have y1:=hZ'.1 1 (by omega)
  have y2:=hZ'.1 2 (by omega)
  have y3:=hZ'.1 3 (by omega)
  have y4:=hZ'.1 4 (by omega)
  have y5:=hZ'.1 5 (by omega)
  have y6:=hZ'.1 6 (by omega)
  have y7:=hZ'.1 7 (by omega)
  have y8:=hZ'.1 8 (by omega)
  exact bodyPost_ret (v:=.tuple #[.agg #[.int .i64 (zero9 0),.int .i64 (zero9 1),.int .i64 (zero9 2),.int .i64 (zero9 3),.int .i64 (zero9 4),.int .i64 (zero9 5),.int .i64 (zero9 6),.int .i64 (zero9 7),.int .i64 (zero9 8)],.int .i64 1]) (by simp [results,results41,go_sem,y0,y1,y2,y3,y4,y5,y6,y7,y8]) rfl ⟨ret_dec hE.out,hB'⟩
theorem decode_any (s:ByteArray) (w:World) (hs:s.size<=maxLen) :
  Calls prog 41 #[.string s] w fun e w'=>e=.returned (.tuple #[.agg #[.int .i64 (decC s.data.toList 0),.int .i64 (decC s.data.toList 1),.int .i64 (decC s.data.toList 2),.int .i64 (decC s.data.toList 3),.int .i64 (decC s.data.toList 4),.int .i64 (decC s.data.toList 5),.int .i64 (decC s.data.toList 6),.int .i64 (decC s.data.toList 7),.int .i64 (decC s.data.toList 8)],.int .i64 (decE s.data.toList)])/\Below w.heap.size w w':=by
 by_cases h0:0<s.size
 ·by_cases h:1<=(s[0].toNat:Int)/\(s[0].toNat:Int)<=16
  ·exact decode_yes s w hs h0 _ rfl h.1 h.2
  ·exact decode_no s w hs h0 _ rfl (by omega)
 ·have e:s=ByteArray.empty:=by
   apply ByteArray.ext
   apply Array.eq_empty_of_size_eq_zero
   show s.size=0
   omega
  subst e
  exact decode_nil w
end
end Go.Proofs.YtalncjhldkcmaaaGreat
