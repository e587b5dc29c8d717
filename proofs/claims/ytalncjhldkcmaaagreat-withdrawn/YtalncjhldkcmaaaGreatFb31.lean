import Derived.Test.YtalncjhldkcmaaaGreatFb25
import Derived.Test.YtalncjhldkcmaaaGreatFb19
import Derived.Test.YtalncjhldkcmaaaGreatFb09
import Derived.Test.YtalncjhldkcmaaaGreatFb07
namespace Go.Proofs.YtalncjhldkcmaaaGreat
open _root_.Go.Proofs.Tryz
set_option maxHeartbeats 16000000
set_option maxRecDepth 8000
section
open Go.RowKit Go.Shelf
attribute [local go_sem] Oper.semAt_some run_store_cplx
theorem show_any (n₀ b:Nat) (m:Cm) (hm:m.Ok) (L:Led) (w:World) (hT:TxL n₀ w b L) :
    Calls prog 116 #[.pointer (some ⟨b,0,none⟩),m.val] w fun e w'=>∃ v,e=.returned v/\IntsIn w' v (showQ (L.tubeD m.t))/\Below w.heap.size w w':=by
  have hb0:=Cm.hb w m
  have HTu:=hid (tube_led n₀ b m.t L _ (hT.below hb0) (by have:=hm.t;omega))
  have HN:=hid (recNumbers_any (L.tubeD m.t) (Led.tubeD_ok hT.ok m.t))
  have HB:=hid hb0
  generalize L.tubeD m.t=q at *
  simp only [PT.val,PT.cells,pl] at HTu HN
  unfold Cm.val
  clear hT hb0
  go_enter func116,ntmps116
  go_wp2_with (first
    | (go_at_call 143;refine HTu.out.mono ?_;clear HTu;rintro e w1 ⟨rfl,hb1⟩)
    | (go_at_call 170;refine (HN.out _).mono ?_;clear HN;rintro e w2 ⟨v,rfl,hrow,hb2⟩))
  go_ret
  have hB1:Below w.heap.size w w1:=HB.out.trans (hb1.mono HB.out.size)
  have hbA:Below w1.heap.size w1 (w1.alloc (.cells #[.complex .f64 (fl q.x) (fl q.y),.int .i64 q.box,.int .i64 q.donor,.int .i64 q.status,.int .i64 q.thaws,.int .i64 q.began,.int .i64 q.left,.int .i64 q.used,.int .i64 q.lost] 216)):=(Below.refl _ w1).alloc nlr _
  have hB2:=hB1.trans (hbA.mono hB1.size)
  exact ⟨v,rfl,own_intsIn hrow rfl,hB2.trans (hb2.mono hB2.size)⟩
theorem cont_end {V:World} {D:Nat} {v:Value} {R:Value->World->Prop} {tmps:List Value} (hc:tmps[4]? = some v) (hD:V.heap[D]? = some (.deferred (some []))) (hR:R v (V.putObj D (.deferred none))) :
    bodyPostM Fence.wide 0 prog Tryz.f117 (fun e w'=>∃ v,e=.returned v/\R v w') .ret
      { tmps:=tmps.toArray,defers:=[{ target:=.collected D,args:=#[] }] } V:=by
  refine ⟨by simp,.inl ⟨_,_,rfl,run_takeDeferred hD,?_⟩⟩
  refine ⟨v,?_,v,rfl,hR⟩
  simp [results,results117,go_sem,hc]
theorem contQ_append (a b:List TN):Led.contQ (a++b)=Led.contQ a++Led.contQ b:=by simp [Led.contQ]
theorem contQ_len (l:List TN):(Led.contQ l).length=3*l.length:=by
  induction l with
  | nil=>rfl
  | cons t l ih=>simp only [Led.contQ,List.flatMap_cons,List.length_append,List.length_cons,List.length_nil] at *;omega
theorem app_cell3c (w:World) (x y z:Int):∀ j u,[Value.int .i64 x,.int .i64 y,.int .i64 z][j]? = some u->(w.alloc (.cells #[.int .i64 x,.int .i64 y,.int .i64 z] 3)).cell? ((⟨w.heap.size,0,none⟩:Addr).add j)=some u:=by
  intro j u hj
  match j,hj with
  | 0,hj=>simp at hj;subst hj;simp [Addr.add]
  | 1,hj=>simp at hj;subst hj;rw [addr_add];simp
  | 2,hj=>simp at hj;subst hj;rw [addr_add];simp
theorem content_any (n₀ b:Nat) (m:Cm) (L:Led) (w:World) (hT:TxL n₀ w b L) :
    Calls prog 117 #[.pointer (some ⟨b,0,none⟩),m.val] w fun e w'=>∃ v,e=.returned v/\IntsIn w' v (Led.contQ (L.ts.filter (inBox m.b)))/\Below w.heap.size w w':=by
  obtain ⟨i0,hi,hz0,hz1,hz2⟩:=info_parts Tryz.infoInt
  have hmx:=Tryz.mixed
  have hn0:n₀<=w.heap.size:=by obtain ⟨⟨⟨r,hB,hI⟩,hf⟩,_,_⟩:=hT;exact hI.2.1
  have hfew:=hT.fewT
  have hfl:=List.length_filter_le (inBox m.b) L.ts
  have hok:=hT.toks
  have hC0:=Cm.has_new w 31 m
  have hbA:Below w.heap.size w (w.alloc (.cells #[.int .i64 m.k,.int .i64 m.t,.int .i64 m.o,.int .i64 m.d,.int .i64 m.v,.int .i64 m.b,.int .i64 m.x,.int .i64 m.y,.int .i64 m.n] 31)):=(Below.refl _ w).alloc nlr _
  have hsA:(w.alloc (.cells #[.int .i64 m.k,.int .i64 m.t,.int .i64 m.o,.int .i64 m.d,.int .i64 m.v,.int .i64 m.b,.int .i64 m.x,.int .i64 m.y,.int .i64 m.n] 31)).heap.size=w.heap.size+1:=by simp
  have hb0:=hbA.alloc (by omega) (.cells #[.slice none 0 0] 36)
  have hRs:=Boxed.new (w.alloc (.cells #[.int .i64 m.k,.int .i64 m.t,.int .i64 m.o,.int .i64 m.d,.int .i64 m.v,.int .i64 m.b,.int .i64 m.x,.int .i64 m.y,.int .i64 m.n] 31)) 36 (.slice none 0 0)
  rw [hsA] at hRs
  have hs0:((w.alloc (.cells #[.int .i64 m.k,.int .i64 m.t,.int .i64 m.o,.int .i64 m.d,.int .i64 m.v,.int .i64 m.b,.int .i64 m.x,.int .i64 m.y,.int .i64 m.n] 31)).alloc (.cells #[.slice none 0 0] 36)).heap.size=w.heap.size+1+1:=by simp
  have HIn:=hid (in_any n₀ b m.b L.kvs L.ts hT.toks (Led.sel_ts hT.ok) _ (hT.below hb0).tx)
  have HB:=hid hb0
  have HRs:=hid hRs
  have Hs:=hid hs0
  clear hT hC0 hbA hsA hb0 hRs hs0
  unfold Cm.val
  refine calls_marks func117 rfl ?_
  simp only [ntmps117,List.size_toArray,List.length_cons,List.length_nil,Nat.reduceAdd,Nat.reduceSub,Array.replicate_succ,Array.replicate_zero,List.push_toArray,List.append_toArray,List.nil_append,List.cons_append]
  go_wp2_with (go_at_call 165;refine HIn.out.mono ?_;clear HIn;rintro e w2 ⟨lb,rfl,hG,hb2⟩)
  have hb1:=HB.out
  have hbr:=HRs.out
  have hs:=Hs.out
  clear HB HRs Hs
  generalize (w.alloc (.cells #[.int .i64 m.k,.int .i64 m.t,.int .i64 m.o,.int .i64 m.d,.int .i64 m.v,.int .i64 m.b,.int .i64 m.x,.int .i64 m.y,.int .i64 m.n] 31)).alloc (.cells #[.slice none 0 0] 36)=w1 at *
  have hb12:Below w.heap.size w w2:=hb1.trans (hb2.mono hb1.size)
  have h2:=hb2.size
  have hbr2:=boxed_below hbr hb2
  refine (wpIn_wide (n:=0)).1 ?_
  refine rangeM_law (gf:=197) (lb:=lb) rfl (enters_of func197 (by kernel_rfl) rfl) (hG (fun _=>False) w2 (fun k=>k=w.heap.size+1) (Keeps.refl _ _) (fun _ h=>h.elim) (fun k h=>by omega)) (Below.refl _ _) (fun k h=>by omega) (fun _=>rfl)
    (fun M pre V=>pre <+: L.ts.filter (inBox m.b)/\(∃ v,Boxed V (w.heap.size+1) 36 v/\V.ownsRow M 3 1 v (Led.contQ pre).length (intCells (Led.contQ pre)))/\Below w.heap.size w V)
    (fun _ _ _ _=>False)
    (fun _ s A B row hs hg hr=>by
      obtain ⟨h0,⟨v,h2,h3⟩,h4⟩:=hs
      exact ⟨h0,⟨v,own_boxed h2 hg hr,own_row h3 hg hr⟩,own_below h4 nlr hb12.size hg hr⟩)
    (fun _ c s A B row hs hg hr=>hs.elim)
    (fun _ _=>⟨List.nil_prefix,⟨_,hbr2,World.ownsRow_nil _ _ _ _⟩,hb12⟩)
    (fun x a' V=>∃ r,RecBox V r x.2.cells/\a'={ tmps:=#[.pointer (some ⟨b,0,none⟩),.agg #[.int .i64 m.k,.int .i64 m.t,.int .i64 m.o,.int .i64 m.d,.int .i64 m.v,.int .i64 m.b,.int .i64 m.x,.int .i64 m.y,.int .i64 m.n],undef,.pointer (some ⟨w.heap.size,0,none⟩),.slice none 0 0,.pointer (some ⟨w.heap.size+1,0,none⟩),.int .i64 x.1,.pointer (some ⟨r,0,none⟩),.pointer (some ⟨b,0,none⟩),.pointer (some ⟨w.heap.size,5,none⟩),.int .i64 m.b,.func (.func 197) #[] lb,.int .i64 x.1,x.2.val,undef,undef,undef,undef,undef,undef,undef,undef,undef,undef,undef],defers:=[] })
    (fun x a' _ A B row hs hg hr=>by
      obtain ⟨b,h2,h3⟩:=hs
      exact ⟨b,own_recBox h2 hg hr,h3⟩) ?assign ?body ?done ?stop
  case assign =>
    intro y M pre x V K hM1 hM2 _ hi hK
    simp only [encT,PT.val,PT.cells,pl]
    gi_wp2
    have hbV:Below V.heap.size V (V.alloc (.cells #[.complex .f64 (fl x.2.x) (fl x.2.y),.int .i64 x.2.box,.int .i64 x.2.donor,.int .i64 x.2.status,.int .i64 x.2.thaws,.int .i64 x.2.began,.int .i64 x.2.left,.int .i64 x.2.used,.int .i64 x.2.lost] 216)):=bal
    obtain ⟨i1,⟨v,i2,i3⟩,i5⟩:=hi
    exact hK _ _ ((Keeps.refl _ V).below hbV nlr) ⟨i1,⟨v,boxed_below i2 hbV,i3.alloc _⟩,i5.trans (hbV.mono i5.size)⟩ ⟨V.heap.size,World.alloc_heap_new V _,rfl⟩
  case body =>
    rintro y M pre x a' V hy1 hy2 hM1 hM2 hp ⟨hpre,⟨v,hres,hrow⟩,hbel⟩ ⟨r,hr,rfl⟩
    have hxm:x∈L.ts.filter (inBox m.b):=hp.subset (by simp)
    have hxo:=(hok x (List.mem_filter.1 hxm).1).1
    have hx:=@x_any x.2.x x.2.y hxo.x
    have hyy:=@y_any x.2.x x.2.y hxo.y
    have hc3:=hres.cell
    have d0:=hr.cells.c0
    have hplen:=hpre.length_le
    have hcl:(Led.contQ pre).length<=3*pre.length:=by rw [contQ_len];omega
    have HC:=hid (contQ_append pre [x])
    simp only [pl] at hx hyy
    generalize hfa:fl x.2.x=fa at hx hyy d0
    generalize hfb:fl x.2.y=fb at hx hyy d0
    gi_wp2
    have hS0:V.cell? ⟨r,0,none⟩=some (.complex .f64 fa fb):=d0
    have hba:Below V.heap.size V (V.alloc (.cells #[.int .i64 x.1,.int .i64 x.2.x,.int .i64 x.2.y] 3)).drew:=(bal).drew
    have hS1:(V.alloc (.cells #[.int .i64 x.1,.int .i64 x.2.x,.int .i64 x.2.y] 3)).drew.cell? ⟨r,0,none⟩=some (.complex .f64 fa fb):=(hba.cell (p:=⟨r,0,none⟩) hr.lt).trans d0
    have hc31:(V.alloc (.cells #[.int .i64 x.1,.int .i64 x.2.x,.int .i64 x.2.y] 3)).cell? ⟨w.heap.size+1,0,none⟩=some v:=(hba.cell (p:=⟨w.heap.size+1,0,none⟩) hres.lt).trans hc3
    have HB3:=hid (show ∀ w3,(V.alloc (.cells #[.int .i64 x.1,.int .i64 x.2.x,.int .i64 x.2.y] 3)).drew.grownBy w3 v.ownBlock->Boxed w3 (w.heap.size+1) 36 v/\RecBox w3 r x.2.cells from fun w3 hg =>
      ⟨(hg.block _ (by have:=hres.lt;have:=hba.size;omega) (fun e=>by have:=(hrow.lt _ e.symm).1;omega)).trans (boxed_below hres hba),
       (hg.block _ (by have:=hr.lt;have:=hba.size;omega) (fun e=>by
        rcases hrow.2 with ⟨hv,h0⟩ | ⟨g',cap',cur',rfl,h1,hg',_⟩
        · rw [hv] at e;cases e
        · injection e with e;subst e
          have:V.heap[r]? = some (.cells x.2.cells 216 (0,0)):=hr
          rw [hg'] at this;cases this)).trans (hr.below hba)⟩)
    have hne:r≠w.heap.size+1:=by
      rintro rfl
      have h1:V.heap[w.heap.size+1]? = some (.cells x.2.cells 216 (0,0)):=hr
      have h2:V.heap[w.heap.size+1]? = some (.cells #[v] 36 (0,0)):=hres
      rw [h1] at h2;cases h2
    have HEnd:=hid (show ∀ w3 g3 cap3 (n:Nat),w3.ownsRow M 3 1 (.slice (some ⟨g3,0,none⟩) n cap3) ((Led.contQ pre).length+3) (intCells (Led.contQ pre)++[.int .i64 x.1,.int .i64 x.2.x,.int .i64 x.2.y])->(V.alloc (.cells #[.int .i64 x.1,.int .i64 x.2.x,.int .i64 x.2.y] 3)).drew.grownBy w3 v.ownBlock->Boxed w3 (w.heap.size+1) 36 v->RecBox w3 r x.2.cells ->
        (w3.setCell ⟨w.heap.size+1,0,none⟩ (.slice (some ⟨g3,0,none⟩) n cap3)).cell? ⟨r,0,none⟩=some (.complex .f64 fa fb)/\(Keeps (fun k=>k=w.heap.size+1\/M<=k) V (w3.setCell ⟨w.heap.size+1,0,none⟩ (.slice (some ⟨g3,0,none⟩) n cap3)) /\
          (pre++[x] <+: L.ts.filter (inBox m.b)/\(∃ v,Boxed (w3.setCell ⟨w.heap.size+1,0,none⟩ (.slice (some ⟨g3,0,none⟩) n cap3)) (w.heap.size+1) 36 v/\(w3.setCell ⟨w.heap.size+1,0,none⟩ (.slice (some ⟨g3,0,none⟩) n cap3)).ownsRow M 3 1 v (Led.contQ (pre++[x])).length (intCells (Led.contQ (pre++[x]))))/\Below w.heap.size w (w3.setCell ⟨w.heap.size+1,0,none⟩ (.slice (some ⟨g3,0,none⟩) n cap3)))) from fun w3 g3 cap3 n hown' hgrow' hb3 hr3=>by
      have hk3:Keeps (fun k=>k=w.heap.size+1\/M<=k) V (w3.setCell ⟨w.heap.size+1,0,none⟩ (.slice (some ⟨g3,0,none⟩) n cap3)):=((below_toKeeps hba _).grown hgrow' (fun k e=>.inl (.inr (hrow.lt k e).1))).setCell (p:=⟨w.heap.size+1,0,none⟩) (.inl (.inl rfl)) _
      have hc0:=hr3.cells.c0
      rw [hfa,hfb] at hc0
      refine ⟨?_,hk3,hp,⟨_,hb3.set _,?_⟩,hbel.trans (hk3.toBelow (fun k h=>by omega) hbel.size)⟩
      · rw [World.cell?_setCell_other (w:=w3) (h:=by intro h;injection h with h1 _ _;exact hne h1.symm)];exact hc0
      · rw [HC.out]
        refine ownsRow_block (w:=w3) ?_ (fun g hg=>Below.heap_setCell w3 _ _ g (by have:=(hown'.lt g hg).1;show g≠w.heap.size+1;omega))
        rw [List.length_append]
        simpa [intCells,Led.contQ] using hown')
    have Hfa:=hid hfa
    have Hfb:=hid hfb
    clear hr hfa hfb
    refine wpIn_region_held (S:=fun u=>u.cell? ⟨r,0,none⟩=some (.complex .f64 fa fb)) 11 rfl hmx (by kernel_rfl) ?_ ?_
    · rintro ⟨a,w,h⟩;exact h
    refine wpAnyH_tk 1 (some 15) (.int .i64 x.1) rfl rfl (by kernel_rfl) (by kernel_rfl) (by kernel_rfl) (fun _ _ _ h=>h) (.inl ⟨rfl,fun u hu => ?_⟩) hS0 ?_
    · simp [go_sem]
    simp only [Act.put,List.setIfInBounds_toArray,List.set_cons_succ,List.set_cons_zero]
    refine wpAnyH_tk 2 (some 16) (.pointer (some ⟨r,0,none⟩)) rfl rfl (by kernel_rfl) (by kernel_rfl) (by kernel_rfl) (fun _ _ _ h=>h) (.inl ⟨rfl,fun u hu => ?_⟩) hS0 ?_
    · simp [go_sem]
    simp only [Act.put,List.setIfInBounds_toArray,List.set_cons_succ,List.set_cons_zero]
    refine wpAnyH_tk 3 (some 17) (.complex .f64 fa fb) rfl rfl (by kernel_rfl) (by kernel_rfl) (by kernel_rfl) (fun _ _ _ h=>h) (.inl ⟨rfl,fun u hu => ?_⟩) hS0 ?_
    · simp [go_sem,hu]
    simp only [Act.put,List.setIfInBounds_toArray,List.set_cons_succ,List.set_cons_zero]
    refine wpAnyH_tk 5 (some 19) (.pointer (some ⟨r,0,none⟩)) rfl rfl (by kernel_rfl) (by kernel_rfl) (by kernel_rfl) (fun _ _ _ h=>h) (.inl ⟨rfl,fun u hu => ?_⟩) hS0 ?_
    · simp [go_sem]
    simp only [Act.put,List.setIfInBounds_toArray,List.set_cons_succ,List.set_cons_zero]
    refine wpAnyH_tk 6 (some 20) (.complex .f64 fa fb) rfl rfl (by kernel_rfl) (by kernel_rfl) (by kernel_rfl) (fun _ _ _ h=>h) (.inl ⟨rfl,fun u hu => ?_⟩) hS0 ?_
    · simp [go_sem,hu]
    simp only [Act.put,List.setIfInBounds_toArray,List.set_cons_succ,List.set_cons_zero]
    refine wpAnyH_two 0 4 (by kernel_rfl) rfl rfl rfl rfl (fun K hK => ?_) (fun K hK => ?_)
    · go_simp
      refine hK _ _ hS0 ?_
      clear hK
      refine wpAnyH_one 4 (by kernel_rfl) rfl rfl fun K hK => ?_
      go_simp
      refine (hx _).mono ?_
      rintro e w' ⟨rfl,rfl⟩
      refine hK _ _ hS0 ?_
      clear hK
      refine wpAnyH_one 7 (by kernel_rfl) rfl rfl fun K hK => ?_
      go_simp
      refine (hyy _).mono ?_
      rintro e w' ⟨rfl,rfl⟩
      refine hK _ _ hS0 ?_
      clear hK
      refine wpAnyH_one 8 (by kernel_rfl) rfl rfl fun K hK => ?_
      go_simp
      refine hK _ _ hS1 ?_
      clear hK
      refine wpAnyH_one 9 (by kernel_rfl) rfl rfl fun K hK => ?_
      refine wp_append_own _ (some 23) rfl (.tmp 14) (.tmp 22) 36 rfl M 3 i0 (.int .i64 0) 1 8 underlying36 hi hz0 hz1 hz2 rfl (by decide) v (Led.contQ pre).length (intCells (Led.contQ pre)) rfl (ownsRow_block hrow (fun g hg=>hba.block g (hrow.lt g hg).2)) ⟨V.heap.size,0,none⟩ 3 3 [.int .i64 x.1,.int .i64 x.2.x,.int .i64 x.2.y] rfl rfl (app_cell3c V _ _ _) (by intro u hu;simp at hu;rcases hu with rfl | rfl | rfl <;> rfl) (by unfold maxLen;omega) (by omega) (by have:=hba.size;omega) ?_
      intro v' w3 hown' hgrow'
      obtain ⟨g3,cap3,rfl⟩:=own_form (n:=(Led.contQ pre).length+2) hown'
      obtain ⟨hb3,hr3⟩:=HB3.out w3 hgrow'
      refine hK _ _ (by have:=hr3.cells.c0;rw [Hfa.out,Hfb.out] at this;exact this) ?_
      clear hK
      simp only [Act.put,List.setIfInBounds_toArray,List.set_cons_succ,List.set_cons_zero]
      refine wpAnyH_one 10 (by kernel_rfl) rfl rfl fun K hK => ?_
      have hc3':=hb3.cell
      have hf3':=hb3.frozen
      have HE:=hid (HEnd.out _ _ _ _ hown' hgrow' hb3 hr3)
      clear hown' hgrow' hb3 hr3
      go_simp
      refine hK _ _ HE.out.1 ?_
      clear hK
      refine wpAnyH_done (by kernel_rfl) ?_ _
      exact HE.out.2
    · go_simp
      refine (hx _).mono ?_
      rintro e w' ⟨rfl,rfl⟩
      refine hK _ _ hS0 ?_
      clear hK
      refine wpAnyH_two 0 7 (by kernel_rfl) rfl rfl rfl rfl (fun K hK => ?_) (fun K hK => ?_)
      · go_simp
        refine hK _ _ hS0 ?_
        clear hK
        refine wpAnyH_one 7 (by kernel_rfl) rfl rfl fun K hK => ?_
        go_simp
        refine (hyy _).mono ?_
        rintro e w' ⟨rfl,rfl⟩
        refine hK _ _ hS0 ?_
        clear hK
        refine wpAnyH_one 8 (by kernel_rfl) rfl rfl fun K hK => ?_
        go_simp
        refine hK _ _ hS1 ?_
        clear hK
        refine wpAnyH_one 9 (by kernel_rfl) rfl rfl fun K hK => ?_
        refine wp_append_own _ (some 23) rfl (.tmp 14) (.tmp 22) 36 rfl M 3 i0 (.int .i64 0) 1 8 underlying36 hi hz0 hz1 hz2 rfl (by decide) v (Led.contQ pre).length (intCells (Led.contQ pre)) rfl (ownsRow_block hrow (fun g hg=>hba.block g (hrow.lt g hg).2)) ⟨V.heap.size,0,none⟩ 3 3 [.int .i64 x.1,.int .i64 x.2.x,.int .i64 x.2.y] rfl rfl (app_cell3c V _ _ _) (by intro u hu;simp at hu;rcases hu with rfl | rfl | rfl <;> rfl) (by unfold maxLen;omega) (by omega) (by have:=hba.size;omega) ?_
        intro v' w3 hown' hgrow'
        obtain ⟨g3,cap3,rfl⟩:=own_form (n:=(Led.contQ pre).length+2) hown'
        obtain ⟨hb3,hr3⟩:=HB3.out w3 hgrow'
        refine hK _ _ (by have:=hr3.cells.c0;rw [Hfa.out,Hfb.out] at this;exact this) ?_
        clear hK
        simp only [Act.put,List.setIfInBounds_toArray,List.set_cons_succ,List.set_cons_zero]
        refine wpAnyH_one 10 (by kernel_rfl) rfl rfl fun K hK => ?_
        have hc3':=hb3.cell
        have hf3':=hb3.frozen
        have HE:=hid (HEnd.out _ _ _ _ hown' hgrow' hb3 hr3)
        clear hown' hgrow' hb3 hr3
        go_simp
        refine hK _ _ HE.out.1 ?_
        clear hK
        refine wpAnyH_done (by kernel_rfl) ?_ _
        exact HE.out.2
      · go_simp
        refine (hyy _).mono ?_
        rintro e w' ⟨rfl,rfl⟩
        refine hK _ _ hS0 ?_
        clear hK
        refine wpAnyH_two 0 8 (by kernel_rfl) rfl rfl rfl rfl (fun K hK => ?_) (fun K hK => ?_)
        · go_simp
          refine hK _ _ hS0 ?_
          clear hK
          refine wpAnyH_one 8 (by kernel_rfl) rfl rfl fun K hK => ?_
          go_simp
          refine hK _ _ hS1 ?_
          clear hK
          refine wpAnyH_one 9 (by kernel_rfl) rfl rfl fun K hK => ?_
          refine wp_append_own _ (some 23) rfl (.tmp 14) (.tmp 22) 36 rfl M 3 i0 (.int .i64 0) 1 8 underlying36 hi hz0 hz1 hz2 rfl (by decide) v (Led.contQ pre).length (intCells (Led.contQ pre)) rfl (ownsRow_block hrow (fun g hg=>hba.block g (hrow.lt g hg).2)) ⟨V.heap.size,0,none⟩ 3 3 [.int .i64 x.1,.int .i64 x.2.x,.int .i64 x.2.y] rfl rfl (app_cell3c V _ _ _) (by intro u hu;simp at hu;rcases hu with rfl | rfl | rfl <;> rfl) (by unfold maxLen;omega) (by omega) (by have:=hba.size;omega) ?_
          intro v' w3 hown' hgrow'
          obtain ⟨g3,cap3,rfl⟩:=own_form (n:=(Led.contQ pre).length+2) hown'
          obtain ⟨hb3,hr3⟩:=HB3.out w3 hgrow'
          refine hK _ _ (by have:=hr3.cells.c0;rw [Hfa.out,Hfb.out] at this;exact this) ?_
          clear hK
          simp only [Act.put,List.setIfInBounds_toArray,List.set_cons_succ,List.set_cons_zero]
          refine wpAnyH_one 10 (by kernel_rfl) rfl rfl fun K hK => ?_
          have hc3':=hb3.cell
          have hf3':=hb3.frozen
          have HE:=hid (HEnd.out _ _ _ _ hown' hgrow' hb3 hr3)
          clear hown' hgrow' hb3 hr3
          go_simp
          refine hK _ _ HE.out.1 ?_
          clear hK
          refine wpAnyH_done (by kernel_rfl) ?_ _
          exact HE.out.2
        · go_simp
          refine hK _ _ hS1 ?_
          clear hK
          refine wpAnyH_one 0 (by kernel_rfl) rfl rfl fun K hK => ?_
          go_simp
          refine hK _ _ hS1 ?_
          clear hK
          refine wpAnyH_one 9 (by kernel_rfl) rfl rfl fun K hK => ?_
          refine wp_append_own _ (some 23) rfl (.tmp 14) (.tmp 22) 36 rfl M 3 i0 (.int .i64 0) 1 8 underlying36 hi hz0 hz1 hz2 rfl (by decide) v (Led.contQ pre).length (intCells (Led.contQ pre)) rfl (ownsRow_block hrow (fun g hg=>hba.block g (hrow.lt g hg).2)) ⟨V.heap.size,0,none⟩ 3 3 [.int .i64 x.1,.int .i64 x.2.x,.int .i64 x.2.y] rfl rfl (app_cell3c V _ _ _) (by intro u hu;simp at hu;rcases hu with rfl | rfl | rfl <;> rfl) (by unfold maxLen;omega) (by omega) (by have:=hba.size;omega) ?_
          intro v' w3 hown' hgrow'
          obtain ⟨g3,cap3,rfl⟩:=own_form (n:=(Led.contQ pre).length+2) hown'
          obtain ⟨hb3,hr3⟩:=HB3.out w3 hgrow'
          refine hK _ _ (by have:=hr3.cells.c0;rw [Hfa.out,Hfb.out] at this;exact this) ?_
          clear hK
          simp only [Act.put,List.setIfInBounds_toArray,List.set_cons_succ,List.set_cons_zero]
          refine wpAnyH_one 10 (by kernel_rfl) rfl rfl fun K hK => ?_
          have hc3':=hb3.cell
          have hf3':=hb3.frozen
          have HE:=hid (HEnd.out _ _ _ _ hown' hgrow' hb3 hr3)
          clear hown' hgrow' hb3 hr3
          go_simp
          refine hK _ _ HE.out.1 ?_
          clear hK
          refine wpAnyH_done (by kernel_rfl) ?_ _
          exact HE.out.2
  case done =>
    rintro M V hM ⟨hpre,⟨v,hres,hrow⟩,hbel⟩ hD
    have hc3:=hres.cell
    go_wp2_with fail
    refine cont_end (R:=fun v w'=>IntsIn w' v (Led.contQ (L.ts.filter (inBox m.b)))/\Below w.heap.size w w') rfl hD ⟨?_,?_⟩
    · exact own_intsIn (own_row (B:=0) hrow (grownBy_putObj' V _ _) (fun r e=>by cases e;exact ⟨Nat.zero_le _,_,hD,rfl⟩)) rfl
    · exact hbel.trans ((Below.refl _ V).grown (grownBy_putObj' V _ _) (by have:=hbel.size;omega) (fun k e=>by cases e;omega))
  case stop =>
    rintro M c pre V hM hp h hD
    exact h.elim
end
section
open Go.RowKit Go.Shelf
structure Led.Can (L:Led) (m:Cm):Prop where
 k1:m.k=3\/m.k=7\/m.k=8->∃ q,L.tube m.t=some q
 k4:m.k=4->m.t<m.o/\∃ q,L.tube m.t=some q/\m.v<=q.left/\L.pouredN m.t m.o+m.v<=1000000
 k5:m.k=5->m.t<m.o/\∃ q q2,L.tube m.t=some q/\L.tube m.o=some q2/\m.v<=q.left/\q2.left+m.v<=1000000/\L.pouredN m.t m.o+m.v<=1000000
 k6:m.k=6->∃ q,L.tube m.t=some q/\m.v<=q.left/\q.used+m.v<=1000000
 k10:m.k=10\/m.k=11->∀ t∈L.ts.filter (inBox m.b),t.2.x<L.sideN m.b/\t.2.y<L.sideN m.b
def PerfEnds (b:Nat) (L:Led) (zs:List Int) (w:World) (e:Ending) (w':World):Prop:=∃ v,e=.returned v/\IntsIn w' v zs/\(∃ n₁,TxL n₁ w' b L)/\Keeps (fun k=>k=b) w w'
theorem perf_nil {b:Nat} {L:Led} {w w1 w':World} (hB:Below w.heap.size w w1) {n₁:Nat} (hT:TxL n₁ w' b L) (hk:Keeps (fun k=>k=b) w1 w'):PerfEnds b L [] w (.returned (.slice none 0 0)) w' :=
 ⟨_,rfl,.inr ⟨rfl,rfl⟩,⟨_,hT⟩,(below_toKeeps hB _).trans hk⟩
theorem perf_put {b:Nat} {L:Led} {w w1 w':World} {e:Ending} (hB:Below w.heap.size w w1) (hP:PutL b L w1 e w'):PerfEnds b L [] w (.returned (.slice none 0 0)) w':=perf_nil hB hP.2.1 hP.2.2
theorem perf_tell {b n₀:Nat} {L:Led} {w w1 w':World} {v:Value} {zs:List Int} (hB:Below w.heap.size w w1) (hT:TxL n₀ w b L) (hi:IntsIn w' v zs) (hb:Below w1.heap.size w1 w'):PerfEnds b L zs w (.returned v) w':=by
 have h:=hB.trans (hb.mono hB.size)
 exact ⟨v,rfl,hi,⟨n₀,hT.below h⟩,below_toKeeps h _⟩
theorem TxL.below' {n₀ b:Nat} {L:Led} {w w':World} (h:TxL n₀ w b L) (hk:Keeps (fun _=>False) w w'):TxL n₀ w' b L:=h.below (hk.toBelow (fun _ h=>h.elim) nlr)
section
variable {n₀ b:Nat} {m:Cm} {L:Led} {w:World}
theorem perform_any (hm:m.Ok) (hT:TxL n₀ w b L) (hnb:n₀<=b) (hf:L.kvs.length<3000) (hC:L.Can m) :
  Calls prog 71 #[.pointer (some ⟨b,0,none⟩),m.val] w (PerfEnds b (L.act m) (L.tell m) w):=by
 have hb0:=Cm.hb w m
 have hmf:=Run.makeFunc
 have hT1:=hT.below hb0
 have hk:=hm.k
 have HB:=hid hb0
 have hbl:b<w.heap.size:=by obtain ⟨⟨⟨r,hB,hI⟩,hf⟩,_,_⟩:=hT;exact hB.lt
 have hn0:n₀<=w.heap.size:=by obtain ⟨⟨⟨r,hB,hI⟩,hf⟩,_,_⟩:=hT;exact hI.2.1
 have hok:=hT.ok
 clear hb0
 have hkk:m.k=1\/m.k=2\/m.k=3\/m.k=4\/m.k=5\/m.k=6\/m.k=7\/m.k=8\/m.k=9\/m.k=10\/m.k=11\/m.k=12\/m.k=13\/m.k=14\/m.k=15\/m.k=16:=by omega
 rcases hkk with e | e | e | e | e | e | e | e | e | e | e | e | e | e | e | e
 case inl =>
  have HS:=hid (setSide_led n₀ b m.b m.n L _ hT1 ⟨hm.b1 (by omega),hm.b⟩ ⟨hm.n1 (by omega),hm.n⟩ (by omega))
  have HA:=hid (show L.act m={ L with bs:=insB L.bs m.b m.n } by simp [Led.act,e])
  have HN:=hid (show L.tell m=[] by simp [Led.tell,e])
  have b1:(((m.k:Nat):Int) == 1)=true:=beq_iff_eq.2 (by omega)
  unfold Cm.val at *
  clear e hC hT hT1 hok hm
  go_enter func71,ntmps71
  go_wp2_with (go_at_call 105;refine HS.out.mono ?_;clear HS;intro e w2 hP;have he:=hP.1;subst he)
  go_ret
  rw [HA.out,HN.out]
  exact perf_put HB.out hP
 case inr.inl =>
  have HS:=hid (register_any n₀ b m hm (hm.t1 (by omega)) (hm.d1 (by omega)) L _ hT1 (by omega))
  have HA:=hid (show L.act m=L.putT m.t ⟨m.x,m.y,m.b,m.d,1,0,m.v,m.v,0,0⟩ by simp [Led.act,e])
  have HN:=hid (show L.tell m=[] by simp [Led.tell,e])
  have b1:(((m.k:Nat):Int) == 1)=false:=bnf.2 (by omega)
  have b2:(((m.k:Nat):Int) == 2)=true:=beq_iff_eq.2 (by omega)
  unfold Cm.val at *
  clear e hC hT hT1 hok hm
  go_enter func71,ntmps71
  go_wp2_with (go_at_call 106;refine HS.out.mono ?_;clear HS;intro e w2 hP;have he:=hP.1;subst he)
  go_ret
  rw [HA.out,HN.out]
  exact perf_put HB.out hP
 case inr.inr.inl =>
  obtain ⟨q,hq⟩:=hC.k1 (by omega)
  have hqG:q.Good:=(hok.t1 _ ((Led.tube_mem hok).1 hq)).2.2
  have hqD:L.tubeD m.t=q:=by unfold Led.tubeD;rw [hq];rfl
  have hmb:=hm.b
  have hmx:=hm.x
  have hmy:=hm.y
  have HS:=hid (move_any n₀ b m hm (hm.t1 (by omega)) L _ hT1 (by omega) q hq ⟨by show m.x<5;omega,by show m.y<5;omega,by show m.b<=9;omega,hqG.donor,by show 1<=1/\1<=3;omega,hqG.thaws,hqG.began,hqG.left,hqG.used,hqG.lost⟩)
  have HA:=hid (show L.act m=L.putT m.t (q.stored m.b m.x m.y) by simp [Led.act,e,hqD])
  clear hqG hqD hq
  have HN:=hid (show L.tell m=[] by simp [Led.tell,e])
  have b1:(((m.k:Nat):Int) == 1)=false:=bnf.2 (by omega)
  have b2:(((m.k:Nat):Int) == 2)=false:=bnf.2 (by omega)
  have b3:(((m.k:Nat):Int) == 3)=true:=beq_iff_eq.2 (by omega)
  unfold Cm.val at *
  clear e hC hT hT1 hok hm
  go_enter func71,ntmps71
  go_wp2_with (go_at_call 107;refine HS.out.mono ?_;clear HS;intro e w2 hP;have he:=hP.1;subst he)
  go_ret
  rw [HA.out,HN.out]
  exact perf_put HB.out hP
 case inr.inr.inr.inl =>
  obtain ⟨ho,q,hq,hv,hp⟩:=hC.k4 e
  have hqD:L.tubeD m.t=q:=by unfold Led.tubeD;rw [hq];rfl
  have HS:=hid (aliquot_any n₀ b m hm ⟨hm.t1 (by omega),ho⟩ (hm.v1 (by omega)) L _ hT1 (by omega) q hq hv hp)
  have HA:=hid (show L.act m=(L.putT m.o ⟨m.x,m.y,m.b,q.donor,1,0,0,0,0,0⟩).pourL m by simp [Led.act,e,hqD])
  clear hqD hq
  have HN:=hid (show L.tell m=[] by simp [Led.tell,e])
  have b1:(((m.k:Nat):Int) == 1)=false:=bnf.2 (by omega)
  have b2:(((m.k:Nat):Int) == 2)=false:=bnf.2 (by omega)
  have b3:(((m.k:Nat):Int) == 3)=false:=bnf.2 (by omega)
  have b4:(((m.k:Nat):Int) == 4)=true:=beq_iff_eq.2 (by omega)
  unfold Cm.val at *
  clear e hC hT hT1 hok hm
  go_enter func71,ntmps71
  go_wp2_with (go_at_call 108;refine HS.out.mono ?_;clear HS;intro e w2 hP;have he:=hP.1;subst he)
  go_ret
  rw [HA.out,HN.out]
  exact perf_put HB.out hP
 case inr.inr.inr.inr.inl =>
  obtain ⟨ho,q,q2,hq,hq2,hv,hv2,hp⟩:=hC.k5 e
  have HS:=hid (pour_any n₀ b m hm ⟨hm.t1 (by omega),ho⟩ (hm.v1 (by omega)) L _ hT1 (by omega) q q2 hq hq2 hv hv2 hp)
  have HA:=hid (show L.act m=L.pourL m by simp [Led.act,e])
  clear hq hq2
  have HN:=hid (show L.tell m=[] by simp [Led.tell,e])
  have b1:(((m.k:Nat):Int) == 1)=false:=bnf.2 (by omega)
  have b2:(((m.k:Nat):Int) == 2)=false:=bnf.2 (by omega)
  have b3:(((m.k:Nat):Int) == 3)=false:=bnf.2 (by omega)
  have b4:(((m.k:Nat):Int) == 4)=false:=bnf.2 (by omega)
  have b5:(((m.k:Nat):Int) == 5)=true:=beq_iff_eq.2 (by omega)
  unfold Cm.val at *
  clear e hC hT hT1 hok hm
  go_enter func71,ntmps71
  go_wp2_with (go_at_call 109;refine HS.out.mono ?_;clear HS;intro e w2 hP;have he:=hP.1;subst he)
  go_ret
  rw [HA.out,HN.out]
  exact perf_put HB.out hP
 case inr.inr.inr.inr.inr.inl =>
  obtain ⟨q,hq,hv,hu⟩:=hC.k6 e
  have hqG:q.Good:=(hok.t1 _ ((Led.tube_mem hok).1 hq)).2.2
  have hqD:L.tubeD m.t=q:=by unfold Led.tubeD;rw [hq];rfl
  have HS:=hid (use_any n₀ b m hm (hm.t1 (by omega)) L _ hT1 (by omega) q hq hv ⟨hqG.x,hqG.y,hqG.box,hqG.donor,hqG.status,hqG.thaws,hqG.began,by have:=hqG.left;show q.left - m.v<=1000000;omega,hu,hqG.lost⟩)
  have HA:=hid (show L.act m=L.putT m.t (q.usedBy m.v) by simp [Led.act,e,hqD])
  clear hqG hqD hq
  have HN:=hid (show L.tell m=[] by simp [Led.tell,e])
  have b1:(((m.k:Nat):Int) == 1)=false:=bnf.2 (by omega)
  have b2:(((m.k:Nat):Int) == 2)=false:=bnf.2 (by omega)
  have b3:(((m.k:Nat):Int) == 3)=false:=bnf.2 (by omega)
  have b4:(((m.k:Nat):Int) == 4)=false:=bnf.2 (by omega)
  have b5:(((m.k:Nat):Int) == 5)=false:=bnf.2 (by omega)
  have b6:(((m.k:Nat):Int) == 6)=true:=beq_iff_eq.2 (by omega)
  unfold Cm.val at *
  clear e hC hT hT1 hok hm
  go_enter func71,ntmps71
  go_wp2_with (go_at_call 110;refine HS.out.mono ?_;clear HS;intro e w2 hP;have he:=hP.1;subst he)
  go_ret
  rw [HA.out,HN.out]
  exact perf_put HB.out hP
 case inr.inr.inr.inr.inr.inr.inl =>
  obtain ⟨q,hq⟩:=hC.k1 (by omega)
  have hqG:q.Good:=(hok.t1 _ ((Led.tube_mem hok).1 hq)).2.2
  have hqD:L.tubeD m.t=q:=by unfold Led.tubeD;rw [hq];rfl
  have HS:=hid (take_any n₀ b m hm (hm.t1 (by omega)) L _ hT1 (by omega) q hq ⟨by show (0:Nat)<5;omega,by show (0:Nat)<5;omega,by show (0:Nat)<=9;omega,hqG.donor,by show 1<=2/\2<=3;omega,hqG.thaws,hqG.began,hqG.left,hqG.used,hqG.lost⟩)
  have HA:=hid (show L.act m=L.putT m.t (q.gone 2) by simp [Led.act,e,hqD])
  clear hqG hqD hq
  have HN:=hid (show L.tell m=[] by simp [Led.tell,e])
  have b1:(((m.k:Nat):Int) == 1)=false:=bnf.2 (by omega)
  have b2:(((m.k:Nat):Int) == 2)=false:=bnf.2 (by omega)
  have b3:(((m.k:Nat):Int) == 3)=false:=bnf.2 (by omega)
  have b4:(((m.k:Nat):Int) == 4)=false:=bnf.2 (by omega)
  have b5:(((m.k:Nat):Int) == 5)=false:=bnf.2 (by omega)
  have b6:(((m.k:Nat):Int) == 6)=false:=bnf.2 (by omega)
  have b7:(((m.k:Nat):Int) == 7)=true:=beq_iff_eq.2 (by omega)
  unfold Cm.val at *
  clear e hC hT hT1 hok hm
  go_enter func71,ntmps71
  go_wp2_with (go_at_call 111;refine HS.out.mono ?_;clear HS;intro e w2 hP;have he:=hP.1;subst he)
  go_ret
  rw [HA.out,HN.out]
  exact perf_put HB.out hP
 case inr.inr.inr.inr.inr.inr.inr.inl =>
  obtain ⟨q,hq⟩:=hC.k1 (by omega)
  have hqG:q.Good:=(hok.t1 _ ((Led.tube_mem hok).1 hq)).2.2
  have hqD:L.tubeD m.t=q:=by unfold Led.tubeD;rw [hq];rfl
  have hmb:=hm.b
  have hmx:=hm.x
  have hmy:=hm.y
  have HS:=hid (give_any n₀ b m hm (hm.t1 (by omega)) L _ hT1 (by omega) q hq ⟨by show m.x<5;omega,by show m.y<5;omega,by show m.b<=9;omega,hqG.donor,by show 1<=1/\1<=3;omega,by show min (q.thaws+1) 9<=9;omega,hqG.began,hqG.left,hqG.used,hqG.lost⟩)
  have HA:=hid (show L.act m=L.putT m.t (q.backAt m.b m.x m.y) by simp [Led.act,e,hqD])
  clear hqG hqD hq
  have HN:=hid (show L.tell m=[] by simp [Led.tell,e])
  have b1:(((m.k:Nat):Int) == 1)=false:=bnf.2 (by omega)
  have b2:(((m.k:Nat):Int) == 2)=false:=bnf.2 (by omega)
  have b3:(((m.k:Nat):Int) == 3)=false:=bnf.2 (by omega)
  have b4:(((m.k:Nat):Int) == 4)=false:=bnf.2 (by omega)
  have b5:(((m.k:Nat):Int) == 5)=false:=bnf.2 (by omega)
  have b6:(((m.k:Nat):Int) == 6)=false:=bnf.2 (by omega)
  have b7:(((m.k:Nat):Int) == 7)=false:=bnf.2 (by omega)
  have b8:(((m.k:Nat):Int) == 8)=true:=beq_iff_eq.2 (by omega)
  unfold Cm.val at *
  clear e hC hT hT1 hok hm
  go_enter func71,ntmps71
  go_wp2_with (go_at_call 112;refine HS.out.mono ?_;clear HS;intro e w2 hP;have he:=hP.1;subst he)
  go_ret
  rw [HA.out,HN.out]
  exact perf_put HB.out hP
 case inr.inr.inr.inr.inr.inr.inr.inr.inl =>
  have HS:=hid (withdraw_led n₀ b m hm L _ hT1 hnb hf)
  have HA:=hid (show L.act m=L.chg PT.lostAll (L.hits m.d) by simp [Led.act,e])
  have HN:=hid (show L.tell m=[((L.hits m.d).length:Int)] by simp [Led.tell,e])
  have b1:(((m.k:Nat):Int) == 1)=false:=bnf.2 (by omega)
  have b2:(((m.k:Nat):Int) == 2)=false:=bnf.2 (by omega)
  have b3:(((m.k:Nat):Int) == 3)=false:=bnf.2 (by omega)
  have b4:(((m.k:Nat):Int) == 4)=false:=bnf.2 (by omega)
  have b5:(((m.k:Nat):Int) == 5)=false:=bnf.2 (by omega)
  have b6:(((m.k:Nat):Int) == 6)=false:=bnf.2 (by omega)
  have b7:(((m.k:Nat):Int) == 7)=false:=bnf.2 (by omega)
  have b8:(((m.k:Nat):Int) == 8)=false:=bnf.2 (by omega)
  have b9:(((m.k:Nat):Int) == 9)=true:=beq_iff_eq.2 (by omega)
  unfold Cm.val at *
  clear e hC hT hT1 hok hm
  go_enter func71,ntmps71
  go_wp2_with (go_at_call 113;refine HS.out.mono ?_;clear HS;rintro e w2 ⟨rfl,⟨n₁,hT2⟩,hk2⟩)
  go_ret
  rw [HA.out,HN.out]
  have hbC:Below w2.heap.size w2 (w2.alloc (.cells #[.int .i64 (L.hits m.d).length] 3)):=bal
  exact ⟨_,rfl,one_ints w2 _,⟨n₁,hT2.below hbC⟩,((below_toKeeps HB.out _).trans hk2).trans (below_toKeeps hbC _)⟩
 case inr.inr.inr.inr.inr.inr.inr.inr.inr.inl =>
  have HS:=hid (turn_any n₀ b m hm L _ hT1 hnb hf (hC.k10 (by omega)))
  have HA:=hid (show L.act m=L.chg (fun q:PT=>q.turnedBy (L.sideN m.b) m.n) (L.ts.filter (inBox m.b)) by simp [Led.act,e])
  have HN:=hid (show L.tell m=[] by simp [Led.tell,e])
  have b1:(((m.k:Nat):Int) == 1)=false:=bnf.2 (by omega)
  have b2:(((m.k:Nat):Int) == 2)=false:=bnf.2 (by omega)
  have b3:(((m.k:Nat):Int) == 3)=false:=bnf.2 (by omega)
  have b4:(((m.k:Nat):Int) == 4)=false:=bnf.2 (by omega)
  have b5:(((m.k:Nat):Int) == 5)=false:=bnf.2 (by omega)
  have b6:(((m.k:Nat):Int) == 6)=false:=bnf.2 (by omega)
  have b7:(((m.k:Nat):Int) == 7)=false:=bnf.2 (by omega)
  have b8:(((m.k:Nat):Int) == 8)=false:=bnf.2 (by omega)
  have b9:(((m.k:Nat):Int) == 9)=false:=bnf.2 (by omega)
  have b10:(((m.k:Nat):Int) == 10)=true:=beq_iff_eq.2 (by omega)
  unfold Cm.val at *
  clear e hC hT hT1 hok hm
  go_enter func71,ntmps71
  go_wp2_with (go_at_call 114;refine HS.out.mono ?_;clear HS;rintro e w2 ⟨rfl,⟨n₁,hT2⟩,hk2⟩)
  go_ret
  rw [HA.out,HN.out]
  exact perf_nil HB.out hT2 hk2
 case inr.inr.inr.inr.inr.inr.inr.inr.inr.inr.inl =>
  have HS:=hid (flip_any n₀ b m hm L _ hT1 hnb hf (hC.k10 (by omega)))
  have HA:=hid (show L.act m=L.chg (fun q:PT=>q.flippedIn (L.sideN m.b)) (L.ts.filter (inBox m.b)) by simp [Led.act,e])
  have HN:=hid (show L.tell m=[] by simp [Led.tell,e])
  have b1:(((m.k:Nat):Int) == 1)=false:=bnf.2 (by omega)
  have b2:(((m.k:Nat):Int) == 2)=false:=bnf.2 (by omega)
  have b3:(((m.k:Nat):Int) == 3)=false:=bnf.2 (by omega)
  have b4:(((m.k:Nat):Int) == 4)=false:=bnf.2 (by omega)
  have b5:(((m.k:Nat):Int) == 5)=false:=bnf.2 (by omega)
  have b6:(((m.k:Nat):Int) == 6)=false:=bnf.2 (by omega)
  have b7:(((m.k:Nat):Int) == 7)=false:=bnf.2 (by omega)
  have b8:(((m.k:Nat):Int) == 8)=false:=bnf.2 (by omega)
  have b9:(((m.k:Nat):Int) == 9)=false:=bnf.2 (by omega)
  have b10:(((m.k:Nat):Int) == 10)=false:=bnf.2 (by omega)
  have b11:(((m.k:Nat):Int) == 11)=true:=beq_iff_eq.2 (by omega)
  unfold Cm.val at *
  clear e hC hT hT1 hok hm
  go_enter func71,ntmps71
  go_wp2_with (go_at_call 115;refine HS.out.mono ?_;clear HS;rintro e w2 ⟨rfl,⟨n₁,hT2⟩,hk2⟩)
  go_ret
  rw [HA.out,HN.out]
  exact perf_nil HB.out hT2 hk2
 case inr.inr.inr.inr.inr.inr.inr.inr.inr.inr.inr.inl =>
  have HS:=hid (show_any n₀ b m hm L _ hT1)
  have HA:=hid (show L.act m=L by simp [Led.act,e])
  have HN:=hid (show L.tell m=showQ (L.tubeD m.t) by simp [Led.tell,e])
  have HT:=hid hT
  have b1:(((m.k:Nat):Int) == 1)=false:=bnf.2 (by omega)
  have b2:(((m.k:Nat):Int) == 2)=false:=bnf.2 (by omega)
  have b3:(((m.k:Nat):Int) == 3)=false:=bnf.2 (by omega)
  have b4:(((m.k:Nat):Int) == 4)=false:=bnf.2 (by omega)
  have b5:(((m.k:Nat):Int) == 5)=false:=bnf.2 (by omega)
  have b6:(((m.k:Nat):Int) == 6)=false:=bnf.2 (by omega)
  have b7:(((m.k:Nat):Int) == 7)=false:=bnf.2 (by omega)
  have b8:(((m.k:Nat):Int) == 8)=false:=bnf.2 (by omega)
  have b9:(((m.k:Nat):Int) == 9)=false:=bnf.2 (by omega)
  have b10:(((m.k:Nat):Int) == 10)=false:=bnf.2 (by omega)
  have b11:(((m.k:Nat):Int) == 11)=false:=bnf.2 (by omega)
  have b12:(((m.k:Nat):Int) == 12)=true:=beq_iff_eq.2 (by omega)
  unfold Cm.val at *
  clear e hC hT hT1 hok hm
  go_enter func71,ntmps71
  go_wp2_with (go_at_call 116;refine HS.out.mono ?_;clear HS;rintro e w2 ⟨v,rfl,hi2,hb2⟩)
  go_ret
  rw [HA.out,HN.out]
  exact perf_tell HB.out HT.out hi2 hb2
 case inr.inr.inr.inr.inr.inr.inr.inr.inr.inr.inr.inr.inl =>
  have HS:=hid (content_any n₀ b m L _ hT1)
  have HA:=hid (show L.act m=L by simp [Led.act,e])
  have HN:=hid (show L.tell m=Led.contQ (L.ts.filter (inBox m.b)) by simp [Led.tell,e])
  have HT:=hid hT
  have b1:(((m.k:Nat):Int) == 1)=false:=bnf.2 (by omega)
  have b2:(((m.k:Nat):Int) == 2)=false:=bnf.2 (by omega)
  have b3:(((m.k:Nat):Int) == 3)=false:=bnf.2 (by omega)
  have b4:(((m.k:Nat):Int) == 4)=false:=bnf.2 (by omega)
  have b5:(((m.k:Nat):Int) == 5)=false:=bnf.2 (by omega)
  have b6:(((m.k:Nat):Int) == 6)=false:=bnf.2 (by omega)
  have b7:(((m.k:Nat):Int) == 7)=false:=bnf.2 (by omega)
  have b8:(((m.k:Nat):Int) == 8)=false:=bnf.2 (by omega)
  have b9:(((m.k:Nat):Int) == 9)=false:=bnf.2 (by omega)
  have b10:(((m.k:Nat):Int) == 10)=false:=bnf.2 (by omega)
  have b11:(((m.k:Nat):Int) == 11)=false:=bnf.2 (by omega)
  have b12:(((m.k:Nat):Int) == 12)=false:=bnf.2 (by omega)
  have b13:(((m.k:Nat):Int) == 13)=true:=beq_iff_eq.2 (by omega)
  unfold Cm.val at *
  clear e hC hT hT1 hok hm
  go_enter func71,ntmps71
  go_wp2_with (go_at_call 117;refine HS.out.mono ?_;clear HS;rintro e w2 ⟨v,rfl,hi2,hb2⟩)
  go_ret
  rw [HA.out,HN.out]
  exact perf_tell HB.out HT.out hi2 hb2
 case inr.inr.inr.inr.inr.inr.inr.inr.inr.inr.inr.inr.inr.inl =>
  have HS:=hid (ofD_any n₀ b m.d L.kvs L.ts hT1.toks (Led.sel_ts hok) (by have:=hT.fewT;omega) _ hT1.tx)
  have HA:=hid (show L.act m=L by simp [Led.act,e])
  have HN:=hid (show L.tell m=ofN m.d L.ts by simp [Led.tell,e])
  have HT:=hid hT
  have b1:(((m.k:Nat):Int) == 1)=false:=bnf.2 (by omega)
  have b2:(((m.k:Nat):Int) == 2)=false:=bnf.2 (by omega)
  have b3:(((m.k:Nat):Int) == 3)=false:=bnf.2 (by omega)
  have b4:(((m.k:Nat):Int) == 4)=false:=bnf.2 (by omega)
  have b5:(((m.k:Nat):Int) == 5)=false:=bnf.2 (by omega)
  have b6:(((m.k:Nat):Int) == 6)=false:=bnf.2 (by omega)
  have b7:(((m.k:Nat):Int) == 7)=false:=bnf.2 (by omega)
  have b8:(((m.k:Nat):Int) == 8)=false:=bnf.2 (by omega)
  have b9:(((m.k:Nat):Int) == 9)=false:=bnf.2 (by omega)
  have b10:(((m.k:Nat):Int) == 10)=false:=bnf.2 (by omega)
  have b11:(((m.k:Nat):Int) == 11)=false:=bnf.2 (by omega)
  have b12:(((m.k:Nat):Int) == 12)=false:=bnf.2 (by omega)
  have b13:(((m.k:Nat):Int) == 13)=false:=bnf.2 (by omega)
  have b14:(((m.k:Nat):Int) == 14)=true:=beq_iff_eq.2 (by omega)
  unfold Cm.val at *
  clear e hC hT hT1 hok hm
  go_enter func71,ntmps71
  go_wp2_with (go_at_call 118;refine HS.out.mono ?_;clear HS;rintro e w2 ⟨v,rfl,hrow,hb2⟩)
  go_ret
  rw [HA.out,HN.out]
  exact perf_tell HB.out HT.out (own_intsIn hrow rfl) hb2
 case inr.inr.inr.inr.inr.inr.inr.inr.inr.inr.inr.inr.inr.inr.inl =>
  have hsz:(w.alloc (.cells #[.int .i64 m.k,.int .i64 m.t,.int .i64 m.o,.int .i64 m.d,.int .i64 m.v,.int .i64 m.b,.int .i64 m.x,.int .i64 m.y,.int .i64 m.n] 31)).heap.size=w.heap.size+1:=by simp
  have HS:=hid (kin_any m.t 120 #[.pointer (some ⟨b,0,none⟩)] (fun S=>upS S L.ps) _ (by have:=hm.t;omega) (enters_of func120 (by kernel_rfl) rfl) (fun u hu g S hG hg=>addAbove_any n₀ b g S L.kvs L.ps hT.poks (by have:=hT.fewP;omega) (Led.sel_ps hok) u (hT1.below' hu).tx hG (by omega)))
  clear hsz
  have HA:=hid (show L.act m=L by simp [Led.act,e])
  have HN:=hid (show L.tell m=natsI (memG (kinS (upS (single m.t) L.ps) m.t)) by simp [Led.tell,e])
  have HT:=hid hT
  have b1:(((m.k:Nat):Int) == 1)=false:=bnf.2 (by omega)
  have b2:(((m.k:Nat):Int) == 2)=false:=bnf.2 (by omega)
  have b3:(((m.k:Nat):Int) == 3)=false:=bnf.2 (by omega)
  have b4:(((m.k:Nat):Int) == 4)=false:=bnf.2 (by omega)
  have b5:(((m.k:Nat):Int) == 5)=false:=bnf.2 (by omega)
  have b6:(((m.k:Nat):Int) == 6)=false:=bnf.2 (by omega)
  have b7:(((m.k:Nat):Int) == 7)=false:=bnf.2 (by omega)
  have b8:(((m.k:Nat):Int) == 8)=false:=bnf.2 (by omega)
  have b9:(((m.k:Nat):Int) == 9)=false:=bnf.2 (by omega)
  have b10:(((m.k:Nat):Int) == 10)=false:=bnf.2 (by omega)
  have b11:(((m.k:Nat):Int) == 11)=false:=bnf.2 (by omega)
  have b12:(((m.k:Nat):Int) == 12)=false:=bnf.2 (by omega)
  have b13:(((m.k:Nat):Int) == 13)=false:=bnf.2 (by omega)
  have b14:(((m.k:Nat):Int) == 14)=false:=bnf.2 (by omega)
  have b15:(((m.k:Nat):Int) == 15)=true:=beq_iff_eq.2 (by omega)
  unfold Cm.val at *
  clear e hC hT hT1 hok hm
  go_enter func71,ntmps71
  go_wp2_with (go_at_call 119;refine HS.out.mono ?_;clear HS;rintro e w2 ⟨v,rfl,hrow,hb2⟩)
  go_ret
  rw [HA.out,HN.out]
  exact perf_tell HB.out HT.out (own_intsIn hrow (by simp [natsI])) hb2
 case inr.inr.inr.inr.inr.inr.inr.inr.inr.inr.inr.inr.inr.inr.inr =>
  have hsz:(w.alloc (.cells #[.int .i64 m.k,.int .i64 m.t,.int .i64 m.o,.int .i64 m.d,.int .i64 m.v,.int .i64 m.b,.int .i64 m.x,.int .i64 m.y,.int .i64 m.n] 31)).heap.size=w.heap.size+1:=by simp
  have HS:=hid (kin_any m.t 121 #[.pointer (some ⟨b,0,none⟩)] (fun S=>downS S L.ps) _ (by have:=hm.t;omega) (enters_of func121 (by kernel_rfl) rfl) (fun u hu g S hG hg=>addBelow_any n₀ b g S L.kvs L.ps hT.poks (Led.sel_ps hok) u (hT1.below' hu).tx hG (by omega)))
  clear hsz
  have HA:=hid (show L.act m=L by simp [Led.act,e])
  have HN:=hid (show L.tell m=natsI (memG (kinS (downS (single m.t) L.ps) m.t)) by simp [Led.tell,e])
  have HT:=hid hT
  have b1:(((m.k:Nat):Int) == 1)=false:=bnf.2 (by omega)
  have b2:(((m.k:Nat):Int) == 2)=false:=bnf.2 (by omega)
  have b3:(((m.k:Nat):Int) == 3)=false:=bnf.2 (by omega)
  have b4:(((m.k:Nat):Int) == 4)=false:=bnf.2 (by omega)
  have b5:(((m.k:Nat):Int) == 5)=false:=bnf.2 (by omega)
  have b6:(((m.k:Nat):Int) == 6)=false:=bnf.2 (by omega)
  have b7:(((m.k:Nat):Int) == 7)=false:=bnf.2 (by omega)
  have b8:(((m.k:Nat):Int) == 8)=false:=bnf.2 (by omega)
  have b9:(((m.k:Nat):Int) == 9)=false:=bnf.2 (by omega)
  have b10:(((m.k:Nat):Int) == 10)=false:=bnf.2 (by omega)
  have b11:(((m.k:Nat):Int) == 11)=false:=bnf.2 (by omega)
  have b12:(((m.k:Nat):Int) == 12)=false:=bnf.2 (by omega)
  have b13:(((m.k:Nat):Int) == 13)=false:=bnf.2 (by omega)
  have b14:(((m.k:Nat):Int) == 14)=false:=bnf.2 (by omega)
  have b15:(((m.k:Nat):Int) == 15)=false:=bnf.2 (by omega)
  have b16:(((m.k:Nat):Int) == 16)=true:=beq_iff_eq.2 (by omega)
  unfold Cm.val at *
  clear e hC hT hT1 hok hm
  go_enter func71,ntmps71
  go_wp2_with (go_at_call 119;refine HS.out.mono ?_;clear HS;rintro e w2 ⟨v,rfl,hrow,hb2⟩)
  go_ret
  rw [HA.out,HN.out]
  exact perf_tell HB.out HT.out (own_intsIn hrow (by simp [natsI])) hb2
end
end
section
open Go.RowKit Go.Shelf
theorem askI_range {r e:Int} {h:Bool} (hr:0<=r/\r<=10) (he:0<e/\e<=10):0<=askI r e h/\askI r e h<=10:=by unfold askI;split <;> omega
theorem askAll_range:∀ (l:Asks) (r:Int),0<=r/\r<=10->(∀ p∈l,0<p.1/\p.1<=10)->0<=askAll r l/\askAll r l<=10
 | [],_,hr,_=>hr
 | p::l,_,hr,h=>askAll_range l _ (askI_range hr (h p (List.mem_cons_self ..))) (fun q hq=>h q (List.mem_cons_of_mem _ hq))
theorem askI_pos {r e:Int} {h:Bool} (hr:0<r) (he:0<e):0<askI r e h:=by unfold askI;split <;> omega
theorem askAll_pos:∀ (l:Asks) (r:Int),0<r->(∀ p∈l,0<p.1)->0<askAll r l
 | [],_,hr,_=>hr
 | p::l,_,hr,h=>askAll_pos l _ (askI_pos hr (h p (List.mem_cons_self ..))) (fun q hq=>h q (List.mem_cons_of_mem _ hq))
theorem askAll_zero:∀ (l:Asks),(∀ p∈l,0<p.1)->askAll 0 l=0->∀ p∈l,p.2=false
 | [],_,_,_,hp=>by cases hp
 | q::l,h,e,p,hp=>by
  have hq:=h q (List.mem_cons_self ..)
  have hl:∀ p∈l,0<p.1:=fun p hp=>h p (List.mem_cons_of_mem _ hp)
  cases hb:q.2 with
  | true =>
   have:askAll 0 (q::l)=askAll (askI 0 q.1 q.2) l:=rfl
   rw [this,hb] at e
   have h1:askI 0 q.1 true=q.1:=by simp [askI]
   rw [h1] at e
   have:=askAll_pos l q.1 hq hl
   omega
  | false =>
   have:askAll 0 (q::l)=askAll (askI 0 q.1 q.2) l:=rfl
   rw [this,hb] at e
   have h1:askI 0 q.1 false=0:=by simp [askI]
   rw [h1] at e
   rcases List.mem_cons.1 hp with rfl | hp
   ·exact hb
   ·exact askAll_zero l hl e p hp
namespace Led
variable {L:Led} {m:Cm}
theorem asks_pos (L:Led) (m:Cm):∀ p∈L.asksT m++L.asksO m++L.asksD m++L.asksB m,0<p.1/\p.1<=10:=by
 intro p hp
 simp only [List.mem_append] at hp
 rcases hp with ((hp | hp) | hp) | hp
 ·unfold asksT at hp
  split at hp
  ·simp at hp;rcases hp with rfl | rfl | rfl | rfl <;> simp
  split at hp
  ·simp at hp;rcases hp with rfl | rfl <;> simp
  split at hp
  ·simp at hp;rcases hp with rfl <;> simp
  split at hp
  ·simp at hp;rcases hp with rfl | rfl | rfl <;> simp
  split at hp
  ·simp at hp;rcases hp with rfl | rfl <;> simp
  split at hp
  ·simp at hp;rcases hp with rfl <;> simp
  ·simp at hp
 ·unfold asksO at hp
  split at hp
  ·simp at hp;rcases hp with rfl <;> simp
  split at hp
  ·simp at hp;rcases hp with rfl | rfl | rfl | rfl <;> simp
  ·simp at hp
 ·unfold asksD at hp
  split at hp
  ·simp at hp;rcases hp with rfl <;> simp
  ·simp at hp
 ·unfold asksB at hp
  split at hp
  ·simp at hp;rcases hp with rfl | rfl <;> simp
  split at hp
  ·simp at hp;rcases hp with rfl <;> simp
  split at hp
  ·simp at hp;rcases hp with rfl <;> simp
  ·simp at hp
theorem err_range (L:Led) (m:Cm):0<=L.err m/\L.err m<=10:=askAll_range _ 0 (by omega) (asks_pos L m)
theorem err_zero (h:L.err m=0):(∀ p∈L.asksT m,p.2=false)/\(∀ p∈L.asksO m,p.2=false)/\(∀ p∈L.asksD m,p.2=false)/\(∀ p∈L.asksB m,p.2=false):=by
 have h1:=askAll_zero _ (fun p hp=>(asks_pos L m p hp).1) h
 exact ⟨fun p hp=>h1 p (by simp [hp]),fun p hp=>h1 p (by simp [hp]),fun p hp=>h1 p (by simp [hp]),fun p hp=>h1 p (by simp [hp])⟩
structure Inv (L:Led):Prop where
 ok:L.Ok
 box:∀ t∈L.ts,(t.2.box≠0↔t.2.status=1)
 nil:∀ t∈L.ts,t.2.box=0->t.2.x=0/\t.2.y=0
 place:∀ t∈L.ts,t.2.box≠0->t.2.x<L.sideN t.2.box/\t.2.y<L.sideN t.2.box
 apart:∀ t∈L.ts,∀ u∈L.ts,t.2.box≠0->t.2.box=u.2.box->t.2.x=u.2.x->t.2.y=u.2.y->t.1=u.1
 wired:∀ p∈L.ps,(L.tube p.1).isSome=true/\(L.tube p.2.1).isSome=true
 lost:∀ t∈L.ts,t.2.status≠3->t.2.lost=0
theorem none_pour (h:L.Inv) {a b:Nat} (hb:L.tube b=none):L.pour a b=none:=by
 cases e:L.pour a b with
 | none=>rfl
 | some v =>
  have:=(h.wired _ ((pour_mem h.ok).1 e)).2
  simp only [hb] at this;cases this
theorem tube_of {n:Nat} (h:(L.tube n).isSome=true):∃ q,L.tube n=some q/\L.tubeD n=q:=by
 obtain ⟨q,hq⟩:=Option.isSome_iff_exists.1 h
 exact ⟨q,hq,by unfold tubeD;rw [hq];rfl⟩
theorem no4 (h:L.err m=0) (hk:m.k=4):m.t<m.o/\m.v<=(L.tubeD m.t).left/\(L.tubeD m.t).status=1/\(L.tube m.t).isSome=true/\(L.tube m.o).isSome=false:=by
 obtain ⟨h1,h2,_,_⟩:=err_zero h
 unfold asksT at h1;rw [if_pos (by omega)] at h1
 unfold asksO at h2;rw [if_pos hk] at h2
 have a:=h1 _ (.head _)
 have b:=h1 _ (.tail _ (.head _))
 have c:=h1 _ (.tail _ (.tail _ (.head _)))
 have d:=h1 _ (.tail _ (.tail _ (.tail _ (.head _))))
 have e:=h2 _ (.head _)
 simp only [decide_eq_false_iff_not,bne_eq_false_iff_eq,Bool.not_eq_eq_eq_not,Bool.not_false] at a b c d e
 exact ⟨by omega,by omega,by omega,d,e⟩
theorem no5 (h:L.err m=0) (hk:m.k=5):m.t<m.o/\m.v<=(L.tubeD m.t).left/\(L.tubeD m.t).status=1/\(L.tube m.t).isSome=true/\(L.tube m.o).isSome=true/\(L.tubeD m.o).left+m.v<=1000000/\L.pouredN m.t m.o+m.v<=1000000/\(L.tubeD m.o).status=1:=by
 obtain ⟨h1,h2,_,_⟩:=err_zero h
 unfold asksT at h1;rw [if_pos (by omega)] at h1
 unfold asksO at h2;rw [if_neg (by omega),if_pos hk] at h2
 have a:=h1 _ (.head _)
 have b:=h1 _ (.tail _ (.head _))
 have c:=h1 _ (.tail _ (.tail _ (.head _)))
 have d:=h1 _ (.tail _ (.tail _ (.tail _ (.head _))))
 have e:=h2 _ (.head _)
 have f:=h2 _ (.tail _ (.head _))
 have g:=h2 _ (.tail _ (.tail _ (.head _)))
 have i:=h2 _ (.tail _ (.tail _ (.tail _ (.head _))))
 simp only [decide_eq_false_iff_not,bne_eq_false_iff_eq,Bool.not_eq_eq_eq_not,Bool.not_false] at a b c d e f g i
 exact ⟨by omega,by omega,by omega,d,i,by omega,by omega,by omega⟩
theorem no6 (h:L.err m=0) (hk:m.k=6):m.v<=(L.tubeD m.t).left/\(L.tubeD m.t).used+m.v<=1000000/\(L.tubeD m.t).status≠3/\(L.tube m.t).isSome=true:=by
 obtain ⟨h1,_,_,_⟩:=err_zero h
 unfold asksT at h1;rw [if_neg (by omega),if_neg (by omega),if_neg (by omega),if_pos hk] at h1
 have b:=h1 _ (.head _)
 have c:=h1 _ (.tail _ (.head _))
 have d:=h1 _ (.tail _ (.tail _ (.head _)))
 simp only [Bool.or_eq_false_iff,decide_eq_false_iff_not,beq_eq_false_iff_ne,Bool.not_eq_eq_eq_not,Bool.not_false] at b c d
 exact ⟨by omega,by omega,by omega,d⟩
theorem no37 (h:L.err m=0) (hk:m.k=3\/m.k=7):(L.tubeD m.t).status=1/\(L.tube m.t).isSome=true:=by
 obtain ⟨h1,_,_,_⟩:=err_zero h
 unfold asksT at h1;rw [if_neg (by omega),if_pos hk] at h1
 have c:=h1 _ (.head _)
 have d:=h1 _ (.tail _ (.head _))
 simp only [bne_eq_false_iff_eq,Bool.not_eq_eq_eq_not,Bool.not_false] at c d
 exact ⟨by omega,d⟩
theorem no8 (h:L.err m=0) (hk:m.k=8):(L.tubeD m.t).status=2/\(L.tube m.t).isSome=true:=by
 obtain ⟨h1,_,_,_⟩:=err_zero h
 unfold asksT at h1;rw [if_neg (by omega),if_neg (by omega),if_neg (by omega),if_neg (by omega),if_pos hk] at h1
 have c:=h1 _ (.head _)
 have d:=h1 _ (.tail _ (.head _))
 simp only [bne_eq_false_iff_eq,Bool.not_eq_eq_eq_not,Bool.not_false] at c d
 exact ⟨by omega,d⟩
theorem no2 (h:L.err m=0) (hk:m.k=2):(L.tube m.t).isSome=false:=by
 obtain ⟨h1,_,_,_⟩:=err_zero h
 unfold asksT at h1;rw [if_neg (by omega),if_neg (by omega),if_neg (by omega),if_neg (by omega),if_neg (by omega),if_pos hk] at h1
 exact h1 _ (.head _)
theorem noShow (h:L.err m=0) (hk:m.k=12\/m.k=15\/m.k=16):(L.tube m.t).isSome=true:=by
 obtain ⟨h1,_,_,_⟩:=err_zero h
 unfold asksT at h1;rw [if_neg (by omega),if_neg (by omega),if_pos hk] at h1
 have d:=h1 _ (.head _)
 simpa using d
theorem noB (h:L.err m=0) (hk:m.k=2\/m.k=3\/m.k=4\/m.k=8):m.x<L.sideN m.b/\m.y<L.sideN m.b/\(L.occ m=0\/(m.k=3/\L.occ m=m.t)):=by
 obtain ⟨_,_,_,h1⟩:=err_zero h
 unfold asksB at h1;rw [if_pos hk] at h1
 have a:=h1 _ (.head _)
 simp only [Bool.or_eq_false_iff,Bool.not_eq_eq_eq_not,Bool.not_false,Bool.and_eq_true,decide_eq_true_eq,Bool.and_eq_false_iff,bne_eq_false_iff_eq,beq_iff_eq] at a
 obtain ⟨⟨a1,a2⟩,a3⟩:=a
 refine ⟨by omega,by omega,?_⟩
 rcases a3 with a3 | a3
 ·exact .inl (by omega)
 ·exact .inr (by omega)
theorem can_of (hI:L.Inv) (hm:m.Ok) (h:L.err m=0):L.Can m:=by
 refine ⟨fun hk => ?_,fun hk => ?_,fun hk => ?_,fun hk => ?_,fun hk t ht => ?_⟩
 ·have:(L.tube m.t).isSome=true:=by
   rcases hk with hk | hk | hk
   ·exact (no37 h (.inl hk)).2
   ·exact (no37 h (.inr hk)).2
   ·exact (no8 h hk).2
  obtain ⟨q,hq,_⟩:=tube_of this
  exact ⟨q,hq⟩
 ·obtain ⟨h1,h2,h3,h4,h5⟩:=no4 h hk
  obtain ⟨q,hq,hD⟩:=tube_of h4
  refine ⟨h1,q,hq,by rw [<- hD];exact h2,?_⟩
  have hn:L.tube m.o=none:=by simpa using h5
  unfold pouredN;rw [none_pour hI hn];have:=hm.v;simp only [Option.getD_none];omega
 ·obtain ⟨h1,h2,h3,h4,h5,h6,h7,h8⟩:=no5 h hk
  obtain ⟨q,hq,hD⟩:=tube_of h4
  obtain ⟨q2,hq2,hD2⟩:=tube_of h5
  exact ⟨h1,q,q2,hq,hq2,by rw [<- hD];exact h2,by rw [<- hD2];exact h6,h7⟩
 ·obtain ⟨h1,h2,h3,h4⟩:=no6 h hk
  obtain ⟨q,hq,hD⟩:=tube_of h4
  exact ⟨q,hq,by rw [<- hD];exact h1,by rw [<- hD];exact h2⟩
 ·obtain ⟨h1,h2⟩:=List.mem_filter.1 ht
  have hb:t.2.box=m.b:=by simp only [inBox,decide_eq_true_eq] at h2;omega
  have hm1:=hm.b1 (by omega)
  have:=hI.place t h1 (by omega)
  rw [hb] at this;exact this
end Led
end
section
open Go.RowKit Go.Shelf
theorem eq_of_pw {α:Type} {key:α->Nat}:∀ {l k:List α},l.Pairwise (fun a b=>key a<key b)->k.Pairwise (fun a b=>key a<key b)->(∀ x,x∈l↔x∈k)->l=k
 | [],[],_,_,_=>rfl
 | [],b::k,_,_,h=>by have:=(h b).2 (List.mem_cons_self ..);cases this
 | a::l,[],_,_,h=>by have:=(h a).1 (List.mem_cons_self ..);cases this
 | a::l,b::k,hl,hk,h=>by
  obtain ⟨hl1,hl2⟩:=List.pairwise_cons.1 hl
  obtain ⟨hk1,hk2⟩:=List.pairwise_cons.1 hk
  have hab:a=b:=by
   rcases List.mem_cons.1 ((h a).1 (List.mem_cons_self ..)) with e | ha
   ·exact e
   ·rcases List.mem_cons.1 ((h b).2 (List.mem_cons_self ..)) with e | hb
    ·exact e.symm
    ·have:=hk1 a ha;have:=hl1 b hb;omega
  subst hab
  congr 1
  refine eq_of_pw hl2 hk2 fun x => ?_
  constructor
  ·intro hx
   rcases List.mem_cons.1 ((h x).1 (List.mem_cons_of_mem _ hx)) with e | hx'
   ·have:=hl1 x hx;rw [e] at this;omega
   ·exact hx'
  ·intro hx
   rcases List.mem_cons.1 ((h x).2 (List.mem_cons_of_mem _ hx)) with e | hx'
   ·have:=hk1 x hx;rw [e] at this;omega
   ·exact hx'
namespace Led
variable {L:Led}
theorem mem_putT {n:Nat} {q:PT} {x:TN}:x∈(L.putT n q).ts↔x=(n,q)\/(x∈L.ts/\x.1≠n):=mem_insT
theorem mem_chg (f:PT->PT):∀ (pre:List TN) (L:Led),pre.Pairwise (fun a b:TN=>a.1<b.1)->∀ x,x∈(L.chg f pre).ts↔(∃ t∈pre,x=(t.1,f t.2))\/(x∈L.ts/\∀ t∈pre,t.1≠x.1)
 | [],L,_,x=>by simp [chg]
 | a::pre,L,h,x=>by
  obtain ⟨h1,h2⟩:=List.pairwise_cons.1 h
  rw [chg_cons,mem_chg f pre _ h2 x,mem_putT]
  constructor
  ·rintro (⟨t,ht,rfl⟩ | ⟨rfl | ⟨hx,hne⟩,hn⟩)
   ·exact .inl ⟨t,List.mem_cons_of_mem _ ht,rfl⟩
   ·exact .inl ⟨a,List.mem_cons_self ..,rfl⟩
   ·refine .inr ⟨hx,fun t ht => ?_⟩
    rcases List.mem_cons.1 ht with rfl | ht
    ·exact fun e=>hne e.symm
    ·exact hn t ht
  ·rintro (⟨t,ht,rfl⟩ | ⟨hx,hn⟩)
   ·rcases List.mem_cons.1 ht with rfl | ht
    ·exact .inr ⟨.inl rfl,fun u hu=>by have:=h1 u hu;simp only;omega⟩
    ·exact .inl ⟨t,ht,rfl⟩
   ·exact .inr ⟨.inr ⟨hx,fun e=>hn a (List.mem_cons_self ..) e.symm⟩,fun t ht=>hn t (List.mem_cons_of_mem _ ht)⟩
theorem chg_bs (f:PT->PT):∀ (pre:List TN) (L:Led),(L.chg f pre).bs=L.bs/\(L.chg f pre).ps=L.ps
 | [],_=>⟨rfl,rfl⟩
 | a::pre,L=>by rw [chg_cons];exact chg_bs f pre (L.putT a.1 (f a.2))
def mapT (L:Led) (p:TN->Bool) (f:PT->PT):Led:={ L with ts:=L.ts.map fun t=>if p t then (t.1,f t.2) else t }
theorem mapT_num (p:TN->Bool) (f:PT->PT) (t:TN):(if p t then (t.1,f t.2) else t).1=t.1:=by split <;> rfl
theorem chg_map (h:L.Ok) (p:TN->Bool) (f:PT->PT) (hg:∀ t∈L.ts,p t=true->(f t.2).Good):L.chg f (L.ts.filter p)=L.mapT p f:=by
 have hS:=Sel.filter h p
 have hok:=chg_ok f (L.ts.filter p) L h (fun t ht=>⟨(h.t1 t (hS.mem t ht)).1,(h.t1 t (hS.mem t ht)).2.1,hg t (hS.mem t ht) (List.mem_filter.1 ht).2⟩)
 have hb:=chg_bs f (L.ts.filter p) L
 have hts:(L.chg f (L.ts.filter p)).ts=L.ts.map fun t=>if p t then (t.1,f t.2) else t:=by
  refine eq_of_pw (key:=fun t:TN=>t.1) hok.ts ?_ (fun x => ?_)
  ·refine List.pairwise_map.2 (h.ts.imp fun {a b} hab => ?_)
   rw [mapT_num,mapT_num];exact hab
  ·rw [mem_chg f _ L hS.pw x]
   constructor
   ·rintro (⟨t,ht,rfl⟩ | ⟨hx,hn⟩)
    ·obtain ⟨ht1,ht2⟩:=List.mem_filter.1 ht
     exact List.mem_map.2 ⟨t,ht1,by rw [if_pos ht2]⟩
    ·refine List.mem_map.2 ⟨x,hx,?_⟩
     rw [if_neg (fun hp=>hn x (List.mem_filter.2 ⟨hx,hp⟩) rfl)]
   ·intro hx
    obtain ⟨t,ht,rfl⟩:=List.mem_map.1 hx
    by_cases hp:p t=true
    ·rw [if_pos hp];exact .inl ⟨t,List.mem_filter.2 ⟨ht,hp⟩,rfl⟩
    ·rw [if_neg hp]
     refine .inr ⟨ht,fun u hu e=>hp ?_⟩
     obtain ⟨hu1,hu2⟩:=List.mem_filter.1 hu
     rw [<- pw_uniq (f:=Prod.fst) (fun a b (hab:a.1<b.1) e=>by omega) h.ts u hu1 t ht e];exact hu2
 unfold mapT
 rw [<- hts,<- hb.1,<- hb.2]
theorem mapT_tube (p:TN->Bool) (f:PT->PT) (n:Nat):((L.mapT p f).tube n).isSome=(L.tube n).isSome:=by
 have key:∀ l:List TN,((l.map fun t=>if p t then (t.1,f t.2) else t).filter fun t=>decide (t.1=n)).head?.isSome=(l.filter fun t=>decide (t.1=n)).head?.isSome:=by
  intro l
  induction l with
  | nil=>rfl
  | cons a l ih =>
   simp only [List.map_cons,List.filter_cons,mapT_num]
   split
   ·rfl
   ·exact ih
 have:=key L.ts
 unfold tube mapT
 simpa using this
theorem inv_map (hI:L.Inv) (p:TN->Bool) (f:PT->PT) (hg:∀ t∈L.ts,p t=true->(f t.2).Good)
  (hbox:∀ t∈L.ts,p t=true->((f t.2).box≠0↔(f t.2).status=1)) (hnil:∀ t∈L.ts,p t=true->(f t.2).box=0->(f t.2).x=0/\(f t.2).y=0)
  (hpl:∀ t∈L.ts,p t=true->(f t.2).box≠0->(f t.2).x<L.sideN (f t.2).box/\(f t.2).y<L.sideN (f t.2).box)
  (hap:∀ t∈L.ts,∀ u∈L.ts,p t=true->(f t.2).box≠0->(p u=true->(f t.2).box=(f u.2).box->(f t.2).x=(f u.2).x->(f t.2).y=(f u.2).y->t.1=u.1)/\(p u=false->(f t.2).box=u.2.box->(f t.2).x=u.2.x->(f t.2).y=u.2.y->t.1=u.1))
  (hlost:∀ t∈L.ts,p t=true->(f t.2).status≠3->(f t.2).lost=0):(L.mapT p f).Inv:=by
 have hmem:∀ x∈(L.mapT p f).ts,∃ t∈L.ts,(p t=true/\x=(t.1,f t.2))\/(p t=false/\x=t):=fun x hx=>by
  obtain ⟨t,ht,rfl⟩:=List.mem_map.1 hx
  refine ⟨t,ht,?_⟩
  cases hp:p t with
  | true=>exact .inl ⟨rfl,by simp⟩
  | false=>exact .inr ⟨rfl,by simp⟩
 have hside:∀ n,(L.mapT p f).sideN n=L.sideN n:=fun n=>rfl
 refine ⟨?_,fun x hx => ?_,fun x hx => ?_,fun x hx => ?_,fun x hx y hy => ?_,fun q hq => ?_,fun x hx => ?_⟩
 ·rw [<- chg_map hI.ok p f hg]
  exact chg_ok f _ L hI.ok (fun t ht=>⟨(hI.ok.t1 t (List.mem_filter.1 ht).1).1,(hI.ok.t1 t (List.mem_filter.1 ht).1).2.1,hg t (List.mem_filter.1 ht).1 (List.mem_filter.1 ht).2⟩)
 ·obtain ⟨t,ht,⟨hp,rfl⟩ | ⟨hp,rfl⟩⟩:=hmem x hx
  ·exact hbox t ht hp
  ·exact hI.box _ ht
 ·obtain ⟨t,ht,⟨hp,rfl⟩ | ⟨hp,rfl⟩⟩:=hmem x hx
  ·exact hnil t ht hp
  ·exact hI.nil _ ht
 ·obtain ⟨t,ht,⟨hp,rfl⟩ | ⟨hp,rfl⟩⟩:=hmem x hx
  ·exact hpl t ht hp
  ·exact hI.place _ ht
 ·obtain ⟨t,ht,⟨hp,rfl⟩ | ⟨hp,rfl⟩⟩:=hmem x hx <;> obtain ⟨u,hu,⟨hq,rfl⟩ | ⟨hq,rfl⟩⟩:=hmem y hy
  ·intro h1 h2 h3 h4;exact (hap t ht u hu hp h1).1 hq h2 h3 h4
  ·intro h1 h2 h3 h4;exact (hap t ht _ hu hp h1).2 hq h2 h3 h4
  ·intro h1 h2 h3 h4
   simp only at h1 h2 h3 h4 ⊢
   have h1':(f u.2).box≠0:=by rw [<- h2];exact h1
   exact ((hap u hu _ ht hq h1').2 hp h2.symm h3.symm h4.symm).symm
  ·exact hI.apart _ ht _ hu
 ·have:=hI.wired q hq
  rw [mapT_tube p f,mapT_tube p f];exact this
 ·obtain ⟨t,ht,⟨hp,rfl⟩ | ⟨hp,rfl⟩⟩:=hmem x hx
  ·exact hlost t ht hp
  ·exact hI.lost _ ht
theorem inv_putT (hI:L.Inv) {n:Nat} {q:PT} (hn:1<=n/\n<=999) (hq:q.Good) (hbox:q.box≠0↔q.status=1) (hnil:q.box=0->q.x=0/\q.y=0) (hpl:q.box≠0->q.x<L.sideN q.box/\q.y<L.sideN q.box)
  (hap:q.box≠0->∀ u∈L.ts,u.1≠n->q.box=u.2.box->q.x=u.2.x->q.y=u.2.y->False) (hlost:q.status≠3->q.lost=0):(L.putT n q).Inv:=by
 have hside:∀ n',(L.putT n q).sideN n'=L.sideN n':=fun _=>rfl
 refine ⟨hI.ok.insT hn hq,fun x hx => ?_,fun x hx => ?_,fun x hx => ?_,fun x hx y hy => ?_,fun p hp => ?_,fun x hx => ?_⟩
 ·rcases mem_putT.1 hx with rfl | ⟨hx,_⟩
  ·exact hbox
  ·exact hI.box x hx
 ·rcases mem_putT.1 hx with rfl | ⟨hx,_⟩
  ·exact hnil
  ·exact hI.nil x hx
 ·rcases mem_putT.1 hx with rfl | ⟨hx,_⟩
  ·exact hpl
  ·exact hI.place x hx
 ·rcases mem_putT.1 hx with rfl | ⟨hx,hxn⟩ <;> rcases mem_putT.1 hy with rfl | ⟨hy,hyn⟩
  ·intros;rfl
  ·intro h1 h2 h3 h4;exact (hap h1 y hy hyn h2 h3 h4).elim
  ·intro h1 h2 h3 h4
   simp only at h2 h3 h4
   exact (hap (by rw [<- h2];exact h1) x hx hxn h2.symm h3.symm h4.symm).elim
  ·exact hI.apart x hx y hy
 ·have:=hI.wired p hp
  rw [putT_tube,putT_tube]
  exact ⟨by split <;> first | rfl | exact this.1,by split <;> first | rfl | exact this.2⟩
 ·rcases mem_putT.1 hx with rfl | ⟨hx,_⟩
  ·exact hlost
  ·exact hI.lost x hx
theorem inv_same (hI:L.Inv) {n:Nat} {q q':PT} (ht:L.tube n=some q) (hq:q'.Good) (h1:q'.box=q.box) (h2:q'.x=q.x) (h3:q'.y=q.y) (h4:q'.status=q.status) (h5:q'.lost=q.lost):(L.putT n q').Inv:=by
 have hm:=(tube_mem hI.ok).1 ht
 have hn:=hI.ok.t1 _ hm
 refine inv_putT hI ⟨hn.1,hn.2.1⟩ hq ?_ ?_ ?_ (fun hb u hu hne e1 e2 e3 => ?_) ?_
 ·rw [h1,h4];exact hI.box _ hm
 ·rw [h1,h2,h3];exact hI.nil _ hm
 ·rw [h1,h2,h3];exact hI.place _ hm
 ·rw [h1] at e1 hb;rw [h2] at e2;rw [h3] at e3
  exact hne (hI.apart _ hm u hu hb e1 e2 e3).symm
 ·rw [h4,h5];exact hI.lost _ hm
theorem inv_insP (hI:L.Inv) {a b v:Nat} (ha:1<=a/\a<b/\b<=999) (hv:1<=v/\v<=1000000) (h1:(L.tube a).isSome=true) (h2:(L.tube b).isSome=true):({ L with ps:=insP L.ps a b v }:Led).Inv :=
 ⟨hI.ok.insP ha hv,hI.box,hI.nil,hI.place,hI.apart,fun p hp=>by
  rcases mem_insP.1 hp with rfl | ⟨hp,_⟩
  ·exact ⟨h1,h2⟩
  ·exact hI.wired p hp,hI.lost⟩
theorem inv_insB (hI:L.Inv) {n s:Nat} (hn:1<=n/\n<=9) (hs:1<=s/\s<=5) (h0:L.sideN n=0):({ L with bs:=insB L.bs n s }:Led).Inv:=by
 refine ⟨hI.ok.insB hn hs,hI.box,hI.nil,fun t ht hb => ?_,hI.apart,hI.wired,hI.lost⟩
 have h1:=hI.place t ht hb
 have hne:t.2.box≠n:=by rintro e;rw [e,h0] at h1;omega
 have:({ L with bs:=insB L.bs n s }:Led).sideN t.2.box=L.sideN t.2.box:=by unfold sideN;rw [box_insB,if_neg hne]
 rw [this];exact h1
end Led
end
end Go.Proofs.YtalncjhldkcmaaaGreat
