import Derived.Test.YtalncjhldkcmaaaGreatFb19
import Derived.Test.YtalncjhldkcmaaaGreatFb00
import Derived.OwnWalkIn
import Derived.Test.YtalncjhldkcmaaaGreatFb16
import Derived.Test.YtalncjhldkcmaaaGreatFb02
namespace Go.Proofs.YtalncjhldkcmaaaGreat
open _root_.Go.Proofs.Tryz
set_option maxHeartbeats 16000000
set_option maxRecDepth 8000
section
open Go.RowKit Go.Shelf
attribute [local go_sem] Oper.semAt_some run_store_cplx
theorem own_row {W W':World} {row:Option Nat} {B base:Nat} {e:TypeId} {size:Nat} {v:Value} {n:Nat} {xs:List Value} (h:W.ownsRow base e size v n xs) (hg:W.grownBy W' row) (hr:∀ r,row=some r->B<=r/\∃ o:Obj,W.heap[r]? = some o/\o.isCells=false):W'.ownsRow base e size v n xs:=by
 refine ownsRow_block h (fun g hv=>hg.block g (h.lt g hv).2 (fun e => ?_))
 obtain ⟨o,ho,hc⟩:=(hr g e.symm).2
 rcases h.2 with ⟨rfl,_⟩ | ⟨g',cap,cur,rfl,_,hg',_⟩
 ·cases hv
 ·injection hv with hv;subst hv;rw [hg'] at ho;cases ho;cases hc
theorem row_base {W:World} {base base':Nat} {e:TypeId} {size:Nat} {v:Value} {n:Nat} {xs:List Value} (h:W.ownsRow base e size v n xs) (hb:base'<=base):W.ownsRow base' e size v n xs:=by
 refine ⟨h.1,?_⟩
 rcases h.2 with hn | ⟨g,cap,cur,rfl,h1,rest⟩
 ·exact .inl hn
 ·exact .inr ⟨g,cap,cur,rfl,Nat.le_trans hb h1,rest⟩
def ofN (donor:Int) (l:List TN):List Int:=(l.filter fun t=>decide ((t.2.donor:Int)=donor)).map fun t=>(t.1:Int)
theorem ofN_in {donor:Int} {pre:List TN} {x:TN} (h:(x.2.donor:Int)=donor):ofN donor (pre++[x])=ofN donor pre++[(x.1:Int)]:=by simp [ofN,h]
theorem ofN_out {donor:Int} {pre:List TN} {x:TN} (h:¬ (x.2.donor:Int)=donor):ofN donor (pre++[x])=ofN donor pre:=by simp [ofN,h]
theorem ofN_len (donor:Int) (l:List TN):(ofN donor l).length<=l.length:=by simp [ofN];exact List.length_filter_le _ _
theorem of_end {w V:World} {D:Nat} {v:Value} {zs:List Int} {t0 t1 t2 t3 t5 t6 t7 t8 t9 t10 t11 t12 t13 t14 t15 t16 t17 t18 t19 t20:Value} (hD:V.heap[D]? = some (.deferred (some []))) (hrow:V.ownsRow w.heap.size 3 1 v zs.length (intCells zs)) (hbel:Below w.heap.size w V) (hd:w.heap.size+1<D) :
  bodyPostM Fence.wide 0 prog Tryz.f118 (fun e w'=>∃ v,e=.returned v/\w'.ownsRow w.heap.size 3 1 v zs.length (intCells zs)/\Below w.heap.size w w') .ret
   { tmps:=#[t0,t1,t2,t3,v,t5,t6,t7,t8,t9,t10,t11,t12,t13,t14,t15,t16,t17,t18,t19,t20],defers:=[{ target:=.collected D,args:=#[] }] } V:=by
 refine ⟨by simp,.inl ⟨_,_,rfl,run_takeDeferred hD,?_⟩⟩
 refine ⟨v,by simp [results,results118,go_sem],v,rfl,?_,?_⟩
 ·exact own_row (B:=0) hrow (grownBy_putObj' V D _) (fun r e=>by cases e;exact ⟨Nat.zero_le _,_,hD,rfl⟩)
 ·exact hbel.trans ((Below.refl _ V).grown (grownBy_putObj' V D _) (by have:=hbel.size;omega) (fun k e=>by cases e;omega))
theorem ofD_any (n₀ b:Nat) (donor:Int) (l:List KV) (ts:List TN) (hok:∀ t∈ts,t.2.Ok/\t.1<1024) (hts:sel (tubeK 1) (tubeK 999) l=ts.map kvT) (hl:ts.length<9000) (w:World) (hT:TxAt n₀ w b l) :
  Calls prog 118 #[.pointer (some ⟨b,0,none⟩),.int .i64 donor] w fun e w'=>∃ v,e=.returned v/\w'.ownsRow w.heap.size 3 1 v (ofN donor ts).length (intCells (ofN donor ts))/\Below w.heap.size w w':=by
 obtain ⟨i0,hi,hz0,hz1,hz2⟩:=info_parts Tryz.infoInt
 have hn0:n₀<=w.heap.size:=by obtain ⟨⟨r,hB,hI⟩,hf⟩:=hT;exact hI.2.1
 have hb1:Below w.heap.size w ((w.alloc (.cells #[.int .i64 donor] 3)).alloc (.cells #[.slice none 0 0] 36)):=((Below.refl _ w).alloc nlr _).alloc (by simp) _
 have HTu:=hid (tubes_any n₀ b l ts hok hts _ (hT.below hb1))
 have HB:=hid ((Boxed.new w 3 (.int .i64 donor)).alloc (.cells #[.slice none 0 0] 36))
 have HB2:=hid (Boxed.new (w.alloc (.cells #[.int .i64 donor] 3)) 36 (.slice none 0 0))
 have Hs:=hid (show ((w.alloc (.cells #[.int .i64 donor] 3)).alloc (.cells #[.slice none 0 0] 36)).heap.size=w.heap.size+2 by simp)
 have Hb1:=hid hb1
 clear hb1 hT
 refine calls_marks func118 rfl ?_
 simp only [ntmps118,List.size_toArray,List.length_cons,List.length_nil,Nat.reduceAdd,Nat.reduceSub,Array.replicate_succ,Array.replicate_zero,List.push_toArray,List.append_toArray,List.nil_append,List.cons_append]
 go_wp2_with (go_at_call 163;refine HTu.out.mono ?_;clear HTu;rintro e w2 ⟨bx,rfl,hG,hb2⟩)
 have hb1:=Hb1.out
 have hbx:=HB.out
 have hbr:=HB2.out
 have hs:=Hs.out
 have hsa:(w.alloc (.cells #[.int .i64 donor] 3)).heap.size=w.heap.size+1:=by simp
 rw [hsa] at hbr
 clear Hb1 HB Hs HB2
 generalize (w.alloc (.cells #[.int .i64 donor] 3)).alloc (.cells #[.slice none 0 0] 36)=w1 at *
 have hb12:Below w.heap.size w w2:=hb1.trans (hb2.mono hb1.size)
 have h2:=hb2.size
 have hbx2:=boxed_below hbx hb2
 have hbr2:=boxed_below hbr hb2
 refine (wpIn_wide (n:=0)).1 ?_
 refine rangeM_law (gf:=196) (lb:=#[.pointer (some ⟨bx,0,none⟩)]) rfl (enters_of func196 (by kernel_rfl) rfl) (hG (fun _=>False) w2 (fun k=>k=w.heap.size+1) (Keeps.refl _ _) (fun _ h=>h.elim) (fun k h=>by omega)) (Below.refl _ _) (fun k h=>by omega) (fun _=>rfl)
  (fun M pre V=>Boxed V w.heap.size 3 (.int .i64 donor)/\(∃ v,Boxed V (w.heap.size+1) 36 v/\V.ownsRow M 3 1 v (ofN donor pre).length (intCells (ofN donor pre)))/\Below w.heap.size w V)
  (fun _ _ _ _=>False)
  (fun _ s A B row hs hg hr=>by
   obtain ⟨h1,⟨v,h2,h3⟩,h4⟩:=hs
   exact ⟨own_boxed h1 hg hr,⟨v,own_boxed h2 hg hr,own_row h3 hg hr⟩,own_below h4 nlr hb12.size hg hr⟩)
  (fun _ c s A B row hs hg hr=>hs.elim)
  (fun _ _=>⟨hbx2,⟨_,hbr2,World.ownsRow_nil _ _ _ _⟩,hb12⟩)
  (fun x a' V=>∃ r,RecBox V r x.2.cells/\a'={ tmps:=#[.pointer (some ⟨b,0,none⟩),.int .i64 donor,undef,.pointer (some ⟨w.heap.size,0,none⟩),.slice none 0 0,.pointer (some ⟨w.heap.size+1,0,none⟩),.int .i64 x.1,.pointer (some ⟨r,0,none⟩),.pointer (some ⟨b,0,none⟩),.func (.func 196) #[] #[.pointer (some ⟨bx,0,none⟩)],.int .i64 x.1,x.2.val,undef,undef,undef,undef,undef,undef,undef,undef,undef],defers:=[] })
  (fun x a' _ A B row hs hg hr=>by
   obtain ⟨b,h2,h3⟩:=hs
   exact ⟨b,own_recBox h2 hg hr,h3⟩) ?assign ?body ?done ?stop
 case assign =>
  intro y M pre x V K hM1 hM2 _ hi hK
  simp only [encT,PT.val,PT.cells,pl]
  gi_wp2
  have hbV:Below V.heap.size V (V.alloc (.cells #[.complex .f64 (fl x.2.x) (fl x.2.y),.int .i64 x.2.box,.int .i64 x.2.donor,.int .i64 x.2.status,.int .i64 x.2.thaws,.int .i64 x.2.began,.int .i64 x.2.left,.int .i64 x.2.used,.int .i64 x.2.lost] 216)):=bal
  obtain ⟨i1,⟨v,i2,i3⟩,i5⟩:=hi
  exact hK _ _ ((Keeps.refl _ V).below hbV nlr) ⟨boxed_below i1 hbV,⟨v,boxed_below i2 hbV,i3.alloc _⟩,i5.trans (hbV.mono i5.size)⟩ ⟨V.heap.size,World.alloc_heap_new V _,rfl⟩
 case body =>
  rintro y M pre x a' V hy1 hy2 hM1 hM2 hp ⟨hdon,⟨v,hres,hrow⟩,hbel⟩ ⟨r,hr,rfl⟩
  have hc2:=hdon.cell
  have hc3:=hres.cell
  have hlp:pre.length+1<=ts.length:=by have:=hp.length_le;simpa using this
  have hol:=ofN_len donor pre
  simp only [PT.cells,pl] at hr
  have d2:=hr.cell 2
  simp only [List.getElem?_toArray,List.getElem?_cons_zero,List.getElem?_cons_succ] at d2
  by_cases hd:(x.2.donor:Int)=donor
  ·rw [hd] at d2
   have hb3:∀ w3,(V.alloc (.cells #[.int .i64 x.1] 3)).grownBy w3 v.ownBlock->Boxed w3 (w.heap.size+1) 36 v:=fun w3 hg =>
    (hg.block _ (by have:=hres.lt;simp;omega) (fun e=>by have:=(hrow.lt _ e.symm).1;omega)).trans (boxed_below hres (bal))
   have HB3:=hid hb3
   clear hb3
   gi_wp2_with (gi_at_builtin;refine wpListIn_append_own _ rfl _ _ 36 rfl M 3 i0 (.int .i64 0) 1 8 underlying36 hi hz0 hz1 hz2 rfl (by decide) _ _ _ rfl (hrow.alloc _) ⟨V.heap.size,0,none⟩ 1 1 [.int .i64 x.1] rfl rfl (app_cell V _) (by intro u hu;simp at hu;subst hu;rfl) (by unfold maxLen;omega) (by omega) (by simp;omega) ?_;intro v' w3 hown' hgrow' _;obtain ⟨g3,cap3,rfl⟩:=own_form hown';have hb3:=HB3.out w3 hgrow';have hc4:=hb3.cell;have hf4:=hb3.frozen)
   have hk3:Keeps (fun k=>k=w.heap.size+1\/M<=k) V (w3.setCell ⟨w.heap.size+1,0,none⟩ (.slice (some ⟨g3,0,none⟩) ((ofN donor pre).length+1) cap3)):=(((Keeps.refl _ V).alloc _).grown hgrow' (fun k e=>.inl (.inr (hrow.lt k e).1))).setCell (p:=⟨w.heap.size+1,0,none⟩) (.inl (.inl rfl)) _
   refine ⟨hk3,keeps_same hk3 (by omega) hdon,⟨_,hb3.set _,?_⟩,hbel.trans (hk3.toBelow (fun k h=>by omega) hbel.size)⟩
   rw [ofN_in hd]
   refine ownsRow_block (w:=w3) ?_ (fun g hg=>Below.heap_setCell w3 _ _ g (by have:=(hown'.lt g hg).1;show g≠w.heap.size+1;omega))
   simpa [intCells] using hown'
  ·gi_wp2
   exact ⟨Keeps.refl _ _,hdon,⟨v,hres,by rw [ofN_out hd];exact hrow⟩,hbel⟩
 case done =>
  rintro M V hM ⟨hdon,⟨v,hres,hrow⟩,hbel⟩ hD
  have hc3:=hres.cell
  go_wp2_with fail
  exact of_end hD (row_base hrow (by omega)) hbel (by omega)
 case stop =>
  rintro M c pre V hM hp h hD
  exact h.elim
end
section
open Go.RowKit Go.Shelf
attribute [local go_sem] Oper.semAt_some
def pairV (p:PN):Value:=.agg #[.int .i64 p.1,.int .i64 p.2.1]
def pairCells (l:List PN):List Value:=l.flatMap fun p=>[.int .i64 p.1,.int .i64 p.2.1]
theorem pairCells_append (a b:List PN):pairCells (a++b)=pairCells a++pairCells b:=by simp [pairCells]
theorem pairCells_at:∀ (l:List PN) (i:Nat) (hi:i<l.length),(pairCells l)[i*2]? = some (.int .i64 l[i].1)/\(pairCells l)[i*2+1]? = some (.int .i64 l[i].2.1)
 | p::l,0,_=>by simp [pairCells]
 | p::l,i+1,hi=>by
  have:=pairCells_at l i (by simpa using hi)
  simp only [pairCells,List.flatMap_cons] at *
  refine ⟨?_,?_⟩
  ·rw [List.getElem?_append_right (by simp;omega),show (i+1)*2 - [Value.int .i64 (p.1:Int),Value.int .i64 (p.2.1:Int)].length=i*2 by simp;omega];exact this.1
  ·rw [List.getElem?_append_right (by simp;omega),show (i+1)*2+1 - [Value.int .i64 (p.1:Int),Value.int .i64 (p.2.1:Int)].length=i*2+1 by simp;omega];exact this.2
def backs (ps:List PN):List (Nat×PN):=(ps.zipIdx.map fun q=>(q.2,q.1)).reverse
theorem backs_len (ps:List PN):(backs ps).length=ps.length:=by simp [backs]
theorem backs_at (ps:List PN) {m:Nat} (hm:m<ps.length):(backs ps)[m]? = some (ps.length - 1 - m,ps[ps.length - 1 - m]):=by
 unfold backs
 rw [List.getElem?_reverse (by simpa using hm)]
 simp only [List.length_map,List.length_zipIdx,List.getElem?_map,List.getElem?_zipIdx]
 rw [List.getElem?_eq_getElem (by omega)]
 simp
theorem backs_map (ps:List PN):(backs ps).map Prod.snd=ps.reverse:=by
 simp only [backs,List.map_reverse,List.map_map]
 congr 1
 have:(Prod.snd ∘ fun q:PN×Nat=>(q.2,q.1))=Prod.fst:=rfl
 rw [this]
 simp
theorem backs_take (ps:List PN) {m:Nat} (hm:m<ps.length):(backs ps).take (m+1)=(backs ps).take m++[(ps.length - 1 - m,ps[ps.length - 1 - m])]:=by
 rw [List.take_add_one,backs_at ps hm];rfl
def encBk (x:Nat×PN):Array Value:=#[.int .i64 x.1,pairV x.2]
theorem back1_givesM (X:Nat->Prop) (bx:Nat) (v:Value) (ps:List PN) (hl:ps.length<9000) (w:World) (hbx:bx<w.heap.size) (hc:w.cell? ⟨bx,0,none⟩=some v) (hrow:w.ownsRow 0 241 2 v ps.length (pairCells ps)) (hXb:¬ X bx) (hXr:∀ g,v.ownBlock=some g->¬ X g) :
  GivesM prog 200 #[.pointer (some ⟨bx,0,none⟩)] encBk X (backs ps) w:=by
 intro l J Jx W hW hlw hlW hX hJ hJx hY h0
 have hsW:=hW.size
 have c1:=(hW.cell (p:=⟨bx,0,none⟩) hbx).trans hc
 have hrW:W.ownsRow 0 241 2 v ps.length (pairCells ps):=ownsRow_block hrow (fun g hg=>hW.block g (hrow.lt g hg).2)
 have HR:=hid (fun g hg=>(hrow.lt g hg).2)
 have HXr:=hid hXr
 clear hrow hXr
 obtain ⟨oa,cap,rfl,hform⟩:∃ oa cap,v=.slice oa ps.length cap/\∀ i (hi:i<ps.length),∃ g,oa=some ⟨g,0,none⟩/\ps.length<=cap/\g<w.heap.size/\¬ X g/\W.cell? ⟨g,i*2,none⟩=some (.int .i64 ps[i].1)/\W.cell? ⟨g,i*2+1,none⟩=some (.int .i64 ps[i].2.1):=by
  have hc':=hrW
  rcases hrW.2 with ⟨hv,h0⟩ | ⟨g,cap,cur,rfl,_,hg,hle,_⟩
  ·exact ⟨none,0,by rw [hv,h0],fun i hi=>by omega⟩
  ·refine ⟨some ⟨g,0,none⟩,cap,rfl,fun i hi=>⟨g,rfl,hle,HR.out g rfl,HXr.out g rfl,?_,?_⟩⟩
   ·have:=hc'.cells (g:=g) rfl (i*2) _ (pairCells_at ps i hi).1
    rw [addr_add] at this;exact this
   ·have:=hc'.cells (g:=g) rfl (i*2+1) _ (pairCells_at ps i hi).2
    rw [addr_add] at this;exact this
 have HF:=hid hform
 have HY:=hid hY
 have H0:=hid h0
 clear hform hY h0 HR HXr hrW
 simp only [List.append_toArray,List.cons_append,List.nil_append]
 go_enter func200,ntmps200
 go_wp2_with fail
 go_loopg [3] ps.length (fun gk i wr=>∃ m:Nat,m+gk=ps.length/\i=.int .i64 ((ps.length:Int) - 1 - m)/\J W.heap.size ((backs ps).take m) wr/\Keeps (fun k=>X k\/k=l\/W.heap.size<=k) W wr)
 case atStart=>exact ⟨0,by omega,by go_num,H0.out _ nlr,Keeps.refl _ _⟩
 case round =>
  obtain ⟨m,hm,rfl,hJm,hk⟩:=hrel
  have HM:=hid hm
  have hmle:m<=ps.length:=by omega
  clear hm
  have hc2:=(hk.cell (p:=⟨bx,0,none⟩) (by show bx<_;omega) (by rintro (h | h | h);exact hXb h;(have h':bx=l:=h;omega);(have h':W.heap.size<=bx:=h;omega))).trans c1
  have hks:=hk.size
  by_cases hlt:m<ps.length
  ·obtain ⟨j,hj⟩:∃ j,j=ps.length - 1 - m:=⟨_,rfl⟩
   have hjl:j<ps.length:=by omega
   have e1:(ps.length:Int) - 1 - m=(j:Int):=by omega
   rw [e1]
   obtain ⟨g,rfl,hcap,hgl,hXg,q0,q1⟩:=HF.out j hjl
   have p0:=(hk.cell (p:=⟨g,j*2,none⟩) (by show g<_;omega) (by rintro (h | h | h);exact hXg h;(have h':g=l:=h;omega);(have h':W.heap.size<=g:=h;omega))).trans q0
   have p1:=(hk.cell (p:=⟨g,j*2+1,none⟩) (by show g<_;omega) (by rintro (h | h | h);exact hXg h;(have h':g=l:=h;omega);(have h':W.heap.size<=g:=h;omega))).trans q1
   have HT:=hid (backs_take ps hlt)
   have HP:Hid ((backs ps).take m++[(j,ps[j])] <+: backs ps):=hid (by subst hj;rw [<- HT.out];exact List.take_prefix _ _)
   have HT2:Hid ((backs ps).take (m+1)=(backs ps).take m++[(j,ps[j])]):=hid (by subst hj;exact HT.out)
   clear HT
   obtain ⟨fn,tmps,assign,body,hy,hR2⟩:=HY.out _ _ (j,ps[j]) wr nlr hks HP.out hJm
   simp only [encBk,pairV] at hy
   have Hj:=hid hj
   clear hj q0 q1
   generalize ps[j]=pj at *
   have hj0:(0:Int)<=(j:Int):=by omega
   have hjn:(j:Int)<(ps.length:Int):=by omega
   go_upto_region 3 with fail
   refine (wpIn_wide (n:=0)).1 ?_
   gi_wp2
   refine ⟨rfl,hR2.mono ?_⟩
   clear hR2 hy
   rintro e w2 (⟨rfl,hJ2,hk2⟩ | ⟨rfl,hx2,hk2⟩)
   ·gi_wp2
    go_wp2_with fail
    go_roundg (gk - 1)
    case measure=>have:=HM.out;omega
    case rel=>exact ⟨m+1,by have:=HM.out;omega,by have:=Hj.out;go_num,by rw [HT2.out];exact hJ2,hk.trans hk2⟩
   ·gi_wp2
    go_wp2_with fail
    refine bodyPost_ret (v:=.tuple #[]) (by simp [results,results200,go_sem]) rfl ?_
    exact ⟨⟨_,rfl⟩,W.heap.size,Nat.le_refl _,.inr ⟨_,HP.out,hx2⟩⟩
  ·have hme:m=ps.length:=by omega
   have HA:=hid (show backs ps=(backs ps).take m by rw [hme,<- backs_len,List.take_length])
   have hi:(ps.length:Int) - 1 - m = -1:=by omega
   rw [hi]
   clear hme
   go_wp2_with fail
   go_end0
   exact ⟨⟨_,rfl⟩,W.heap.size,Nat.le_refl _,.inl (by rw [HA.out];exact hJm)⟩
theorem backward_any (oa:Option Addr) (n cap:Nat) (w:World) :
  Calls prog 175 #[.slice oa n cap] w fun e w'=>e=.returned (.func (.func 200) #[] #[.pointer (some ⟨w.heap.size,0,none⟩)])/\w'=w.alloc (.cells #[.slice oa n cap] 237):=by
 have hmf:∀ (fn:Fn) (first cap:Array Value) (w:World),(Instr.makeFunc fn first cap).run prog w=.ok (.func fn first cap) w:=fun _ _ _ _=>rfl
 go_enter func175,ntmps175
 go_wp2
 go_ret
 exact ⟨rfl,rfl⟩
end
section
open Go.RowKit Go.Shelf
attribute [local go_sem] Oper.semAt_some
def encCk (g n i:Nat):Array Value:=#[.slice (some ⟨g,i*128,none⟩) (min 128 (n - i*128)) (min 128 (n - i*128))]
theorem range_take_succ {m k:Nat} (h:m<k):(List.range k).take (m+1)=(List.range k).take m++[m]:=by
 rw [List.take_add_one,List.getElem?_range h];rfl
theorem chunk1_givesM (X:Nat->Prop) (b1 b2 g n cap:Nat) (hn:n<=100000) (hcap:n<=cap) (w:World) (hb1:b1<w.heap.size) (hb2:b2<w.heap.size) (d1:w.cell? ⟨b1,0,none⟩=some (.slice (some ⟨g,0,none⟩) n cap)) (d2:w.cell? ⟨b2,0,none⟩=some (.int .i64 128)) (hX1:¬ X b1) (hX2:¬ X b2) :
  GivesM prog 122 #[.pointer (some ⟨b1,0,none⟩),.pointer (some ⟨b2,0,none⟩)] (encCk g n) X (List.range ((n+127) / 128)) w:=by
 intro l J Jx W hW hlw hlW hX hJ hJx hY h0
 have hsW:=hW.size
 have c1:=(hW.cell (p:=⟨b1,0,none⟩) hb1).trans d1
 have c2:=(hW.cell (p:=⟨b2,0,none⟩) hb2).trans d2
 have HY:=hid hY
 have H0:=hid h0
 clear hY h0 d1 d2
 simp only [List.append_toArray,List.cons_append,List.nil_append]
 go_enter func122,ntmps122
 go_wp2_with fail
 go_loopg [4] ((n+127) / 128) (fun gk i wr=>∃ m:Nat,m+gk=(n+127) / 128/\i=.int .i64 ((m*128:Nat):Int)/\J W.heap.size ((List.range ((n+127) / 128)).take m) wr/\Keeps (fun k=>X k\/k=l\/W.heap.size<=k) W wr)
 case atStart=>exact ⟨0,by omega,rfl,H0.out _ nlr,Keeps.refl _ _⟩
 case round =>
  obtain ⟨m,hm,rfl,hJm,hk⟩:=hrel
  have HM:=hid hm
  have hmle:m<=(n+127) / 128:=by omega
  clear hm
  have e1:=(hk.cell (p:=⟨b1,0,none⟩) (by show b1<_;omega) (by rintro (h | h | h);exact hX1 h;(have h':b1=l:=h;omega);(have h':W.heap.size<=b1:=h;omega))).trans c1
  have e2:=(hk.cell (p:=⟨b2,0,none⟩) (by show b2<_;omega) (by rintro (h | h | h);exact hX2 h;(have h':b2=l:=h;omega);(have h':W.heap.size<=b2:=h;omega))).trans c2
  have hks:=hk.size
  by_cases hlt:m<(n+127) / 128
  ·have hj0:((m*128:Nat):Int)<(n:Int):=by omega
   have hj1:(0:Int)<=((m*128:Nat):Int):=by omega
   have HMc:=hid hmle
   have HL:=hid hlt
   clear hmle hlt
   generalize hz:m*128=z at *
   go_upto_region 3 with fail
   go_quiet (fail)
   have hqe:(if ((n - z:Nat):Int)<128 then ((n - z:Nat):Int) else 128)=((min 128 (n - z):Nat):Int):=by
    split <;> omega
   have hqm:min (128:Int) ((n - z:Nat):Int)=((min 128 (n - z):Nat):Int):=by omega
   first | rw [hqe] | rw [hqm]
   obtain ⟨q,hq⟩:∃ q,q=min 128 (n - z):=⟨_,rfl⟩
   rw [<- hq]
   have hq1:((z:Int)+(q:Int))<=(cap:Int):=by omega
   have hq2:z+q<=n:=by omega
   have hq3:0<q:=by omega
   have hq4:¬ q=0:=by omega
   have hq5:¬ z+q=z:=by omega
   have Hq:=hid hq
   have Hz:=hid hz
   have hkd:=hk.drewN nq
   have hJd:J W.heap.size ((List.range ((n+127) / 128)).take m) (wr.drewN nq):=hJ _ _ wr _ none hJm ⟨rfl,rfl,rfl,Nat.le_refl _,fun _ _ _=>rfl⟩ (fun r e=>by cases e)
   have f1:(wr.drewN nq).cell? ⟨b1,0,none⟩=some (.slice (some ⟨g,0,none⟩) n cap):=e1
   have hds:(wr.drewN nq).heap.size=wr.heap.size:=rfl
   have HT:=hid (range_take_succ HL.out)
   have HP:Hid ((List.range ((n+127) / 128)).take m++[m] <+: List.range ((n+127) / 128)):=hid (by rw [<- HT.out];exact List.take_prefix _ _)
   clear hqe hq hz e1 e2 hJm hk
   generalize wr.drewN nq=wq at *
   obtain ⟨fn,tmps,assign,body,hy,hR2⟩:=HY.out _ _ m wq nlr (by omega) HP.out hJd
   have hen:encCk g n m=#[.slice (some ⟨g,z,none⟩) q q]:=by unfold encCk;rw [Hz.out,<- Hq.out]
   rw [hen] at hy
   clear hen
   go_upto_region 4 with fail
   refine (wpIn_wide (n:=0)).1 ?_
   gi_wp2
   all_goals first | (exfalso;omega) | skip
   refine ⟨rfl,hR2.mono ?_⟩
   clear hR2 hy
   rintro e w2 (⟨rfl,hJ2,hk2⟩ | ⟨rfl,hx2,hk2⟩)
   ·gi_wp2
    have g2:=((hkd.trans hk2).cell (p:=⟨b2,0,none⟩) (by show b2<_;omega) (by rintro (h | h | h);exact hX2 h;(have h':b2=l:=h;omega);(have h':W.heap.size<=b2:=h;omega))).trans c2
    go_wp2_with fail
    go_roundg (gk - 1)
    case measure=>have:=HM.out;have:=HL.out;omega
    case rel=>exact ⟨m+1,by have:=HM.out;have:=HL.out;omega,by have:=Hz.out;go_num,by rw [HT.out];exact hJ2,hkd.trans hk2⟩
   ·gi_wp2
    go_wp2_with fail
    refine bodyPost_ret (v:=.tuple #[]) (by simp [results,results122,go_sem]) rfl ?_
    exact ⟨⟨_,rfl⟩,W.heap.size,Nat.le_refl _,.inr ⟨_,HP.out,hx2⟩⟩
  ·have hme:m=(n+127) / 128:=by omega
   have HA:=hid (show List.range ((n+127) / 128)=(List.range ((n+127) / 128)).take m by rw [hme,List.take_of_length_le (by simp)])
   have hi:¬ (((m*128:Nat):Int)<(n:Int)):=by omega
   clear hme
   go_wp2_with fail
   go_end0
   exact ⟨⟨_,rfl⟩,W.heap.size,Nat.le_refl _,.inl (by rw [HA.out];exact hJm)⟩
theorem chunk_any (oa:Option Addr) (n cap:Nat) (w:World) :
  Calls prog 74 #[.slice oa n cap,.int .i64 128] w fun e w'=>e=.returned (.func (.func 122) #[] #[.pointer (some ⟨w.heap.size,0,none⟩),.pointer (some ⟨w.heap.size+1,0,none⟩)])/\w'=(w.alloc (.cells #[.slice oa n cap] 51)).alloc (.cells #[.int .i64 128] 3):=by
 have hmf:∀ (fn:Fn) (first cap:Array Value) (w:World),(Instr.makeFunc fn first cap).run prog w=.ok (.func fn first cap) w:=fun _ _ _ _=>rfl
 go_enter func74,ntmps74
 go_wp2
 go_ret
 exact ⟨rfl,rfl⟩
end
end Go.Proofs.YtalncjhldkcmaaaGreat
