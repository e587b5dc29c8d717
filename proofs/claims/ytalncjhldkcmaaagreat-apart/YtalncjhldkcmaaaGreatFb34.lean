import Derived.Test.YtalncjhldkcmaaaGreatFb21
import Derived.Test.YtalncjhldkcmaaaGreatFb32
import Derived.Deep.WholeRow
import Derived.Test.YtalncjhldkcmaaaGreatFb24
import Derived.Test.YtalncjhldkcmaaaGreatFb07
import Derived.Test.YtalncjhldkcmaaaGreatFb16
import Derived.Test.YtalncjhldkcmaaaGreatFb18
namespace Go.Proofs.YtalncjhldkcmaaaGreat
open _root_.Go.Proofs.Tryz
set_option maxHeartbeats 16000000
set_option maxRecDepth 8000
section
open Go.RowKit Go.Shelf
attribute [local go_sem] Oper.semAt_some
def intsN (n:Nat) (S:Nat->Int):Array Value:=((List.range n).map fun i=>Value.int .i64 (S i)).toArray
theorem intsN_size (n:Nat) (S:Nat->Int):(intsN n S).size=n:=by simp [intsN]
theorem intsN_get {n:Nat} {S:Nat->Int} {i:Nat} (hi:i<n):(intsN n S)[i]? = some (.int .i64 (S i)):=by simp [intsN,hi]
theorem intsN_set {n:Nat} {S:Nat->Int} {i:Nat} (x:Int):(intsN n S).set! i (.int .i64 x)=intsN n (fun j=>if j=i then x else S j):=by
 apply Array.toList_inj.1
 apply List.ext_getElem?
 intro j
 simp only [intsN,Array.set!_eq_setIfInBounds,List.setIfInBounds_toArray]
 by_cases hj:j<n
 ·by_cases e:j=i
  ·subst e;simp [hj]
  ·rw [List.getElem?_set_ne (by omega)];simp [hj,e]
 ·rw [List.getElem?_eq_none (by simp;omega),List.getElem?_eq_none (by simp;omega)]
theorem zero_ints:zeroCells264=intsN 1000 (fun _=>0):=by kernel_rfl
def gainI (ps:List PN) (n:Nat):Int:=(inF ps n:Int) - (outF ps n:Int)
theorem gainI_snoc (ps:List PN) (p:PN) (hp:p.1≠p.2.1):gainI (ps++[p])=fun j=>if j=p.2.1 then gainI ps p.2.1+p.2.2 else if j=p.1 then gainI ps p.1 - p.2.2 else gainI ps j:=by
 funext j
 simp only [gainI,inF,outF,List.map_append,List.map_cons,List.map_nil,List.sum_append,List.sum_cons,List.sum_nil]
 by_cases h1:j=p.2.1
 ·subst h1
  have:¬ p.1=p.2.1:=hp
  simp only [if_true,this,if_false];omega
 ·by_cases h2:j=p.1
  ·subst h2
   have h3:¬ p.2.1=p.1:=fun e=>h1 e.symm
   simp only [if_true,h1,h3,if_false];omega
  ·have h3:¬ p.2.1=j:=fun e=>h1 e.symm
   have h4:¬ p.1=j:=fun e=>h2 e.symm
   simp only [h1,h2,h3,h4,if_false];omega
theorem gain_lt (ps:List PN) (hv:∀ p∈ps,p.2.2<16777216) (n:Nat):inF ps n<=ps.length*16777216/\outF ps n<=ps.length*16777216:=by
 induction ps with
 | nil=>exact ⟨Nat.zero_le _,Nat.zero_le _⟩
 | cons p ps ih =>
  have h1:=hv p (List.mem_cons_self ..)
  obtain ⟨h2,h3⟩:=ih (fun q hq=>hv q (List.mem_cons_of_mem _ hq))
  simp only [inF,outF,List.map_cons,List.sum_cons,List.length_cons] at *
  constructor
  ·split <;> omega
  ·split <;> omega
theorem store_row {P:Program} (w:World) (g:Nat) (t:TypeId) (old cells:Array Value) (hg:w.heap[g]? = some (.cells old t (0,0)))
  (ho:old.size=cells.size) (h1:cells.all (·.oneCell')=true):(storeCells ⟨g,0,none⟩ cells.toList).run P w=.ok () (w.setRow g cells):=by
 have h:=run_storeCells_from (P:=P) g t cells.toList 0 old w hg (by simp;omega) (fun v hv=>(Array.all_eq_true_iff_forall_mem.1 h1) v (by simpa using hv))
 simpa using h
theorem setRow_below {w V:World} (hb:Below w.heap.size w V) {g:Nat} (hg:w.heap.size<=g) (c:Array Value):Below w.heap.size w (V.setRow g c) :=
 ⟨hb.os,hb.tape,hb.output,by rw [size_setRow];exact hb.size,fun k hk=>(setRow_other V g k c (by omega)).trans (hb.block k hk)⟩
theorem own_recAt {W W':World} {row:Option Nat} {b B':Nat} {c:Array Value} {t:TypeId} (h:RecAt W b c t) (hg:W.grownBy W' row) (hr:∀ r,row=some r->B'<=r/\∃ o:Obj,W.heap[r]? = some o/\o.isCells=false):RecAt W' b c t:=by
 refine (hg.block b h.lt (fun e => ?_)).trans h
 obtain ⟨_,o,ho,hc⟩:=hr b e.symm
 rw [show W.heap[b]? = _ from h] at ho
 cases ho
 cases hc
theorem recAt_keeps {S:Nat->Prop} {w w':World} {b:Nat} {c:Array Value} {t:TypeId} (h:RecAt w b c t) (hk:Keeps S w w') (hs:¬ S b):RecAt w' b c t:=(hk.block b h.lt hs).trans h
theorem gains_any (n₀ b:Nat) (L:Led) (w:World) (hT:TxF n₀ w b L) :
  Calls prog 189 #[.pointer (some ⟨b,0,none⟩)] w fun e w'=>e=.returned (.agg (intsN 1000 (gainI L.ps)))/\Below w.heap.size w w':=by
 have hb1:Below w.heap.size w (((w.alloc (.cells #[.pointer (some ⟨b,0,none⟩)] 185)).alloc (.cells zeroCells264 264)).alloc (.cells zeroCells264 264)):=(((Below.refl _ w).alloc nlr _).alloc (by simp) _).alloc (by simp;omega) _
 have HP:=hid (pairs_any n₀ b L.kvs L.ps hT.poks (Led.sel_psF hT.fit) _ (hT.below hb1).tx)
 have hn0:n₀<=w.heap.size:=by obtain ⟨⟨r,hB,hI⟩,hf⟩:=hT.tx;exact hI.2.1
 have HB:=hid (((Boxed.new w 185 (.pointer (some ⟨b,0,none⟩))).alloc (.cells zeroCells264 264)).alloc (.cells zeroCells264 264))
 have hs1:(w.alloc (.cells #[.pointer (some ⟨b,0,none⟩)] 185)).heap.size=w.heap.size+1:=by simp
 have hs2:((w.alloc (.cells #[.pointer (some ⟨b,0,none⟩)] 185)).alloc (.cells zeroCells264 264)).heap.size=w.heap.size+1+1:=by simp
 have HR1:Hid (RecAt (((w.alloc (.cells #[.pointer (some ⟨b,0,none⟩)] 185)).alloc (.cells zeroCells264 264)).alloc (.cells zeroCells264 264)) (w.heap.size+1) zeroCells264 264):=hid (by
  have:=(RecAt.new (w.alloc (.cells #[.pointer (some ⟨b,0,none⟩)] 185)) zeroCells264 264).on ((Below.refl _ _).alloc nlr (.cells zeroCells264 264))
  rw [hs1] at this;exact this)
 have HR2:Hid (RecAt (((w.alloc (.cells #[.pointer (some ⟨b,0,none⟩)] 185)).alloc (.cells zeroCells264 264)).alloc (.cells zeroCells264 264)) (w.heap.size+1+1) zeroCells264 264):=hid (by
  have:=RecAt.new ((w.alloc (.cells #[.pointer (some ⟨b,0,none⟩)] 185)).alloc (.cells zeroCells264 264)) zeroCells264 264
  rw [hs2] at this;exact this)
 have Hs:=hid (show (((w.alloc (.cells #[.pointer (some ⟨b,0,none⟩)] 185)).alloc (.cells zeroCells264 264)).alloc (.cells zeroCells264 264)).heap.size=w.heap.size+3 by simp)
 have Hb1:=hid hb1
 clear hb1 hs1 hs2
 refine calls_marks func189 rfl ?_
 simp only [ntmps189,List.size_toArray,List.length_cons,List.length_nil,Nat.reduceAdd,Nat.reduceSub,Array.replicate_succ,Array.replicate_zero,List.push_toArray,List.append_toArray,List.nil_append,List.cons_append]
 go_wp2_with (go_at_call 174;refine HP.out.mono ?_;clear HP;rintro e w2 ⟨bx,rfl,hG,hb2⟩)
 have hb1:=Hb1.out
 have hbx:=HB.out
 have hr1:=HR1.out
 have hr2:=HR2.out
 have hs:=Hs.out
 clear Hb1 HB Hs HR1 HR2
 generalize ((w.alloc (.cells #[.pointer (some ⟨b,0,none⟩)] 185)).alloc (.cells zeroCells264 264)).alloc (.cells zeroCells264 264)=w1 at *
 rw [zero_ints] at hr1 hr2
 have hb12:Below w.heap.size w w2:=hb1.trans (hb2.mono hb1.size)
 have h2:=hb2.size
 have hbx2:=boxed_below hbx hb2
 have hr12:=hr1.on hb2
 have hr22:=hr2.on hb2
 have hfit:=hT.fit
 have hpk:=hT.poks
 have hfew:L.ps.length<7000:=by have:=hT.few;rw [Led.len] at this;omega
 refine (wpIn_wide (n:=0)).1 ?_
 refine rangeM_law (gf:=199) (lb:=#[.pointer (some ⟨bx,0,none⟩)]) rfl (enters_of func199 (by kernel_rfl) rfl) (hG (fun _=>False) w2 (fun k=>k=w.heap.size+1+1) (Keeps.refl _ _) (fun _ h=>h.elim) (fun k h=>by omega)) (Below.refl _ _) (fun k h=>by omega) (fun _=>rfl)
  (fun _ pre V=>Boxed V w.heap.size 185 (.pointer (some ⟨b,0,none⟩))/\RecAt V (w.heap.size+1) (intsN 1000 (fun _=>0)) 264/\RecAt V (w.heap.size+1+1) (intsN 1000 (gainI pre)) 264/\Below w.heap.size w V)
  (fun _ _ _ _=>False)
  (fun _ s A B row hs hg hr=>by
   obtain ⟨h1,h2,h3,h4⟩:=hs
   exact ⟨own_boxed h1 hg hr,own_recAt h2 hg hr,own_recAt h3 hg hr,own_below h4 nlr hb12.size hg hr⟩)
  (fun _ c s A B row hs hg hr=>hs)
  (fun _ _=>⟨hbx2,hr12,hr22,hb12⟩)
  (fun x a' _=>a'={ tmps:=#[.pointer (some ⟨b,0,none⟩),.pointer (some ⟨w.heap.size,0,none⟩),.pointer (some ⟨w.heap.size+1,0,none⟩),.pointer (some ⟨w.heap.size+1+1,0,none⟩),.int .i64 x.1,.int .i64 x.2.1,undef,.pointer (some ⟨b,0,none⟩),.func (.func 199) #[] #[.pointer (some ⟨bx,0,none⟩)],.int .i64 x.1,.int .i64 x.2.1,undef,undef,undef,undef,undef,undef,undef,undef,undef,undef,undef,undef,undef,undef,undef,undef,undef],defers:=[] })
  (fun _ _ _ _ _ _ hs _ _=>hs) ?assign ?body ?done ?stop
 case assign =>
  intro y M pre x V K hM1 hM2 _ hi hK
  simp only [encP]
  gi_wp2
  exact hK _ _ (Keeps.refl _ _) hi rfl
 case body =>
  rintro y M pre x a' V hy1 hy2 hM1 hM2 hp ⟨hbox,hra,hrb,hbel⟩ rfl
  have hxm:x∈L.ps:=hp.subset (by simp)
  have hx1:=hfit.p1 x hxm
  have hc2:=hbox.cell
  have HPo:=hid (poured_fit n₀ b x.1 x.2.1 L V (hT.below hbel) (by omega) (by omega))
  rw [pourN_of hfit hxm] at HPo
  have hle:=hp.length_le
  have hgb:=gain_lt pre (fun p hp2=>(hfit.p1 p (hp.subset (List.mem_append_left _ hp2))).2.2.2)
  have hb1:pre.length<7000:=by have:=hp.length_le;simp at this;omega
  have HGs:=hid (gainI_snoc pre x (by omega))
  have hg1 : -117440512000<=gainI pre x.1/\gainI pre x.1<=117440512000:=by have:=hgb x.1;unfold gainI;omega
  have hg2 : -117440512000<=gainI pre x.2.1/\gainI pre x.2.1<=117440512000:=by have:=hgb x.2.1;unfold gainI;omega
  clear hgb hle
  gi_wp2
  refine ⟨trivial,rfl,(CallsIn.inRound _ (callsIn_wide.2 HPo.out)).mono ?_⟩
  clear HPo hc2
  rintro e V1 ⟨rfl,hbV⟩
  have hrb1:=hrb.on hbV
  have c1:V1.cell? ⟨w.heap.size+1+1,x.1,none⟩=some (.int .i64 (gainI pre x.1)):=(hrb1.cell x.1).trans (intsN_get (by omega))
  have f1:=hrb1.fz x.1
  have hrb2:=hrb1.set x.1 (.int .i64 (gainI pre x.1 - x.2.2))
  rw [intsN_set] at hrb2
  have c2:(V1.setCell ⟨w.heap.size+1+1,x.1,none⟩ (.int .i64 (gainI pre x.1 - x.2.2))).cell? ⟨w.heap.size+1+1,x.2.1,none⟩=some (.int .i64 (gainI pre x.2.1)):=by
   refine (hrb2.cell x.2.1).trans ((intsN_get (by omega)).trans ?_)
   rw [if_neg (by omega)]
  have f2:=hrb2.fz x.2.1
  have hrb3:=hrb2.set x.2.1 (.int .i64 (gainI pre x.2.1+x.2.2))
  rw [intsN_set] at hrb3
  have hk3:Keeps (fun k=>k=w.heap.size+1+1\/M<=k) V ((V1.setCell ⟨w.heap.size+1+1,x.1,none⟩ (.int .i64 (gainI pre x.1 - x.2.2))).setCell ⟨w.heap.size+1+1,x.2.1,none⟩ (.int .i64 (gainI pre x.2.1+x.2.2))):=(((Keeps.refl (fun k=>k=w.heap.size+1+1\/M<=k) V).below hbV nlr).setCell (p:=⟨w.heap.size+1+1,x.1,none⟩) (.inl (.inl rfl)) _).setCell (p:=⟨w.heap.size+1+1,x.2.1,none⟩) (.inl (.inl rfl)) _
  have HFin:=hid (And.intro hk3 hrb3)
  have i1:(x.1:Int)<1000:=by omega
  have i2:(x.2.1:Int)<1000:=by omega
  have v1:(x.2.2:Int)<16777216:=by omega
  obtain ⟨l1,u1⟩:=hg1
  obtain ⟨l2,u2⟩:=hg2
  have HL:=hid (show x.1<x.2.1 by omega)
  clear hrb1 hrb2 hrb3 hk3 hx1 hxm hp
  generalize gainI pre x.1=g1 at *
  generalize gainI pre x.2.1=g2 at *
  gi_wp2
  obtain ⟨hk3,hrb3⟩:=HFin.out
  refine ⟨hk3,(hk3.block _ hbox.lt (by omega)).trans hbox,recAt_keeps hra hk3 (by have:=hra.lt;omega),?_,hbel.trans (hk3.toBelow (fun k h=>by omega) hbel.size)⟩
  rw [HGs.out]
  exact hrb3
 case done =>
  rintro M V hM ⟨hbox,hra,hrb,hbel⟩ hD
  have hinf:(prog.info? 264).map (·.size)=some (intsN 1000 (gainI L.ps)).size:=by rw [intsN_size];kernel_rfl
  go_wp2_with fail
  refine wp_load_row 264 (.tmp 3) rfl (w.heap.size+1+1) rfl 264 (intsN 1000 (gainI L.ps)) (0,0) (.array 1000 3) hrb (by kernel_rfl) rfl hinf ?_
  simp only [Act.put,List.setIfInBounds_toArray,List.set_cons_succ,List.set_cons_zero]
  have hone:(intsN 1000 (gainI L.ps)).all (·.oneCell')=true:=by
   rw [Array.all_eq_true_iff_forall_mem]
   intro v hv
   simp only [intsN,List.mem_toArray,List.mem_map] at hv
   obtain ⟨i,_,rfl⟩:=hv
   rfl
  have hst:=store_row (P:=prog) V (w.heap.size+1) 264 (intsN 1000 (fun _=>0)) (intsN 1000 (gainI L.ps)) hra (by rw [intsN_size,intsN_size]) hone
  go_wp2_with fail
  have hD':(V.setRow (w.heap.size+1) (intsN 1000 (gainI L.ps))).heap[w2.heap.size]? = some (.deferred (some [])):=(setRow_other V _ _ _ (by omega)).trans hD
  have hr':(V.setRow (w.heap.size+1) (intsN 1000 (gainI L.ps))).heap[w.heap.size+1]? = some (.cells (intsN 1000 (gainI L.ps)) 264 (0,0)):=setRow_heap V _ _ _ _ _ hra
  have hbel':=setRow_below hbel (g:=w.heap.size+1) (by omega) (intsN 1000 (gainI L.ps))
  clear hst hone
  generalize V.setRow (w.heap.size+1) (intsN 1000 (gainI L.ps))=V' at *
  refine ⟨by simp,.inl ⟨_,_,rfl,run_takeDeferred hD',?_⟩⟩
  refine ⟨.agg (intsN 1000 (gainI L.ps)),results_cell_row rfl _ _ (w.heap.size+1) 264 (intsN 1000 (gainI L.ps)) (0,0) (.array 1000 3) rfl ((World.putObj_heap_other (by omega)).trans hr') (by kernel_rfl) rfl hinf,rfl,?_⟩
  exact hbel'.trans ((Below.refl _ V').grown (grownBy_putObj' V' _ _) (by have:=hbel'.size;omega) (fun k e=>by cases e;omega))
 case stop =>
  rintro M c pre V hM hp h hD
  exact h.elim
end
section
open Go.RowKit Go.Shelf
open Go.Sort (grow grow_empty)
attribute [local go_sem] Oper.semAt_some run_store_cplx
def goodT (L:Led) (t:TN):Bool:=t.2.recS&&(!decide (t.2.status=1)||ownP L t.1 t.2)&&decide ((t.2.began:Int)+gainI L.ps t.1=(t.2.left:Int)+t.2.used+t.2.lost)
theorem wrapsI (n:Int) (h0 : -9000000000000000000<=n) (h1:n<=9000000000000000000):IntKind.i64.wrap n=n:=by
 simp only [IntKind.wrap,IntKind.bits,IntKind.signed];simp;omega
theorem tubes_end {w V:World} {D:Nat} {v:Bool} {t0 t1 t3 t4 t5 t6 t7 t8 t9 t10 t11 t12 t13 t14 t15 t16 t17 t18 t19 t20 t21 t22 t23 t24 t25 t26 t27 t28 t29 t30 t31 t32 t33 t34 t35 t36 t37 t38 t39 t40 t41:Value} (hD:V.heap[D]? = some (.deferred (some []))) (hb:Boxed V (w.heap.size+1) 4 (.bool v)) (hbel:Below w.heap.size w V) (hd:w.heap.size+1<D) :
  bodyPostM Fence.wide 0 prog Tryz.f139 (fun e w'=>e=.returned (.bool v)/\Below w.heap.size w w') .ret
   { tmps:=#[t0,t1,.pointer (some ⟨w.heap.size+1,0,none⟩),t3,t4,t5,t6,t7,t8,t9,t10,t11,t12,t13,t14,t15,t16,t17,t18,t19,t20,t21,t22,t23,t24,t25,t26,t27,t28,t29,t30,t31,t32,t33,t34,t35,t36,t37,t38,t39,t40,t41],defers:=[{ target:=.collected D,args:=#[] }] } V:=by
 have hc:∀ o,(V.putObj D o).cell? ⟨w.heap.size+1,0,none⟩=some (.bool v):=fun o=>(show Boxed (V.putObj D o) (w.heap.size+1) 4 (.bool v) from (World.putObj_heap_other (by omega)).trans hb).cell
 refine ⟨by simp,.inl ⟨_,_,rfl,run_takeDeferred hD,?_⟩⟩
 refine ⟨.bool v,by simp [results,results139,go_sem,hc],rfl,?_⟩
 exact hbel.trans ((Below.refl _ V).grown (grownBy_putObj' V D _) (by have:=hbel.size;omega) (fun k e=>by cases e;omega))
theorem tubesSound_any (n₀ b:Nat) (L:Led) (w:World) (hT:TxF n₀ w b L) :
  Calls prog 139 #[.pointer (some ⟨b,0,none⟩)] w fun e w'=>e=.returned (.bool (L.ts.all (goodT L)))/\Below w.heap.size w w':=by
 have hb1:Below w.heap.size w ((w.alloc (.cells #[.pointer (some ⟨b,0,none⟩)] 185)).alloc (.cells #[.bool false] 4)):=((Below.refl _ w).alloc nlr _).alloc (by simp) _
 have hn0:n₀<=w.heap.size:=by obtain ⟨⟨r,hB,hI⟩,hf⟩:=hT.tx;exact hI.2.1
 have HGa:=hid (gains_any n₀ b L _ (hT.below hb1))
 have HTu:=hid (fun u (hu:Below w.heap.size w u)=>tubes_any n₀ b L.kvs L.ts hT.toks (Led.sel_tsF hT.fit) u (hT.below hu).tx)
 have hone:(intsN 1000 (gainI L.ps)).all (·.oneCell')=true:=by
  rw [Array.all_eq_true_iff_forall_mem]
  intro v hv
  simp only [intsN,List.mem_toArray,List.mem_map] at hv
  obtain ⟨i,_,rfl⟩:=hv
  rfl
 have hst:∀ u:World,(storeCells ⟨u.heap.size,0,none⟩ (intsN 1000 (gainI L.ps)).toList).run prog (u.alloc (.cells zeroCells264 264))=.ok () (u.alloc (.cells (intsN 1000 (gainI L.ps)) 264)):=fun u=>by
  have h:=store_row (P:=prog) (u.alloc (.cells zeroCells264 264)) u.heap.size 264 zeroCells264 (intsN 1000 (gainI L.ps)) (World.alloc_heap_new u _) (by rw [zero_ints,intsN_size,intsN_size]) hone
  rw [World.setRow_alloc_new] at h
  exact h
 have HB:=hid ((Boxed.new w 185 (.pointer (some ⟨b,0,none⟩))).alloc (.cells #[.bool false] 4))
 have HB2:=hid (Boxed.new (w.alloc (.cells #[.pointer (some ⟨b,0,none⟩)] 185)) 4 (.bool false))
 have Hs:=hid (show ((w.alloc (.cells #[.pointer (some ⟨b,0,none⟩)] 185)).alloc (.cells #[.bool false] 4)).heap.size=w.heap.size+2 by simp)
 have Hb1:=hid hb1
 clear hb1 hone
 refine calls_marks func139 rfl ?_
 simp only [ntmps139,List.size_toArray,List.length_cons,List.length_nil,Nat.reduceAdd,Nat.reduceSub,Array.replicate_succ,Array.replicate_zero,List.push_toArray,List.append_toArray,List.nil_append,List.cons_append]
 go_wp2_with fail
 refine HGa.out.mono ?_
 clear HGa
 rintro e w2 ⟨rfl,hb2⟩
 have hb1:=Hb1.out
 have hbx:=HB.out
 have hbr:=HB2.out
 have hs:=Hs.out
 have hsa:(w.alloc (.cells #[.pointer (some ⟨b,0,none⟩)] 185)).heap.size=w.heap.size+1:=by simp
 rw [hsa] at hbr
 clear Hb1 HB Hs HB2 hsa
 generalize (w.alloc (.cells #[.pointer (some ⟨b,0,none⟩)] 185)).alloc (.cells #[.bool false] 4)=w1 at *
 have h2:=hb2.size
 have hb3:Below w1.heap.size w1 (w2.alloc (.cells (intsN 1000 (gainI L.ps)) 264)):=hb2.alloc h2 _
 have hc0:=(boxed_below hbx hb3).cell
 have hst2:=hst w2
 clear hst
 go_wp2_with fail
 have hr3:=RecAt.new w2 (intsN 1000 (gainI L.ps)) 264
 have hG3:w.heap.size+2<=w2.heap.size:=by omega
 have hs3:(w2.alloc (.cells (intsN 1000 (gainI L.ps)) 264)).heap.size=w2.heap.size+1:=by simp
 clear hst2 hc0
 generalize w2.alloc (.cells (intsN 1000 (gainI L.ps)) 264)=w3 at *
 generalize w2.heap.size=G at *
 have hB3:Below w.heap.size w w3:=hb1.trans (hb3.mono hb1.size)
 refine (HTu.out w3 hB3).mono ?_
 clear HTu
 rintro e w4 ⟨bx,rfl,hG,hb4⟩
 have h4:=hb4.size
 have hbx4:=boxed_below (boxed_below hbx hb3) hb4
 have hbr4:=boxed_below (boxed_below hbr hb3) hb4
 have hr4:=hr3.on hb4
 have hB4:Below w.heap.size w w4:=hB3.trans (hb4.mono hB3.size)
 have hfit:=hT.fit
 have htk:=hT.toks
 have hfew:L.ps.length<7000:=by have:=hT.few;rw [Led.len] at this;omega
 clear hb3 hb1 hbx hbr hr3 hb2
 go_wp2_with fail
 refine (wpIn_wide (n:=0)).1 ?_
 refine rangeM_law (gf:=196) (lb:=#[.pointer (some ⟨bx,0,none⟩)]) rfl (enters_of func196 (by kernel_rfl) rfl) (hG (fun _=>False) w4 (fun k=>k=w.heap.size+1) (Keeps.refl _ _) (fun _ h=>h.elim) (fun k h=>by omega)) (Below.refl _ _) (fun k h=>by omega) (fun _=>rfl)
  (fun _ pre V=>pre <+: L.ts/\pre.all (goodT L)=true/\Boxed V w.heap.size 185 (.pointer (some ⟨b,0,none⟩))/\Boxed V (w.heap.size+1) 4 (.bool false)/\RecAt V G (intsN 1000 (gainI L.ps)) 264/\Below w.heap.size w V)
  (fun _ c pre V=>c=.ret/\L.ts.all (goodT L)=false/\Boxed V (w.heap.size+1) 4 (.bool false)/\Below w.heap.size w V)
  (fun _ s A B row hs hg hr=>by
   obtain ⟨h1,h2,h3,h4,h5,h6⟩:=hs
   exact ⟨h1,h2,own_boxed h3 hg hr,own_boxed h4 hg hr,own_recAt h5 hg hr,own_below h6 nlr hB4.size hg hr⟩)
  (fun _ c s A B row hs hg hr=>by
   obtain ⟨h1,h2,h3,h4⟩:=hs
   exact ⟨h1,h2,own_boxed h3 hg hr,own_below h4 nlr hB4.size hg hr⟩)
  (fun _ _=>⟨List.nil_prefix,rfl,hbx4,hbr4,hr4,hB4⟩)
  (fun x a' V=>∃ r,RecBox V r x.2.cells/\a'={ tmps:=#[.pointer (some ⟨b,0,none⟩),.pointer (some ⟨w.heap.size,0,none⟩),.pointer (some ⟨w.heap.size+1,0,none⟩),.pointer (some ⟨G,0,none⟩),.int .i64 x.1,.pointer (some ⟨r,0,none⟩),.pointer (some ⟨b,0,none⟩),.agg (intsN 1000 (gainI L.ps)),.pointer (some ⟨b,0,none⟩),.func (.func 196) #[] #[.pointer (some ⟨bx,0,none⟩)],.int .i64 x.1,x.2.val,undef,undef,undef,undef,undef,undef,undef,undef,undef,undef,undef,undef,undef,undef,undef,undef,undef,undef,undef,undef,undef,undef,undef,undef,undef,undef,undef,undef,undef,undef],defers:=[] })
  (fun x a' _ A B row hs hg hr=>by
   obtain ⟨b,h2,h3⟩:=hs
   exact ⟨b,own_recBox h2 hg hr,h3⟩) ?assign ?body ?done ?stop
 case assign =>
  intro y M pre x V K hM1 hM2 _ hi hK
  simp only [encT,PT.val,PT.cells,pl]
  gi_wp2
  have hbV:Below V.heap.size V (V.alloc (.cells #[.complex .f64 (fl x.2.x) (fl x.2.y),.int .i64 x.2.box,.int .i64 x.2.donor,.int .i64 x.2.status,.int .i64 x.2.thaws,.int .i64 x.2.began,.int .i64 x.2.left,.int .i64 x.2.used,.int .i64 x.2.lost] 216)):=bal
  obtain ⟨i1,i2,i3,i4,i5,i6⟩:=hi
  exact hK _ _ ((Keeps.refl _ V).below hbV nlr) ⟨i1,i2,boxed_below i3 hbV,boxed_below i4 hbV,i5.on hbV,i6.trans (hbV.mono i6.size)⟩ ⟨V.heap.size,World.alloc_heap_new V _,rfl⟩
 case body =>
  rintro y M pre x a' V hy1 hy2 hM1 hM2 hp ⟨hpre,hall,hbox,hres,hrG,hbel⟩ ⟨r,hr,rfl⟩
  have hxm:x∈L.ts:=hp.subset (by simp)
  have hxo:=(htk x hxm).1
  have hx1:=hfit.t1 x hxm
  have HBad0:=hid (fun (h:goodT L x=false)=>show L.ts.all (goodT L)=false by rw [List.all_eq_false];exact ⟨x,hxm,by simp [h]⟩)
  have HGd:=hid (show goodT L x=(x.2.recS&&(!decide (x.2.status=1)||ownP L x.1 x.2)&&decide ((x.2.began:Int)+gainI L.ps x.1=(x.2.left:Int)+x.2.used+x.2.lost)) from rfl)
  have HTS:=hid (tubeSound_any x.2 hxo V)
  have HOw:=hid (fun u (hu:Below w.heap.size w u)=>ownPlace_any n₀ b x.1 x.2 hxo L u (hT.below hu))
  have hg1 : -117440512000<=gainI L.ps x.1/\gainI L.ps x.1<=117440512000:=by have:=gain_lt L.ps (fun p hp2=>(hfit.p1 p hp2).2.2.2) x.1;unfold gainI;omega
  have hv1:=hxo.began
  have hv2:=hxo.left
  have hv3:=hxo.used
  have hv4:=hxo.lost
  have hw1:IntKind.i64.wrap ((x.2.began:Int)+gainI L.ps x.1)=(x.2.began:Int)+gainI L.ps x.1:=wrapsI _ (by omega) (by omega)
  have hw2:IntKind.i64.wrap ((x.2.left:Int)+x.2.used)=(x.2.left:Int)+x.2.used:=wrapsI _ (by omega) (by omega)
  have hw3:IntKind.i64.wrap ((x.2.left:Int)+x.2.used+x.2.lost)=(x.2.left:Int)+x.2.used+x.2.lost:=wrapsI _ (by omega) (by omega)
  have HW:=hid (And.intro hw1 (And.intro hw2 hw3))
  clear hw1 hw2 hw3 hv1 hv2 hv3 hv4 hg1
  have hrl:=hr.lt
  simp only [PT.cells,pl] at hr
  have d0:V.cell? ⟨r,0,none⟩=some (.complex .f64 (fl x.2.x) (fl x.2.y)):=hr.cell 0
  have d1:V.cell? ⟨r,1,none⟩=some (.int .i64 x.2.box):=hr.cell 1
  have d2:V.cell? ⟨r,2,none⟩=some (.int .i64 x.2.donor):=hr.cell 2
  have d3:V.cell? ⟨r,3,none⟩=some (.int .i64 x.2.status):=hr.cell 3
  have d4:V.cell? ⟨r,4,none⟩=some (.int .i64 x.2.thaws):=hr.cell 4
  have d5:V.cell? ⟨r,5,none⟩=some (.int .i64 x.2.began):=hr.cell 5
  have d6:V.cell? ⟨r,6,none⟩=some (.int .i64 x.2.left):=hr.cell 6
  have d7:V.cell? ⟨r,7,none⟩=some (.int .i64 x.2.used):=hr.cell 7
  have d8:V.cell? ⟨r,8,none⟩=some (.int .i64 x.2.lost):=hr.cell 8
  simp only [PT.val,PT.cells,pl] at HTS HOw ⊢
  have D0:=hid d0
  have D1:=hid d1
  have D2:=hid d2
  have D3:=hid d3
  have D4:=hid d4
  have D5:=hid d5
  have D6:=hid d6
  have D7:=hid d7
  have D8:=hid d8
  gi_wp2
  refine ⟨trivial,rfl,(CallsIn.inRound _ (callsIn_wide.2 HTS.out)).mono ?_⟩
  clear HTS d0 d1 d2 d3 d4 d5 d6 d7 d8
  rintro e V1 ⟨rfl,hbK⟩
  cases hrec:x.2.recS with
  | false =>
   have HBad:=hid (HBad0.out (by rw [HGd.out,hrec];rfl))
   have hu:undef=Value.tuple #[]:=rfl
   have hc3:=(boxed_below hres hbK).cell
   have hf3:=(boxed_below hres hbK).frozen
   gi_wp2
   repeat (refine And.intro trivial ?_;gi_wp2)
   refine ⟨((Keeps.refl (fun k=>k=w.heap.size+1\/M<=k) V).below hbK nlr).setCell (p:=⟨w.heap.size+1,0,none⟩) (.inl (.inl rfl)) _,rfl,HBad.out,(boxed_below hres hbK).set _,(hbel.trans (hbK.mono hbel.size)).setCell (p:=⟨w.heap.size+1,0,none⟩) (by show w.heap.size<=w.heap.size+1;omega) _⟩
  | true =>
   have hc2:=(boxed_below hbox hbK).cell
   have d0:=(hbK.cell (p:=⟨r,0,none⟩) hrl).trans D0.out
   have d1:=(hbK.cell (p:=⟨r,1,none⟩) hrl).trans D1.out
   have d2:=(hbK.cell (p:=⟨r,2,none⟩) hrl).trans D2.out
   have d3:=(hbK.cell (p:=⟨r,3,none⟩) hrl).trans D3.out
   have d4:=(hbK.cell (p:=⟨r,4,none⟩) hrl).trans D4.out
   have d5:=(hbK.cell (p:=⟨r,5,none⟩) hrl).trans D5.out
   have d6:=(hbK.cell (p:=⟨r,6,none⟩) hrl).trans D6.out
   have d7:=(hbK.cell (p:=⟨r,7,none⟩) hrl).trans D7.out
   have d8:=(hbK.cell (p:=⟨r,8,none⟩) hrl).trans D8.out
   by_cases hst:x.2.status=1
   ·have hsI:((x.2.status:Int) == 1)=true:=by rw [beq_iff_eq];omega
    have HSt:=hid hst
    clear hst
    have HbK:=hid hbK
    clear hbK
    gi_wp2
    refine ⟨trivial,rfl,(CallsIn.inRound _ (callsIn_wide.2 (HOw.out V1 (hbel.trans (HbK.out.mono hbel.size))))).mono ?_⟩
    clear HOw d0 d1 d2 d3 d4 d5 d6 d7 d8 hc2
    rintro e U ⟨rfl,hb5⟩
    have hbK:=HbK.out.trans (hb5.mono HbK.out.size)
    clear HbK
    cases how:ownP L x.1 x.2 with
    | false =>
     have HBad:=hid (HBad0.out (by rw [HGd.out,hrec,how,decide_eq_true HSt.out];rfl))
     have hc3:=(boxed_below hres hbK).cell
     have hf3:=(boxed_below hres hbK).frozen
     gi_wp2
     refine ⟨((Keeps.refl (fun k=>k=w.heap.size+1\/M<=k) V).below hbK nlr).setCell (p:=⟨w.heap.size+1,0,none⟩) (.inl (.inl rfl)) _,rfl,HBad.out,(boxed_below hres hbK).set _,(hbel.trans (hbK.mono hbel.size)).setCell (p:=⟨w.heap.size+1,0,none⟩) (by show w.heap.size<=w.heap.size+1;omega) _⟩
    | true =>
     have HGd2:=hid (show goodT L x=decide ((x.2.began:Int)+gainI L.ps x.1=(x.2.left:Int)+x.2.used+x.2.lost) by rw [HGd.out,hrec,how,decide_eq_true HSt.out];rfl)
     have hc3:=(boxed_below hres hbK).cell
     have hf3:=(boxed_below hres hbK).frozen
     have d0:=(hbK.cell (p:=⟨r,0,none⟩) hrl).trans D0.out
     have d1:=(hbK.cell (p:=⟨r,1,none⟩) hrl).trans D1.out
     have d2:=(hbK.cell (p:=⟨r,2,none⟩) hrl).trans D2.out
     have d3:=(hbK.cell (p:=⟨r,3,none⟩) hrl).trans D3.out
     have d4:=(hbK.cell (p:=⟨r,4,none⟩) hrl).trans D4.out
     have d5:=(hbK.cell (p:=⟨r,5,none⟩) hrl).trans D5.out
     have d6:=(hbK.cell (p:=⟨r,6,none⟩) hrl).trans D6.out
     have d7:=(hbK.cell (p:=⟨r,7,none⟩) hrl).trans D7.out
     have d8:=(hbK.cell (p:=⟨r,8,none⟩) hrl).trans D8.out
     have hgc:U.cell? ⟨G,x.1,none⟩=some (.int .i64 (gainI L.ps x.1)):=((hrG.on hbK).cell x.1).trans (intsN_get (by omega))
     have i1:(x.1:Int)<1000:=by omega
     have HbK:=hid hbK
     clear hbK
     obtain ⟨hw1,hw2,hw3⟩:=HW.out
     gi_wp2
     have k5:=cell_regrown d5
     have k6:=cell_regrown d6
     have k7:=cell_regrown d7
     have k8:=cell_regrown d8
     have kg:=cell_regrown hgc
     clear d0 d1 d2 d3 d4 d5 d6 d7 d8 hgc
     refine wpIn_region_then (C:=fun w'=>∃ p:Regrown,w'=grow (redrawn U p.d) p.os) 15 Tryz.mixed ⟨⟨U.drawn+1,#[]⟩,by rw [grow_empty];rfl⟩ (by decide) (by kernel_rfl) (by kernel_rfl) (by kernel_rfl) (by kernel_rfl) (by kernel_rfl) ?_
     simp only [List.take_succ_cons,List.take_zero]
     repeat (quiet_step (fail))
     refine wpQuiet_nil ?_
     intro _ hw'
     obtain ⟨⟨dq,osq⟩,hw''⟩:=hw'
     subst hw''
     have hbK:=HbK.out.trans ((below_regrown U dq osq).mono HbK.out.size)
     clear k5 k6 k7 k8 kg HbK
     simp only
     generalize grow (redrawn U dq) osq=W at *
     have hc3:=(boxed_below hres hbK).cell
     have hf3:=(boxed_below hres hbK).frozen
     simp only [List.drop_succ_cons,List.drop_zero]
     by_cases heq:(x.2.began:Int)+gainI L.ps x.1=(x.2.left:Int)+x.2.used+x.2.lost
     ·have hne:((x.2.began:Int)+gainI L.ps x.1 != (x.2.left:Int)+x.2.used+x.2.lost)=false:=by rw [bne_eq_false_iff_eq];exact heq
      have hgd:goodT L x=true:=by rw [HGd2.out];exact decide_eq_true heq
      have Hgd:=hid hgd
      clear heq hgd
      gi_wp2
      exact ⟨(Keeps.refl _ V).below hbK nlr,hp,by rw [List.all_append,hall];simp [Hgd.out],boxed_below hbox hbK,boxed_below hres hbK,hrG.on hbK,hbel.trans (hbK.mono hbel.size)⟩
     ·have hne:((x.2.began:Int)+gainI L.ps x.1 != (x.2.left:Int)+x.2.used+x.2.lost)=true:=by rw [bne_iff_ne];exact heq
      have HBad:=hid (HBad0.out (by rw [HGd2.out];exact decide_eq_false heq))
      clear heq
      gi_wp2
      refine ⟨((Keeps.refl (fun k=>k=w.heap.size+1\/M<=k) V).below hbK nlr).setCell (p:=⟨w.heap.size+1,0,none⟩) (.inl (.inl rfl)) _,rfl,HBad.out,(boxed_below hres hbK).set _,(hbel.trans (hbK.mono hbel.size)).setCell (p:=⟨w.heap.size+1,0,none⟩) (by show w.heap.size<=w.heap.size+1;omega) _⟩
   ·have hsI:((x.2.status:Int) == 1)=false:=by rw [beq_eq_false_iff_ne];omega
    have HGd2:=hid (show goodT L x=decide ((x.2.began:Int)+gainI L.ps x.1=(x.2.left:Int)+x.2.used+x.2.lost) by rw [HGd.out,hrec,decide_eq_false hst];rfl)
    have hgc:V1.cell? ⟨G,x.1,none⟩=some (.int .i64 (gainI L.ps x.1)):=((hrG.on hbK).cell x.1).trans (intsN_get (by omega))
    have i1:(x.1:Int)<1000:=by omega
    have HbK:=hid hbK
    clear hbK
    gi_wp2
    repeat (refine And.intro trivial ?_;gi_wp2)
    obtain ⟨hw1,hw2,hw3⟩:=HW.out
    have k5:=cell_regrown d5
    have k6:=cell_regrown d6
    have k7:=cell_regrown d7
    have k8:=cell_regrown d8
    have kg:=cell_regrown hgc
    clear d0 d1 d2 d3 d4 d5 d6 d7 d8 hgc
    refine wpIn_region_then (C:=fun w'=>∃ p:Regrown,w'=grow (redrawn V1 p.d) p.os) 15 Tryz.mixed ⟨⟨V1.drawn+1,#[]⟩,by rw [grow_empty];rfl⟩ (by decide) (by kernel_rfl) (by kernel_rfl) (by kernel_rfl) (by kernel_rfl) (by kernel_rfl) ?_
    simp only [List.take_succ_cons,List.take_zero]
    repeat (quiet_step (fail))
    refine wpQuiet_nil ?_
    intro _ hw'
    obtain ⟨⟨dq,osq⟩,hw''⟩:=hw'
    subst hw''
    have hbK:=HbK.out.trans ((below_regrown V1 dq osq).mono HbK.out.size)
    clear k5 k6 k7 k8 kg HbK
    simp only
    generalize grow (redrawn V1 dq) osq=W at *
    have hc3:=(boxed_below hres hbK).cell
    have hf3:=(boxed_below hres hbK).frozen
    simp only [List.drop_succ_cons,List.drop_zero]
    by_cases heq:(x.2.began:Int)+gainI L.ps x.1=(x.2.left:Int)+x.2.used+x.2.lost
    ·have hne:((x.2.began:Int)+gainI L.ps x.1 != (x.2.left:Int)+x.2.used+x.2.lost)=false:=by rw [bne_eq_false_iff_eq];exact heq
     have hgd:goodT L x=true:=by rw [HGd2.out];exact decide_eq_true heq
     have Hgd:=hid hgd
     clear heq hgd
     gi_wp2
     exact ⟨(Keeps.refl _ V).below hbK nlr,hp,by rw [List.all_append,hall];simp [Hgd.out],boxed_below hbox hbK,boxed_below hres hbK,hrG.on hbK,hbel.trans (hbK.mono hbel.size)⟩
    ·have hne:((x.2.began:Int)+gainI L.ps x.1 != (x.2.left:Int)+x.2.used+x.2.lost)=true:=by rw [bne_iff_ne];exact heq
     have HBad:=hid (HBad0.out (by rw [HGd2.out];exact decide_eq_false heq))
     clear heq
     gi_wp2
     refine ⟨((Keeps.refl (fun k=>k=w.heap.size+1\/M<=k) V).below hbK nlr).setCell (p:=⟨w.heap.size+1,0,none⟩) (.inl (.inl rfl)) _,rfl,HBad.out,(boxed_below hres hbK).set _,(hbel.trans (hbK.mono hbel.size)).setCell (p:=⟨w.heap.size+1,0,none⟩) (by show w.heap.size<=w.heap.size+1;omega) _⟩
 case done =>
  rintro M V hM ⟨hpre,hall,hbox,hres,hrG,hbel⟩ hD
  have hc3:=hres.cell
  have hf3:=hres.frozen
  go_wp2_with fail
  have hD':(V.setCell ⟨w.heap.size+1,0,none⟩ (.bool true)).heap[w4.heap.size]? = some (.deferred (some [])):=(((Keeps.refl (fun k=>k=w.heap.size+1) V).setCell (p:=⟨w.heap.size+1,0,none⟩) (.inl rfl) _).block w4.heap.size (Array.getElem?_eq_some_iff.1 hD).1 (by omega)).trans hD
  rw [hall]
  exact tubes_end hD' (hres.set (.bool true)) (hbel.setCell (p:=⟨w.heap.size+1,0,none⟩) (by show w.heap.size<=w.heap.size+1;omega) (.bool true)) (by omega)
 case stop =>
  rintro M c pre V hM hp ⟨rfl,hno,hres,hbel⟩ hD
  refine (wpIn_wide (n:=0)).2 ?_
  go_wp2_with fail
  rw [hno]
  exact tubes_end hD hres hbel (by omega)
end
section
open Go.RowKit Go.Shelf
def Led.soundB (L:Led):Bool:=L.bs.all goodB&&L.ps.all (goodP L)&&L.ts.all (goodT L)
theorem isSound_any (n₀ b:Nat) (L:Led) (w:World) (hT:TxF n₀ w b L) :
  Calls prog 86 #[.pointer (some ⟨b,0,none⟩)] w fun e w'=>e=.returned (.bool L.soundB)/\Below w.heap.size w w':=by
 have H1:=hid (boxesSound_any n₀ b L w hT)
 have H2:=hid (fun u (hu:Below w.heap.size w u)=>pairsSound_any n₀ b L u (hT.below hu))
 have H3:=hid (fun u (hu:Below w.heap.size w u)=>tubesSound_any n₀ b L u (hT.below hu))
 have HE:=hid (show L.soundB=(L.bs.all goodB&&L.ps.all (goodP L)&&L.ts.all (goodT L)) from rfl)
 go_enter func86,ntmps86
 generalize L.bs.all goodB=b1 at *
 generalize L.ps.all (goodP L)=b2 at *
 generalize L.ts.all (goodT L)=b3 at *
 go_wp2_with fail
 refine H1.out.mono ?_
 clear H1
 rintro e w1 ⟨rfl,hb1⟩
 cases b1 with
 | false =>
  go_wp2
  go_ret
  rw [HE.out]
  exact ⟨rfl,hb1⟩
 | true =>
  go_wp2_with fail
  refine (H2.out w1 hb1).mono ?_
  clear H2
  rintro e w2 ⟨rfl,hb2⟩
  have hB2:=hb1.trans (hb2.mono hb1.size)
  cases b2 with
  | false =>
   go_wp2
   go_ret
   rw [HE.out]
   exact ⟨rfl,hB2⟩
  | true =>
   go_wp2_with fail
   refine (H3.out w2 hB2).mono ?_
   clear H3
   rintro e w3 ⟨rfl,hb3⟩
   go_wp2
   go_ret
   rw [HE.out]
   exact ⟨by cases b3 <;> rfl,hB2.trans (hb3.mono hB2.size)⟩
def BooksEnds (s:ByteArray) (lim:Nat) (w:World) (e:Ending) (w':World):Prop :=
 Below w.heap.size w w'/\((∃ (L:Led) (r:Option Addr),L.Fit/\readR s.data.toList []=some L.kvs/\L.kvs.length<=lim/\L.soundB=true/\e=.returned (.tuple #[.agg #[.pointer r,.int .i64 L.kvs.length,.int .i64 lim],.bool true])/\TreeIs w'.heap.size w' r L.kvs) \/
  ((readR s.data.toList []=none\/∃ L:Led,L.Fit/\readR s.data.toList []=some L.kvs/\¬ (L.kvs.length<=lim/\L.soundB=true))/\e=.returned (.tuple #[.agg #[.pointer none,.int .i64 0,.int .i64 0],.bool false])))
theorem b_set {W:World} {b:Nat} {t:TypeId} {x y z x' y' z':Value} (h:RecAt W b #[x,y,z] t) :
  RecAt (((W.setCell ⟨b,0,none⟩ x').setCell ⟨b,1,none⟩ y').setCell ⟨b,2,none⟩ z') b #[x',y',z'] t:=((h.set 0 x').set 1 y').set 2 z'
theorem b_noNode {W:World} {b:Nat} {t:TypeId} {r:Option Addr} {y z:Int} (h:RecAt W b #[.pointer r,.int .i64 y,.int .i64 z] t):NoNode W b:=by
 refine ⟨fun s k c e => ?_,fun o k e => ?_⟩
 ·rw [h.cell 0] at e;cases e
 ·rw [h.cell o] at e
  match o,e with
  | 0,e=>cases e
  | 1,e=>cases e
  | 2,e=>cases e
  | o+3,e=>simp at e
theorem b_tree {W:World} {b n₀:Nat} {t:TypeId} {r0 r:Option Addr} {y0 z0 y z:Int} {l:List KV} (h:RecAt W b #[.pointer r0,.int .i64 y0,.int .i64 z0] t) (hT:TreeIs n₀ W r l) :
  TreeIs (((W.setCell ⟨b,0,none⟩ (.pointer r)).setCell ⟨b,1,none⟩ (.int .i64 y)).setCell ⟨b,2,none⟩ (.int .i64 z)).heap.size (((W.setCell ⟨b,0,none⟩ (.pointer r)).setCell ⟨b,1,none⟩ (.int .i64 y)).setCell ⟨b,2,none⟩ (.int .i64 z)) r l:=by
 have h1:=hT.setNo (b_noNode h) 0 (.pointer r)
 have h2:=h1.setNo (b_noNode (r:=r) (y:=y0) (z:=z0) (h.set 0 (.pointer r))) 1 (.int .i64 y)
 have h3:=h2.setNo (b_noNode (r:=r) (y:=y) (z:=z0) ((h.set 0 (.pointer r)).set 1 (.int .i64 y))) 2 (.int .i64 z)
 exact h3.mono h3.2.1 nlr
theorem none_fit:Led.Fit ⟨[],[],[]⟩:=⟨.nil,.nil,.nil,(fun _ h=>by cases h),(fun _ h=>by cases h),(fun _ h=>by cases h)⟩
theorem read_any (s:ByteArray) (hs:s.size<=20000) (lim:Nat) (hlim:lim<=1000) (w:World) :
  Calls prog 48 #[.string s,.int .i64 lim] w (BooksEnds s lim w):=by
 have hb1:Below w.heap.size w (w.alloc (.cells #[.pointer none,.int .i64 0,.int .i64 0] 111)):=bal
 have hR1:=RecAt.new w #[.pointer none,.int .i64 0,.int .i64 0] 111
 have HRd:=hid (readRecords_any s hs (w.alloc (.cells #[.pointer none,.int .i64 0,.int .i64 0] 111)))
 have HB1:=hid hb1
 have HR1:=hid hR1
 clear hb1 hR1
 go_enter func48,ntmps48
 go_wp2_with fail
 refine HRd.out.mono ?_
 clear HRd
 rintro e w2 ⟨hb2,hcase⟩
 have hR2:=HR1.out.on hb2
 have hB2:=HB1.out.trans (hb2.mono HB1.out.size)
 clear HB1 HR1
 have hlI:(lim:Int)<=1000:=by omega
 rcases hcase with ⟨l,r,hrd,hlen,rfl,hT2⟩ | ⟨hrd,rfl⟩
 ·obtain ⟨L,hF,rfl⟩:=readR_fit s.data.toList ⟨[],[],[]⟩ l none_fit hrd
  have hb3:Below w2.heap.size w2 (w2.alloc (.cells #[.pointer r,.int .i64 L.kvs.length] 147)):=bal
  have hR3:=hR2.on hb3
  have hB3:=hB2.trans (hb3.mono hB2.size)
  have hN3:=RecAt.new w2 #[.pointer r,.int .i64 L.kvs.length] 147
  have hT3:TxF w2.heap.size (w2.alloc (.cells #[.pointer r,.int .i64 L.kvs.length] 147)) w2.heap.size L:=⟨⟨⟨r,hN3,hT2.below hb3⟩,by omega⟩,hF,hlen⟩
  have c0:(w2.alloc (.cells #[.pointer r,.int .i64 L.kvs.length] 147)).cell? ⟨w2.heap.size,0,none⟩=some (.pointer r):=hN3.cell 0
  have c1:(w2.alloc (.cells #[.pointer r,.int .i64 L.kvs.length] 147)).cell? ⟨w2.heap.size,1,none⟩=some (.int .i64 L.kvs.length):=hN3.cell 1
  have HN:=hid hN3
  have HR:=hid hR3
  have HB:=hid hB3
  have HT:=hid hT3
  have HF:=hid (And.intro hF hrd)
  have HLn:=hid (fun u=>len_any r L.kvs.length u)
  have hlenI:(L.kvs.length:Int)<7000:=by omega
  clear hb3 hR3 hB3 hN3 hT3 hR2 hB2 hb2 hT2 hF hrd c0 c1 hlen
  go_wp2_with fail
  have HN1:=HN.out
  have HR1:=HR.out
  have HB1:=HB.out
  have HT1:=HT.out
  clear HN HR HB HT
  generalize hW:w2.alloc (.cells #[.pointer r,.int .i64 L.kvs.length] 147)=W1 at *
  clear hW
  refine (HLn.out W1).mono ?_
  clear HLn
  rintro e w4 ⟨rfl,hb4⟩
  have HT4:=hid (HT1.below hb4)
  have hR4:=HR1.on hb4
  have hB4:=HB1.trans (hb4.mono HB1.size)
  have hN4:=HN1.on hb4
  clear HT1 HR1 HB1 HN1 hb4
  by_cases hfull:lim<L.kvs.length
  ·have hfI:(lim:Int)<(L.kvs.length:Int):=by omega
   have HNo:=hid (show ¬ (L.kvs.length<=lim/\L.soundB=true) by intro h;omega)
   have hu:undef=Value.tuple #[]:=rfl
   have d0:w4.cell? ⟨w.heap.size,0,none⟩=some (.pointer none):=hR4.cell 0
   have d1:w4.cell? ⟨w.heap.size,1,none⟩=some (.int .i64 0):=hR4.cell 1
   have d2:w4.cell? ⟨w.heap.size,2,none⟩=some (.int .i64 0):=hR4.cell 2
   have f0:=hR4.fz 0
   have f1:=hR4.fz 1
   have f2:=hR4.fz 2
   have E0:=hid ((b_set (x':=.pointer none) (y':=.int .i64 0) (z':=.int .i64 0) hR4).cell 0)
   have E1:=hid ((b_set (x':=.pointer none) (y':=.int .i64 0) (z':=.int .i64 0) hR4).cell 1)
   have E2:=hid ((b_set (x':=.pointer none) (y':=.int .i64 0) (z':=.int .i64 0) hR4).cell 2)
   have HBF:=hid (((hB4.setCell (p:=⟨w.heap.size,0,none⟩) nlr (.pointer none)).setCell (p:=⟨w.heap.size,1,none⟩) nlr (.int .i64 0)).setCell (p:=⟨w.heap.size,2,none⟩) nlr (.int .i64 0))
   go_wp2
   exact bodyPost_ret (v:=.tuple #[.agg #[.pointer none,.int .i64 0,.int .i64 0],.bool false]) (by have a0:=E0.out;have a1:=E1.out;have a2:=E2.out;simp [results,results48,go_sem,a0,a1,a2]) rfl ⟨HBF.out,.inr ⟨.inr ⟨L,HF.out.1,HF.out.2,HNo.out⟩,rfl⟩⟩
  ·have hfI:¬ ((lim:Int)<(L.kvs.length:Int)):=by omega
   have HS:=hid (isSound_any _ _ L w4 HT4.out)
   have HR4:=hid hR4
   have HB4:=hid hB4
   have HN4:=hid hN4
   clear hR4 hB4 hN4
   go_wp2_with fail
   refine HS.out.mono ?_
   clear HS
   rintro e w5 ⟨rfl,hb5⟩
   have hR5:=HR4.out.on hb5
   have hB5:=HB4.out.trans (hb5.mono HB4.out.size)
   have hN5:=HN4.out.on hb5
   have hT5:=HT4.out.below hb5
   clear HR4 HB4 HN4 HT4 hb5
   cases hsd:L.soundB with
   | false =>
    have HNo:=hid (show ¬ (L.kvs.length<=lim/\L.soundB=true) by rw [hsd];intro h;cases h.2)
    have d0:w5.cell? ⟨w.heap.size,0,none⟩=some (.pointer none):=hR5.cell 0
    have d1:w5.cell? ⟨w.heap.size,1,none⟩=some (.int .i64 0):=hR5.cell 1
    have d2:w5.cell? ⟨w.heap.size,2,none⟩=some (.int .i64 0):=hR5.cell 2
    have f0:=hR5.fz 0
    have f1:=hR5.fz 1
    have f2:=hR5.fz 2
    have E0:=hid ((b_set (x':=.pointer none) (y':=.int .i64 0) (z':=.int .i64 0) hR5).cell 0)
    have E1:=hid ((b_set (x':=.pointer none) (y':=.int .i64 0) (z':=.int .i64 0) hR5).cell 1)
    have E2:=hid ((b_set (x':=.pointer none) (y':=.int .i64 0) (z':=.int .i64 0) hR5).cell 2)
    have HBF:=hid (((hB5.setCell (p:=⟨w.heap.size,0,none⟩) nlr (.pointer none)).setCell (p:=⟨w.heap.size,1,none⟩) nlr (.int .i64 0)).setCell (p:=⟨w.heap.size,2,none⟩) nlr (.int .i64 0))
    go_wp2
    exact bodyPost_ret (v:=.tuple #[.agg #[.pointer none,.int .i64 0,.int .i64 0],.bool false]) (by have a0:=E0.out;have a1:=E1.out;have a2:=E2.out;simp [results,results48,go_sem,a0,a1,a2]) rfl ⟨HBF.out,.inr ⟨.inr ⟨L,HF.out.1,HF.out.2,HNo.out⟩,rfl⟩⟩
   | true =>
    have g0:w5.cell? ⟨w2.heap.size,0,none⟩=some (.pointer r):=hN5.cell 0
    have g1:w5.cell? ⟨w2.heap.size,1,none⟩=some (.int .i64 L.kvs.length):=hN5.cell 1
    have d0:w5.cell? ⟨w.heap.size,0,none⟩=some (.pointer none):=hR5.cell 0
    have d1:w5.cell? ⟨w.heap.size,1,none⟩=some (.int .i64 0):=hR5.cell 1
    have d2:w5.cell? ⟨w.heap.size,2,none⟩=some (.int .i64 0):=hR5.cell 2
    have f0:=hR5.fz 0
    have f1:=hR5.fz 1
    have f2:=hR5.fz 2
    have htree:TreeIs w2.heap.size w5 r L.kvs:=by
     obtain ⟨⟨r',hbx,ht⟩,_⟩:=hT5.tx
     have:r'=r:=by
      have h0:w5.cell? ⟨w2.heap.size,0,none⟩=some (.pointer r'):=hbx.c0
      rw [g0] at h0;cases h0;rfl
     rw [<- this];exact ht
    have E0:=hid ((b_set (x':=.pointer r) (y':=.int .i64 L.kvs.length) (z':=.int .i64 lim) hR5).cell 0)
    have E1:=hid ((b_set (x':=.pointer r) (y':=.int .i64 L.kvs.length) (z':=.int .i64 lim) hR5).cell 1)
    have E2:=hid ((b_set (x':=.pointer r) (y':=.int .i64 L.kvs.length) (z':=.int .i64 lim) hR5).cell 2)
    have HTr:=hid (b_tree (y:=(L.kvs.length:Int)) (z:=(lim:Int)) hR5 htree)
    have HBF:=hid (((hB5.setCell (p:=⟨w.heap.size,0,none⟩) nlr (.pointer r)).setCell (p:=⟨w.heap.size,1,none⟩) nlr (.int .i64 L.kvs.length)).setCell (p:=⟨w.heap.size,2,none⟩) nlr (.int .i64 lim))
    have HSd:=hid hsd
    clear hT5 hsd htree
    go_wp2
    exact bodyPost_ret (v:=.tuple #[.agg #[.pointer r,.int .i64 L.kvs.length,.int .i64 lim],.bool true]) (by have a0:=E0.out;have a1:=E1.out;have a2:=E2.out;simp [results,results48,go_sem,a0,a1,a2]) rfl ⟨HBF.out,.inl ⟨L,r,HF.out.1,HF.out.2,by omega,HSd.out,rfl,HTr.out⟩⟩
 ·have hb3:Below w2.heap.size w2 (w2.alloc (.cells #[.pointer none,.int .i64 0] 147)):=bal
  have hR3:=hR2.on hb3
  have hB3:=hB2.trans (hb3.mono hB2.size)
  have HRd:=hid hrd
  clear hb3 hR2 hB2 hb2 hrd
  have hu:undef=Value.tuple #[]:=rfl
  go_upto_region 2 with fail
  generalize w2.alloc (.cells #[.pointer none,.int .i64 0] 147)=W1 at *
  have d0:W1.cell? ⟨w.heap.size,0,none⟩=some (.pointer none):=hR3.cell 0
  have d1:W1.cell? ⟨w.heap.size,1,none⟩=some (.int .i64 0):=hR3.cell 1
  have d2:W1.cell? ⟨w.heap.size,2,none⟩=some (.int .i64 0):=hR3.cell 2
  have f0:=hR3.fz 0
  have f1:=hR3.fz 1
  have f2:=hR3.fz 2
  have E0:=hid ((b_set (x':=.pointer none) (y':=.int .i64 0) (z':=.int .i64 0) hR3).cell 0)
  have E1:=hid ((b_set (x':=.pointer none) (y':=.int .i64 0) (z':=.int .i64 0) hR3).cell 1)
  have E2:=hid ((b_set (x':=.pointer none) (y':=.int .i64 0) (z':=.int .i64 0) hR3).cell 2)
  have HBF:=hid (((hB3.setCell (p:=⟨w.heap.size,0,none⟩) nlr (.pointer none)).setCell (p:=⟨w.heap.size,1,none⟩) nlr (.int .i64 0)).setCell (p:=⟨w.heap.size,2,none⟩) nlr (.int .i64 0))
  go_wp2
  exact bodyPost_ret (v:=.tuple #[.agg #[.pointer none,.int .i64 0,.int .i64 0],.bool false]) (by have a0:=E0.out;have a1:=E1.out;have a2:=E2.out;simp [results,results48,go_sem,a0,a1,a2]) rfl ⟨HBF.out,.inr ⟨.inl HRd.out,rfl⟩⟩
end
section
theorem map_inj_on {α β:Type} {f:α->β}:∀ {l m:List α},l.map f=m.map f->(∀ a∈l,∀ b∈m,f a=f b->a=b)->l=m
 | [],[],_,_=>rfl
 | [],_::_,h,_=>by cases h
 | _::_,[],h,_=>by cases h
 | a::l,b::m,h,hi=>by
  simp only [List.map_cons,List.cons.injEq] at h
  rw [hi a (List.mem_cons_self ..) b (List.mem_cons_self ..) h.1,map_inj_on h.2 (fun x hx y hy=>hi x (List.mem_cons_of_mem _ hx) y (List.mem_cons_of_mem _ hy))]
theorem byte_inj {a b:Nat} (ha:a<256) (hb:b<256) (h:UInt8.ofNat a=UInt8.ofNat b):a=b:=by
 have:=congrArg UInt8.toNat h
 rw [ofNat_lt ha,ofNat_lt hb] at this;exact this
theorem bytes_of {a b:List UInt8} (h:(⟨a.toArray⟩:ByteArray)=⟨b.toArray⟩):a=b:=by
 have:=congrArg (fun s:ByteArray=>s.data.toList) h
 simpa using this
theorem vol_inj {a b:Nat} (ha:a<16777216) (hb:b<16777216) (h:vol a=vol b):a=b:=by
 have:=congrArg (fun l=>volN l 0) h
 simp only [volN_vol ha,volN_vol hb] at this;exact this
theorem kvs_inj {L M:Led} (hL:L.Fit) (hM:M.Fit) (h:L.kvs=M.kvs):L=M:=by
 have h1:L.bs.map kvB=M.bs.map kvB:=by rw [<- Led.sel_bsF hL,<- Led.sel_bsF hM,h]
 have h2:L.ts.map kvT=M.ts.map kvT:=by rw [<- Led.sel_tsF hL,<- Led.sel_tsF hM,h]
 have h3:L.ps.map kvP=M.ps.map kvP:=by rw [<- Led.sel_psF hL,<- Led.sel_psF hM,h]
 have e1:=map_inj_on h1 (fun a ha b hb e=>by
  obtain ⟨a1,a2⟩:=a
  obtain ⟨b1,b2⟩:=b
  have ka:=hL.b1 _ ha;have kb:=hM.b1 _ hb
  simp only [kvB,boxK,Prod.mk.injEq] at e ka kb ⊢
  refine ⟨by omega,byte_inj ka.2.2 kb.2.2 ?_⟩
  have:=bytes_of (a:=[UInt8.ofNat a2]) (b:=[UInt8.ofNat b2]) e.2
  simpa using this)
 have e2:=map_inj_on h2 (fun a ha b hb e=>by
  obtain ⟨a1,a2⟩:=a
  obtain ⟨b1,b2⟩:=b
  have ka:=hL.t1 _ ha;have kb:=hM.t1 _ hb
  simp only [kvT,tubeK,Prod.mk.injEq] at e ka kb ⊢
  refine ⟨by omega,?_⟩
  have ht:=bytes_of e.2
  obtain ⟨_,_,ka⟩:=ka
  obtain ⟨_,_,kb⟩:=kb
  obtain ⟨x,y,bx,dn,st,th,bg,lf,us,lo⟩:=a2
  obtain ⟨x',y',bx',dn',st',th',bg',lf',us',lo'⟩:=b2
  obtain ⟨p1,p2,p3,p4,p5,p6,p7,p8,p9,p10⟩:=ka
  obtain ⟨q1,q2,q3,q4,q5,q6,q7,q8,q9,q10⟩:=kb
  simp only at p1 p2 p3 p4 p5 p6 p7 p8 p9 p10 q1 q2 q3 q4 q5 q6 q7 q8 q9 q10
  have t6:=congrArg (List.take 6) ht
  have v1:=congrArg (fun l=>(l.drop 6).take 3) ht
  have v2:=congrArg (fun l=>(l.drop 9).take 3) ht
  have v3:=congrArg (fun l=>(l.drop 12).take 3) ht
  have v4:=congrArg (fun l=>(l.drop 15).take 3) ht
  have g1:vol bg=vol bg':=v1
  have g2:vol lf=vol lf':=v2
  have g3:vol us=vol us':=v3
  have g4:vol lo=vol lo':=v4
  have g0:[UInt8.ofNat dn,UInt8.ofNat st,UInt8.ofNat th,UInt8.ofNat bx,UInt8.ofNat x,UInt8.ofNat y]=[UInt8.ofNat dn',UInt8.ofNat st',UInt8.ofNat th',UInt8.ofNat bx',UInt8.ofNat x',UInt8.ofNat y']:=t6
  simp only [List.cons.injEq,and_true] at g0
  obtain ⟨m1,m2,m3,m4,m5,m6⟩:=g0
  rw [byte_inj p4 q4 m1,byte_inj p5 q5 m2,byte_inj p6 q6 m3,byte_inj p3 q3 m4,byte_inj p1 q1 m5,byte_inj p2 q2 m6,vol_inj p7 q7 g1,vol_inj p8 q8 g2,vol_inj p9 q9 g3,vol_inj p10 q10 g4])
 have e3:=map_inj_on h3 (fun a ha b hb e=>by
  obtain ⟨a1,a2,a3⟩:=a
  obtain ⟨b1,b2,b3⟩:=b
  have ka:=hL.p1 _ ha;have kb:=hM.p1 _ hb
  simp only [kvP,pourK,Prod.mk.injEq] at e ka kb ⊢
  exact ⟨by omega,by omega,vol_inj ka.2.2.2 kb.2.2.2 (bytes_of e.2)⟩)
 obtain ⟨b1,t1,p1⟩:=L
 obtain ⟨b2,t2,p2⟩:=M
 simp only at e1 e2 e3
 rw [e1,e2,e3]
theorem sound_true {L:Led} (h:L.Sound):L.soundB=true:=by
 have hI:=h.inv
 have hO:=hI.ok
 unfold Led.soundB
 rw [Bool.and_eq_true,Bool.and_eq_true]
 refine ⟨⟨?_,?_⟩,?_⟩
 ·rw [List.all_eq_true]
  intro b hb
  have:=hO.b1 b hb
  unfold goodB
  rw [Bool.and_eq_true,decide_eq_true_eq,decide_eq_true_eq];omega
 ·rw [List.all_eq_true]
  intro p hp
  have h1:=hI.wired p hp
  have h2:=hO.p1 p hp
  unfold goodP
  rw [h1.1,h1.2,decide_eq_true (by omega:1<=p.2.2),decide_eq_true (by omega:p.2.2<=1000000)]
  rfl
 ·rw [List.all_eq_true]
  intro t ht
  have hg:=(hO.t1 t ht).2.2
  have htb:L.tube t.1=some t.2:=(Led.tube_mem hO).2 ht
  have hk:=h.kept.is t.1 t.2 htb
  have hd:=h.dead t.1 t.2 htb
  have hlo:=hI.lost t ht
  have hbo:=hI.box t ht
  have hni:=hI.nil t ht
  have hpl:=hI.place t ht
  have hst:=hg.status
  have hlim:t.2.lim:=⟨hg.donor.1,hg.donor.2,hg.thaws,hg.began,hg.left,hg.used,hg.lost⟩
  have hno:t.2.status≠1->t.2.noPl=true:=fun hs=>by
   have hb0:t.2.box=0:=by
    by_cases e:t.2.box=0
    ·exact e
    ·exact absurd (hbo.1 e) hs
   have:=hni hb0
   unfold PT.noPl
   rw [decide_eq_true hb0,decide_eq_true this.1,decide_eq_true this.2];rfl
  have hrec:t.2.recS=true:=by
   rw [PT.recS_ok hlim]
   by_cases s1:t.2.status=1
   ·rw [if_pos s1];exact decide_eq_true (hlo (by omega))
   ·by_cases s2:t.2.status=2
    ·rw [if_neg s1,if_pos s2,hno s1,decide_eq_true (hlo (by omega))];rfl
    ·have s3:t.2.status=3:=by omega
     rw [if_neg s1,if_neg s2,if_pos s3,hno s1,decide_eq_true (hd s3)];rfl
  have hown:t.2.status=1->ownP L t.1 t.2=true:=fun hs=>by
   have hb0:t.2.box≠0:=hbo.2 hs
   have hp:=hpl hb0
   unfold ownP
   rw [decide_eq_true hp.1,decide_eq_true hp.2]
   refine decide_eq_true ?_
   unfold occN
   cases hf:(L.ts.filter (inBox t.2.box)).find? (atPl t.2.x t.2.y) with
   | none =>
    exfalso
    have:=List.find?_eq_none.1 hf t (List.mem_filter.2 ⟨ht,by simp [inBox]⟩)
    simp [atPl] at this
   | some u =>
    have hm:=List.mem_of_find?_eq_some hf
    have hq:=List.find?_some hf
    have hu:=List.mem_filter.1 hm
    have hub:t.2.box=u.2.box:=by have:=hu.2;simp only [inBox,decide_eq_true_eq] at this;omega
    simp only [atPl,decide_eq_true_eq] at hq
    exact (hI.apart t ht u hu.1 hb0 hub hq.1.symm hq.2.symm).symm
  unfold goodT
  rw [hrec,Bool.true_and,Bool.and_eq_true]
  constructor
  ·by_cases s1:t.2.status=1
   ·rw [hown s1,Bool.or_true]
   ·rw [decide_eq_false s1];rfl
  ·refine decide_eq_true ?_
   unfold Led.Even at hk
   unfold gainI
   omega
end
section
open Go.RowKit Go.Shelf
def BooksIn (x:List UInt8) (lim:Nat) (L:Led):Prop:=L.Fit/\readR x []=some L.kvs/\L.kvs.length<=lim/\L.soundB=true
def OpenEnds (s:ByteArray) (w:World) (e:Ending) (w':World):Prop :=
 Below w.heap.size w w'/\((∃ (t:Nat) (x:List UInt8) (L:Led) (l:Nat) (r:Option Addr),findD s.data.toList=some (t,x)/\BooksIn x (s.size / 128 / 8) L/\e=.returned (.tuple #[.pointer (some ⟨l,0,none⟩),.slice none 0 0,.int .i64 0])/\w.heap.size<=l /\
   LedBox w' l (s.size / 128,t) r L.kvs.length (s.size / 128 / 8:Nat)/\TreeIs w'.heap.size w' r L.kvs) \/
  ((∀ t x L,findD s.data.toList=some (t,x)->¬ BooksIn x (s.size / 128 / 8) L)/\e=.returned (.tuple #[.pointer none,.slice none 0 0,.int .i64 2])))
theorem findD_bounds {l:List UInt8} {t:Nat} {x:List UInt8} (h:findD l=some (t,x)):l.length<=32768:=by
 unfold findD at h
 simp only at h
 split at h
 ·cases h
 ·omega
theorem findD_len {l:List UInt8} {t:Nat} {x:List UInt8} (h:findD l=some (t,x)):x.length<=20000:=by
 unfold findD at h
 simp only at h
 split at h
 ·cases h
 ·split at h
  ·cases h
  ·split at h
   ·cases h
   ·rename_i h1 h2 h3
    simp only [Option.some.injEq,Prod.mk.injEq] at h
    rw [<- h.2]
    have hc:∀ o k,(cutB l o k).length<=k:=fun o k=>by simp [cutB];omega
    refine Nat.le_trans (hc _ _) ?_
    omega
theorem open_any (s:ByteArray) (hs:s.size<=maxLen) (w:World):Calls prog 30 #[.string s] w (OpenEnds s w):=by
 have HF:=hid (dfind_any s hs w)
 unfold maxLen at hs
 go_enter func30,ntmps30
 go_wp2_with fail
 refine HF.out.mono ?_
 clear HF
 rintro e w1 ⟨hb1,hcase⟩
 rcases hcase with ⟨t,x,hfd,ht,hxl,rfl⟩ | ⟨hfd,rfl⟩
 ·have hlen:=findD_len hfd
  have hsz:s.size<=32768:=by have:=findD_bounds hfd;simpa using this
  have hszI:(s.size:Int)<=32768:=by omega
  have hb2:Below w1.heap.size w1 (w1.alloc (.cells #[.int .i64 (s.size / 128:Nat),.int .u64 t] 106)):=bal
  have hR2:=RecAt.new w1 #[.int .i64 (s.size / 128:Nat),.int .u64 t] 106
  have hB2:=hb1.trans (hb2.mono hb1.size)
  have q1:(s.size:Int) / 128=((s.size / 128:Nat):Int):=by omega
  have q2:((s.size / 128:Nat):Int) / 8=((s.size / 128 / 8:Nat):Int):=by omega
  have hn1:s.size / 128<=256:=by omega
  have hlm:s.size / 128 / 8<=32:=by omega
  have hnI:((s.size / 128:Nat):Int)<=256:=by omega
  have hlI:((s.size / 128 / 8:Nat):Int)<=32:=by omega
  have HRd:=hid (fun u=>read_any ⟨x.toArray⟩ (by show x.toArray.size<=20000;simpa using hlen) (s.size / 128 / 8) (by omega) u)
  have HFd:=hid hfd
  have HR2:=hid hR2
  have HB2:=hid hB2
  clear hb2 hR2 hB2 hfd hxl hlen hb1
  generalize hLE:s.size / 128 / 8=lim at *
  generalize hNE:s.size / 128=n at *
  have HLE:=hid hLE
  have HNE:=hid hNE
  clear hLE hNE
  go_wp2_with fail
  refine (HRd.out _).mono ?_
  clear HRd
  rintro e w3 ⟨hb3,hcase⟩
  have hR3:=HR2.out.on hb3
  have hB3:=HB2.out.trans (hb3.mono HB2.out.size)
  clear HR2 HB2 hb3
  rcases hcase with ⟨L,r,hF,hrd,hfew,hsd,rfl,hT3⟩ | ⟨hno,rfl⟩
  ·have hb4:Below w3.heap.size w3 (w3.alloc (.cells #[.pointer r,.int .i64 L.kvs.length,.int .i64 lim] 111)):=bal
   have hR4:=hR3.on hb4
   have hB4:=hB3.trans (hb4.mono hB3.size)
   have hN4:=RecAt.new w3 #[.pointer r,.int .i64 L.kvs.length,.int .i64 lim] 111
   have hT4:=hT3.below hb4
   have c0:(w3.alloc (.cells #[.pointer r,.int .i64 L.kvs.length,.int .i64 lim] 111)).cell? ⟨w1.heap.size,0,none⟩=some (.int .i64 n):=hR4.cell 0
   have c1:(w3.alloc (.cells #[.pointer r,.int .i64 L.kvs.length,.int .i64 lim] 111)).cell? ⟨w1.heap.size,1,none⟩=some (.int .u64 t):=hR4.cell 1
   have HB4:=hid hB4
   have HT4:=hid hT4
   have HI:=hid (show BooksIn x lim L from ⟨hF,hrd,hfew,hsd⟩)
   have hls:w.heap.size<=(w3.alloc (.cells #[.pointer r,.int .i64 L.kvs.length,.int .i64 lim] 111)).heap.size:=hB4.size
   have HLs:=hid hls
   clear hb4 hB4 hN4 hT4 hR4 hT3 hF hrd hsd hR3 hB3 hls
   have hs4:(w3.alloc (.cells #[.pointer r,.int .i64 L.kvs.length,.int .i64 lim] 111)).heap.size=w3.heap.size+1:=by simp
   have Hs4:=hid hs4
   clear hs4
   go_wp2
   go_ret3
   unfold OpenEnds
   rw [HNE.out,HLE.out]
   have hb5:Below (w3.alloc (.cells #[.pointer r,.int .i64 L.kvs.length,.int .i64 lim] 111)).heap.size (w3.alloc (.cells #[.pointer r,.int .i64 L.kvs.length,.int .i64 lim] 111)) ((w3.alloc (.cells #[.pointer r,.int .i64 L.kvs.length,.int .i64 lim] 111)).alloc (.cells #[.int .i64 n,.int .u64 t,.pointer r,.int .i64 L.kvs.length,.int .i64 lim] 113)):=bal
   have hL5:=RecAt.new (w3.alloc (.cells #[.pointer r,.int .i64 L.kvs.length,.int .i64 lim] 111)) #[.int .i64 n,.int .u64 t,.pointer r,.int .i64 L.kvs.length,.int .i64 lim] 113
   have hT5:=HT4.out.below (hb5.mono (by rw [Hs4.out];omega))
   rw [Hs4.out] at hL5
   have hls:=HLs.out
   rw [Hs4.out] at hls
   exact ⟨HB4.out.trans (hb5.mono HB4.out.size),.inl ⟨t,x,L,w3.heap.size+1,r,HFd.out,HI.out,rfl,hls,hL5,hT5.mono hT5.2.1 nlr⟩⟩
  ·have HNo:=hid (show ∀ t' x' L',findD s.data.toList=some (t',x')->¬ BooksIn x' lim L' by
    intro t' x' L' h' hB'
    rw [HFd.out] at h'
    cases h'
    rcases hno with hno | ⟨L,hF,hrd,hno⟩
    ·rw [show (⟨x.toArray⟩:ByteArray).data.toList=x from rfl,hB'.2.1] at hno;cases hno
    ·rw [show (⟨x.toArray⟩:ByteArray).data.toList=x from rfl,hB'.2.1] at hrd
     have:L'=L:=kvs_inj hB'.1 hF (by simpa using hrd)
     subst this
     exact hno hB'.2.2)
   have HB4:=hid (hB3.alloc hB3.size (.cells #[.pointer none,.int .i64 0,.int .i64 0] 111))
   clear hno hR3 hB3
   go_wp2
   go_ret3
   unfold OpenEnds
   rw [HNE.out,HLE.out]
   exact ⟨HB4.out,.inr ⟨HNo.out,rfl⟩⟩
 ·have HNo:=hid (show ∀ t' x' L',findD s.data.toList=some (t',x')->¬ BooksIn x' (s.size / 128 / 8) L' by intro t' x' L' h';rw [hfd] at h';cases h')
  have HB2:=hid (hb1.alloc hb1.size (.cells #[.int .i64 0,.int .u64 0] 106))
  clear hfd hb1
  go_wp2
  go_ret3
  exact ⟨HB2.out,.inr ⟨HNo.out,rfl⟩⟩
end
end Go.Proofs.YtalncjhldkcmaaaGreat
