import Derived.Test.YtalncjhldkcmaaaGreatFb16
import Derived.Test.YtalncjhldkcmaaaGreatFb00
import Derived.RangeFuncRecord
namespace Go.Proofs.YtalncjhldkcmaaaGreat
open _root_.Go.Proofs.Tryz
set_option maxHeartbeats 16000000
set_option maxRecDepth 8000
section
open Go.RowKit Go.Shelf
attribute [local go_sem] Oper.semAt_some run_store_cplx
theorem fl_ords:((List.range 256).all fun a=>(List.range 256).all fun b=>decide (FloatKind.f64.format.order (fl a) (fl b)=some Ordering.eq) == decide (a=b))=true:=by kernel_rfl
theorem fl_ord {a b:Nat} (ha:a<256) (hb:b<256):decide (FloatKind.f64.format.order (fl a) (fl b)=some Ordering.eq)=decide (a=b):=by
 have h:=List.all_eq_true.1 (List.all_eq_true.1 fl_ords a (List.mem_range.2 ha)) b (List.mem_range.2 hb)
 exact eq_of_beq h
theorem fl_ord' {a b:Nat} (ha:a<256) (hb:b<256):(FloatKind.f64.format.order (fl a) (fl b)=some Ordering.eq)↔a=b:=by
 have:=fl_ord ha hb
 rwa [decide_eq_decide] at this
def atPl (px py:Nat) (t:TN):Bool:=decide (t.2.x=px/\t.2.y=py)
def occN (px py:Nat) (l:List TN):Nat:=match l.find? (atPl px py) with | some t=>t.1 | none=>0
theorem occN_at {px py:Nat} {pre ts:List TN} {t:TN} (h:(pre++[t]) <+: ts) (hp:∀ u∈pre,atPl px py u=false) (ht:atPl px py t=true):occN px py ts=t.1:=by
 obtain ⟨r,rfl⟩:=h
 have:(pre++[t]++r).find? (atPl px py)=some t:=by
  rw [List.append_assoc,List.find?_append,List.find?_eq_none.2 (fun u hu=>by simp [hp u hu])]
  simp [ht]
 simp only [occN,this]
theorem occN_none {px py:Nat} {ts:List TN} (hp:∀ u∈ts,atPl px py u=false):occN px py ts=0:=by
 have:ts.find? (atPl px py)=none:=List.find?_eq_none.2 (fun u hu=>by simp [hp u hu])
 simp only [occN,this]
theorem occ_end {w V:World} {D:Nat} {v:Int} {t0 t1 t2 t3 t4 t5 t7 t8 t9 t10 t11 t12 t13 t14 t15 t16 t17 t18:Value} (hD:V.heap[D]? = some (.deferred (some []))) (hb:Boxed V (w.heap.size+1) 3 (.int .i64 v)) (hbel:Below w.heap.size w V) (hd:w.heap.size+1<D) :
  bodyPostM Fence.wide 0 prog Tryz.f148 (fun e w'=>e=.returned (.int .i64 v)/\Below w.heap.size w w') .ret
   { tmps:=#[t0,t1,t2,t3,t4,t5,.pointer (some ⟨w.heap.size+1,0,none⟩),t7,t8,t9,t10,t11,t12,t13,t14,t15,t16,t17,t18],defers:=[{ target:=.collected D,args:=#[] }] } V:=by
 have hc:∀ o,(V.putObj D o).cell? ⟨w.heap.size+1,0,none⟩=some (.int .i64 v):=fun o=>(show Boxed (V.putObj D o) (w.heap.size+1) 3 (.int .i64 v) from (World.putObj_heap_other (by omega)).trans hb).cell
 refine ⟨by simp,.inl ⟨_,_,rfl,run_takeDeferred hD,?_⟩⟩
 refine ⟨.int .i64 v,by simp [results,results148,go_sem,hc],rfl,?_⟩
 exact hbel.trans ((Below.refl _ V).grown (grownBy_putObj' V D _) (by have:=hbel.size;omega) (fun k e=>by cases e;omega))
theorem occupant_any (n₀ b:Nat) (box:Int) (px py:Nat) (hpx:px<256) (hpy:py<256) (l:List KV) (ts:List TN) (hok:∀ t∈ts,t.2.Ok/\t.1<1024) (hts:sel (tubeK 1) (tubeK 999) l=ts.map kvT) (w:World) (hT:TxAt n₀ w b l) :
  Calls prog 148 #[.pointer (some ⟨b,0,none⟩),.int .i64 box,pl px py] w fun e w'=>e=.returned (.int .i64 (occN px py (ts.filter (inBox box))))/\Below w.heap.size w w':=by
 have hn0:n₀<=w.heap.size:=by obtain ⟨⟨r,hB,hI⟩,hf⟩:=hT;exact hI.2.1
 have hb1:Below w.heap.size w ((w.alloc (.cells #[pl px py] 214)).alloc (.cells #[.int .i64 0] 3)):=((Below.refl _ w).alloc nlr _).alloc (by simp) _
 have HTu:=hid (in_any n₀ b box l ts hok hts _ (hT.below hb1))
 have HB:=hid ((Boxed.new w 214 (pl px py)).alloc (.cells #[.int .i64 0] 3))
 have HB2:=hid (Boxed.new (w.alloc (.cells #[pl px py] 214)) 3 (.int .i64 0))
 have Hs:=hid (show ((w.alloc (.cells #[pl px py] 214)).alloc (.cells #[.int .i64 0] 3)).heap.size=w.heap.size+2 by simp)
 have Hb1:=hid hb1
 clear hb1 hT
 simp only [pl] at HTu HB HB2 Hs Hb1 ⊢
 refine calls_marks func148 rfl ?_
 simp only [ntmps148,List.size_toArray,List.length_cons,List.length_nil,Nat.reduceAdd,Nat.reduceSub,Array.replicate_succ,Array.replicate_zero,List.push_toArray,List.append_toArray,List.nil_append,List.cons_append]
 go_wp2_with (go_at_call 165;refine HTu.out.mono ?_;clear HTu;rintro e w2 ⟨lb,rfl,hG,hb2⟩)
 have hb1:=Hb1.out
 have hbx:=HB.out
 have hbr:=HB2.out
 have hs:=Hs.out
 have hsa:(w.alloc (.cells #[.complex .f64 (fl px) (fl py)] 214)).heap.size=w.heap.size+1:=by simp
 rw [hsa] at hbr
 clear Hb1 HB Hs HB2
 generalize (w.alloc (.cells #[.complex .f64 (fl px) (fl py)] 214)).alloc (.cells #[.int .i64 0] 3)=w1 at *
 have hb12:Below w.heap.size w w2:=hb1.trans (hb2.mono hb1.size)
 have h2:=hb2.size
 have hbx2:=boxed_below hbx hb2
 have hbr2:=boxed_below hbr hb2
 refine (wpIn_wide (n:=0)).1 ?_
 refine rangeM_law (gf:=197) (lb:=lb) rfl (enters_of func197 (by kernel_rfl) rfl) (hG (fun _=>False) w2 (fun k=>k=w.heap.size+1) (Keeps.refl _ _) (fun _ h=>h.elim) (fun k h=>by omega)) (Below.refl _ _) (fun k h=>by omega) (fun _=>rfl)
  (fun _ pre V=>pre <+: ts.filter (inBox box)/\(∀ u∈pre,atPl px py u=false)/\Boxed V w.heap.size 214 (.complex .f64 (fl px) (fl py))/\Boxed V (w.heap.size+1) 3 (.int .i64 0)/\Below w.heap.size w V)
  (fun _ c pre V=>c=.ret/\Boxed V (w.heap.size+1) 3 (.int .i64 (occN px py (ts.filter (inBox box))))/\Below w.heap.size w V)
  (fun _ s A B row hs hg hr=>by
   obtain ⟨h1,h2,h3,h4,h5⟩:=hs
   exact ⟨h1,h2,own_boxed h3 hg hr,own_boxed h4 hg hr,own_below h5 nlr hb12.size hg hr⟩)
  (fun _ c s A B row hs hg hr=>by
   obtain ⟨h1,h2,h3⟩:=hs
   exact ⟨h1,own_boxed h2 hg hr,own_below h3 nlr hb12.size hg hr⟩)
  (fun _ _=>⟨List.nil_prefix,by simp,hbx2,hbr2,hb12⟩)
  (fun x a' V=>∃ r,RecBox V r x.2.cells/\a'={ tmps:=#[.pointer (some ⟨b,0,none⟩),.int .i64 box,.complex .f64 (fl px) (fl py),undef,undef,.pointer (some ⟨w.heap.size,0,none⟩),.pointer (some ⟨w.heap.size+1,0,none⟩),.int .i64 x.1,.pointer (some ⟨r,0,none⟩),.pointer (some ⟨b,0,none⟩),.int .i64 box,.func (.func 197) #[] lb,.int .i64 x.1,x.2.val,undef,undef,undef,undef,undef],defers:=[] })
  (fun x a' _ A B row hs hg hr=>by
   obtain ⟨b,h2,h3⟩:=hs
   exact ⟨b,own_recBox h2 hg hr,h3⟩) ?assign ?body ?done ?stop
 case assign =>
  intro y M pre x V K hM1 hM2 _ hi hK
  simp only [encT,PT.val,PT.cells,pl]
  gi_wp2
  have hbV:Below V.heap.size V (V.alloc (.cells #[.complex .f64 (fl x.2.x) (fl x.2.y),.int .i64 x.2.box,.int .i64 x.2.donor,.int .i64 x.2.status,.int .i64 x.2.thaws,.int .i64 x.2.began,.int .i64 x.2.left,.int .i64 x.2.used,.int .i64 x.2.lost] 216)):=bal
  obtain ⟨i1,i2,i3,i4,i5⟩:=hi
  exact hK _ _ ((Keeps.refl _ V).below hbV nlr) ⟨i1,i2,boxed_below i3 hbV,boxed_below i4 hbV,i5.trans (hbV.mono i5.size)⟩ ⟨V.heap.size,World.alloc_heap_new V _,rfl⟩
 case body =>
  rintro y M pre x a' V hy1 hy2 hM1 hM2 hp ⟨hpre,hno,hbox,hres,hbel⟩ ⟨r,hr,rfl⟩
  have hxm:x∈ts.filter (inBox box):=hp.subset (by simp)
  have hxo:=(hok x (List.mem_filter.1 hxm).1).1
  have hc2:=hbox.cell
  have hc3:=hres.cell
  have hf3:=hres.frozen
  have o1:=fl_ord' hxo.x hpx
  have o2:=fl_ord' hxo.y hpy
  simp only [PT.cells,pl] at hr
  have d0:=hr.cell 0
  simp only [List.getElem?_toArray,List.getElem?_cons_zero] at d0
  gi_wp2
  ·rename_i hh
   have hat:atPl px py x=true:=by
    simp only [beq_iff_eq,o1,o2] at hh
    simp [atPl,hh]
   exact ⟨(Keeps.refl (fun k=>k=w.heap.size+1\/M<=k) V).setCell (p:=⟨w.heap.size+1,0,none⟩) (.inl (.inl rfl)) _,rfl,by rw [occN_at hp hno hat];exact hres.set _,hbel.setCell (p:=⟨w.heap.size+1,0,none⟩) (by show w.heap.size<=w.heap.size+1;omega) _⟩
  ·rename_i hh
   have hat:atPl px py x=false:=by
    simp only [beq_eq_false_iff_ne,ne_eq,o1,o2] at hh
    simp only [atPl,decide_eq_false_iff_not];omega
   exact ⟨Keeps.refl _ _,hp,fun u hu=>by rcases List.mem_append.1 hu with h | h;exact hno u h;(rw [List.mem_singleton.1 h];exact hat),hbox,hres,hbel⟩
 case done =>
  rintro M V hM ⟨hpre,hno,hbox,hres,hbel⟩ hD
  have hc3:=hres.cell
  have hf3:=hres.frozen
  go_wp2_with fail
  rw [occN_none hno]
  have hD':(V.setCell ⟨w.heap.size+1,0,none⟩ (.int .i64 0)).heap[w2.heap.size]? = some (.deferred (some [])):=(((Keeps.refl (fun k=>k=w.heap.size+1) V).setCell (p:=⟨w.heap.size+1,0,none⟩) (.inl rfl) _).block w2.heap.size (Array.getElem?_eq_some_iff.1 hD).1 (by omega)).trans hD
  have hbx':=hres.set (.int .i64 0)
  have hbel':=hbel.setCell (p:=⟨w.heap.size+1,0,none⟩) (by show w.heap.size<=w.heap.size+1;omega) (.int .i64 0)
  exact occ_end hD' hbx' hbel' (by omega)
 case stop =>
  rintro M c pre V hM hp ⟨rfl,hres,hbel⟩ hD
  refine (wpIn_wide (n:=0)).2 ?_
  go_wp2_with fail
  exact occ_end hD hres hbel (by omega)
end
section
open Go.RowKit
theorem own_bytes3 (w:World) (l:List UInt8) (arr:Array Value) (h:arr.toList=byteCells l) (hl:l.length<=1000) (hz:arr.size=l.length):(w.alloc (.cells arr 5)).ownsRow w.heap.size 5 1 (.slice (some ⟨w.heap.size,0,none⟩) l.length l.length) l.length (byteCells l):=by
 have hb:(byteCells l).length=l.length:=by simp [byteCells]
 refine ⟨by simp [byteCells],.inr ⟨w.heap.size,l.length,arr,rfl,Nat.le_refl _,?_,Nat.le_refl _,by unfold maxLen;omega,by simp [hz],?_⟩⟩
 ·exact World.alloc_heap_new w _
 ·rw [h,Nat.mul_one,<- hb];simp
theorem wreply_any (e:Nat) (v:Value) (zs:List Int) (w:World) (he:e<256) (hv:IntsIn w v zs) (hn:zs.length<65536) (hz:∀ z∈zs,0<=z/\z<4294967296) :
  Calls prog 42 #[.int .i64 e,v] w fun r w'=>r=.returned (.string ⟨(replyL e zs).toArray⟩)/\Below w.heap.size w w':=by
 obtain ⟨oa,ca,rfl,hca⟩:=hv.parts
 have HA:=hid hca
 have HZ:=hid hz
 clear hca hv hz
 have hne:(e:Int)<256:=by omega
 have hnz:(zs.length:Int)<65536:=by omega
 have hOw:=own_bytes3 w [UInt8.ofNat e,UInt8.ofNat (zs.length / 256),UInt8.ofNat zs.length] #[.int .u8 (e:Int),.int .u8 ((zs.length:Int) / 256),.int .u8 ((zs.length:Int) % 256)] (by
  simp only [byteCells,List.map,UInt8.toNat_ofNat']
  have h1:((e % 256:Nat):Int)=e:=by omega
  have h2:((zs.length / 256 % 256:Nat):Int)=(zs.length:Int) / 256:=by omega
  have h3:((zs.length % 256:Nat):Int)=(zs.length:Int) % 256:=by omega
  rw [h1,h2,h3]) (by simp) rfl
 have HD:=hid (show replyL e zs=[UInt8.ofNat e,UInt8.ofNat (zs.length / 256),UInt8.ofNat zs.length]++(zs.take zs.length).flatMap (fun z=>be4 z.toNat) by rw [List.take_length];rfl)
 have HSt:=hid (fun m h=>replyL_step e zs m h)
 simp only [Int.toNat_natCast] at HSt
 go_enter func42,ntmps42
 go_wp2_with fail
 go_loopw [5,20] (fun sv i wr=>∃ m:Nat,m<=zs.length/\i=.int .i64 m/\wr.ownsRow w.heap.size 5 1 sv ([UInt8.ofNat e,UInt8.ofNat (zs.length / 256),UInt8.ofNat zs.length]++(zs.take m).flatMap fun z=>be4 z.toNat).length (byteCells ([UInt8.ofNat e,UInt8.ofNat (zs.length / 256),UInt8.ofNat zs.length]++(zs.take m).flatMap fun z=>be4 z.toNat))/\([UInt8.ofNat e,UInt8.ofNat (zs.length / 256),UInt8.ofNat zs.length]++(zs.take m).flatMap fun z=>be4 z.toNat).length<=3+4*m/\Below w.heap.size w wr) (fun _ i _=>zs.length - (intOf i).toNat)
 case atStart=>exact ⟨0,Nat.zero_le _,rfl,hOw,by simp,bal⟩
 case round =>
  obtain ⟨m,hm,rfl,hown,hle,hb⟩:=hrel
  clear hOw
  have hsz:=hb.size
  by_cases hlt:m<zs.length
  ·obtain ⟨p,rfl,hpl,hp⟩:=HA.out m hlt
   have hpr:=(hb.cell (p:=⟨p,m,none⟩) hpl).trans hp
   have hzm:=HZ.out zs[m] (List.getElem_mem hlt)
   have HS:=hid (HSt.out m hlt)
   have hlt':(m:Int)<(zs.length:Int):=by omega
   obtain ⟨n,hn2⟩:=Int.eq_ofNat_of_zero_le hzm.1
   rw [hn2] at hpr hzm
   obtain ⟨hz0,hz1⟩:=hzm
   rw [hn2,Int.toNat_natCast] at HS
   clear hp hn2
   generalize [UInt8.ofNat e,UInt8.ofNat (zs.length / 256),UInt8.ofNat zs.length]++(zs.take m).flatMap (fun z=>be4 z.toNat)=cur at *
   go_wp2_with (go_at_call 67;refine (appendNumber_any w.heap.size cur.length n (by omega) _ _ _ hown (by omega) (by omega)).mono ?_;rintro e w4 ⟨v',rfl,hown4,hb4⟩)
   go_roundw
   case rel=>exact ⟨m+1,by omega,by go_num,by rw [HS.out,byteCells_append,List.length_append,be4_len];exact hown4,by rw [HS.out,List.length_append,be4_len];omega,hb.trans hb4⟩
   case measure=>simp [intOf];omega
  ·have hme:m=zs.length:=by omega
   have HD2:Hid (replyL e zs=[UInt8.ofNat e,UInt8.ofNat (zs.length / 256),UInt8.ofNat zs.length]++(zs.take m).flatMap (fun z=>be4 z.toNat)):=hid (by rw [hme];exact HD.out)
   clear hme HD
   have hpos:([UInt8.ofNat e,UInt8.ofNat (zs.length / 256),UInt8.ofNat zs.length]++(zs.take m).flatMap fun z=>be4 z.toNat)≠[]:=by simp
   generalize [UInt8.ofNat e,UInt8.ofNat (zs.length / 256),UInt8.ofNat zs.length]++(zs.take m).flatMap (fun z=>be4 z.toNat)=cur at *
   obtain ⟨g,cap,rfl,hg1,hg2,hcs⟩:=own_cells hown hpos
   have hconv:=own_conv (w:=wr) (cap:=cap) hcs
   clear hcs
   go_wp2
   go_ret
   exact ⟨ret_str HD2.out,hb⟩
end
end Go.Proofs.YtalncjhldkcmaaaGreat
