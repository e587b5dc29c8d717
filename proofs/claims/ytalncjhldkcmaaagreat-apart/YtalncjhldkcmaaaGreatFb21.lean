import Derived.Test.YtalncjhldkcmaaaGreatFb20
import Derived.Test.YtalncjhldkcmaaaGreatFb16
import Derived.Test.YtalncjhldkcmaaaGreatFb03
import Derived.Deep.DeepCutAuto
namespace Go.Proofs.YtalncjhldkcmaaaGreat
open _root_.Go.Proofs.Tryz
set_option maxHeartbeats 16000000
set_option maxRecDepth 8000
section
open Go.RowKit Go.Shelf
namespace Led
variable {L:Led}
theorem tubeD_okF (h:L.Fit) (n:Nat):(L.tubeD n).Ok:=by
 unfold tubeD
 cases e:L.tube n with
 | none=>exact ⟨by decide,by decide,by decide,by decide,by decide,by decide,by decide,by decide,by decide,by decide⟩
 | some q=>exact (h.t1 _ ((tube_memF h).1 e)).2.2
theorem sideN_ltF (h:L.Fit) (n:Nat):L.sideN n<256:=by
 unfold sideN
 cases e:L.box n with
 | none=>decide
 | some s=>have:=(h.b1 _ ((box_memF h).1 e)).2.2;simp only at this;show s<256;omega
theorem pouredN_ltF (h:L.Fit) (a b:Nat):L.pouredN a b<16777216:=by
 unfold pouredN
 cases e:L.pour a b with
 | none=>decide
 | some s=>exact (h.p1 _ ((pour_memF h).1 e)).2.2.2
end Led
theorem side_fit (n₀ b n:Nat) (L:Led) (w:World) (h:TxF n₀ w b L) (hn:n<1024) :
  Calls prog 146 #[.pointer (some ⟨b,0,none⟩),.int .i64 n] w fun e w'=>e=.returned (.int .i64 (L.sideN n))/\Below w.heap.size w w':=by
 have hg:=Led.get_boxF h.fit (n:=n) hn
 have hl:=Led.sideN_ltF h.fit n
 unfold Led.sideN at hl ⊢
 cases e:L.box n with
 | none=>rw [e] at hg;exact side_none n₀ b n L.kvs w h.tx hn hg
 | some s =>
  rw [e] at hg hl
  have:=side_some n₀ b n L.kvs ⟨#[UInt8.ofNat s]⟩ (by show 0<1;omega) w h.tx hn hg
  have e2:((⟨#[UInt8.ofNat s]⟩:ByteArray)[0]'(by show 0<1;omega)).toNat=s:=ofNat_lt hl
  rw [e2] at this
  exact this
theorem tube_fit (n₀ b n:Nat) (L:Led) (w:World) (h:TxF n₀ w b L) (hn:n<1024) :
  Calls prog 143 #[.pointer (some ⟨b,0,none⟩),.int .i64 n] w fun e w'=>e=.returned (.tuple #[(L.tubeD n).val,.bool (L.tube n).isSome])/\Below w.heap.size w w':=by
 have hg:=Led.get_tubeF h.fit (n:=n) hn
 have hok:=Led.tubeD_okF h.fit n
 unfold Led.tubeD at hok ⊢
 cases e:L.tube n with
 | none=>rw [e] at hg;exact tube_none n₀ b n L.kvs w h.tx hn hg
 | some q=>rw [e] at hg hok;exact tube_some n₀ b n L.kvs q hok w h.tx hn hg
theorem poured_fit (n₀ b x y:Nat) (L:Led) (w:World) (h:TxF n₀ w b L) (hx:x<1024) (hy:y<1024) :
  Calls prog 145 #[.pointer (some ⟨b,0,none⟩),.int .i64 x,.int .i64 y] w fun e w'=>e=.returned (.int .i64 (L.pouredN x y))/\Below w.heap.size w w':=by
 have hg:=Led.get_pourF h.fit (a:=x) (b:=y) hx hy
 have hl:=Led.pouredN_ltF h.fit x y
 unfold Led.pouredN at hl ⊢
 cases e:L.pour x y with
 | none=>rw [e] at hg;exact poured_none n₀ b x y L.kvs w h.tx hx hy hg
 | some v=>rw [e] at hg hl;exact poured_some n₀ b x y v L.kvs hl w h.tx hx hy hg
theorem occupant_fit (n₀ b:Nat) (box:Int) (px py:Nat) (hpx:px<256) (hpy:py<256) (L:Led) (w:World) (h:TxF n₀ w b L) :
  Calls prog 148 #[.pointer (some ⟨b,0,none⟩),.int .i64 box,pl px py] w fun e w'=>e=.returned (.int .i64 (occN px py (L.ts.filter (inBox box))))/\Below w.heap.size w w' :=
 occupant_any n₀ b box px py hpx hpy L.kvs L.ts h.toks (Led.sel_tsF h.fit) w h.tx
theorem TxF.poks {n₀ b:Nat} {L:Led} {w:World} (h:TxF n₀ w b L):∀ t∈L.ps,t.1<1024/\t.2.1<1024:=fun t ht=>by have:=h.fit.p1 t ht;omega
theorem pourN_of {L:Led} (h:L.Fit) {p:PN} (hp:p∈L.ps):L.pouredN p.1 p.2.1=p.2.2:=by
 have:L.pour p.1 p.2.1=some p.2.2:=(Led.pour_memF h).2 hp
 simp only [Led.pouredN,this,Option.getD_some]
def goodP (L:Led) (p:PN):Bool:=(L.tube p.1).isSome&&(L.tube p.2.1).isSome&&(decide (1<=p.2.2)&&decide (p.2.2<=1000000))
end
section
open Go.RowKit Go.Shelf
attribute [local go_sem] Oper.semAt_some run_store_cplx
theorem pairs_end {w V:World} {D:Nat} {v:Bool} {t0 t1 t3 t4 t5 t6 t7 t8 t9 t10 t11 t12 t13 t14 t15 t16 t17 t18 t19 t20 t21 t22 t23 t24 t25 t26 t27 t28 t29 t30 t31 t32 t33 t34 t35 t36 t37 t38:Value} (hD:V.heap[D]? = some (.deferred (some []))) (hb:Boxed V (w.heap.size+1) 4 (.bool v)) (hbel:Below w.heap.size w V) (hd:w.heap.size+1<D) :
  bodyPostM Fence.wide 0 prog Tryz.f138 (fun e w'=>e=.returned (.bool v)/\Below w.heap.size w w') .ret
   { tmps:=#[t0,t1,.pointer (some ⟨w.heap.size+1,0,none⟩),t3,t4,t5,t6,t7,t8,t9,t10,t11,t12,t13,t14,t15,t16,t17,t18,t19,t20,t21,t22,t23,t24,t25,t26,t27,t28,t29,t30,t31,t32,t33,t34,t35,t36,t37,t38],defers:=[{ target:=.collected D,args:=#[] }] } V:=by
 have hc:∀ o,(V.putObj D o).cell? ⟨w.heap.size+1,0,none⟩=some (.bool v):=fun o=>(show Boxed (V.putObj D o) (w.heap.size+1) 4 (.bool v) from (World.putObj_heap_other (by omega)).trans hb).cell
 refine ⟨by simp,.inl ⟨_,_,rfl,run_takeDeferred hD,?_⟩⟩
 refine ⟨.bool v,by simp [results,results138,go_sem,hc],rfl,?_⟩
 exact hbel.trans ((Below.refl _ V).grown (grownBy_putObj' V D _) (by have:=hbel.size;omega) (fun k e=>by cases e;omega))
theorem pairsSound_any (n₀ b:Nat) (L:Led) (w:World) (hT:TxF n₀ w b L) :
  Calls prog 138 #[.pointer (some ⟨b,0,none⟩)] w fun e w'=>e=.returned (.bool (L.ps.all (goodP L)))/\Below w.heap.size w w':=by
 have hb1:Below w.heap.size w ((w.alloc (.cells #[.pointer (some ⟨b,0,none⟩)] 185)).alloc (.cells #[.bool false] 4)):=((Below.refl _ w).alloc nlr _).alloc (by simp) _
 have hn0:n₀<=w.heap.size:=by obtain ⟨⟨r,hB,hI⟩,hf⟩:=hT.tx;exact hI.2.1
 have HP:=hid (pairs_any n₀ b L.kvs L.ps hT.poks (Led.sel_psF hT.fit) _ (hT.below hb1).tx)
 have HB:=hid ((Boxed.new w 185 (.pointer (some ⟨b,0,none⟩))).alloc (.cells #[.bool false] 4))
 have HB2:=hid (Boxed.new (w.alloc (.cells #[.pointer (some ⟨b,0,none⟩)] 185)) 4 (.bool false))
 have Hs:=hid (show ((w.alloc (.cells #[.pointer (some ⟨b,0,none⟩)] 185)).alloc (.cells #[.bool false] 4)).heap.size=w.heap.size+2 by simp)
 have Hb1:=hid hb1
 clear hb1
 refine calls_marks func138 rfl ?_
 simp only [ntmps138,List.size_toArray,List.length_cons,List.length_nil,Nat.reduceAdd,Nat.reduceSub,Array.replicate_succ,Array.replicate_zero,List.push_toArray,List.append_toArray,List.nil_append,List.cons_append]
 go_wp2_with (go_at_call 174;refine HP.out.mono ?_;clear HP;rintro e w2 ⟨bx,rfl,hG,hb2⟩)
 have hb1:=Hb1.out
 have hbx:=HB.out
 have hbr:=HB2.out
 have hs:=Hs.out
 have hsa:(w.alloc (.cells #[.pointer (some ⟨b,0,none⟩)] 185)).heap.size=w.heap.size+1:=by simp
 rw [hsa] at hbr
 clear Hb1 HB Hs HB2 hsa
 generalize (w.alloc (.cells #[.pointer (some ⟨b,0,none⟩)] 185)).alloc (.cells #[.bool false] 4)=w1 at *
 have hb12:Below w.heap.size w w2:=hb1.trans (hb2.mono hb1.size)
 have h2:=hb2.size
 have hbx2:=boxed_below hbx hb2
 have hbr2:=boxed_below hbr hb2
 refine (wpIn_wide (n:=0)).1 ?_
 have hfit:=hT.fit
 have hpk:=hT.poks
 refine rangeM_law (gf:=199) (lb:=#[.pointer (some ⟨bx,0,none⟩)]) rfl (enters_of func199 (by kernel_rfl) rfl) (hG (fun _=>False) w2 (fun k=>k=w.heap.size+1) (Keeps.refl _ _) (fun _ h=>h.elim) (fun k h=>by omega)) (Below.refl _ _) (fun k h=>by omega) (fun _=>rfl)
  (fun _ pre V=>pre <+: L.ps/\pre.all (goodP L)=true/\Boxed V w.heap.size 185 (.pointer (some ⟨b,0,none⟩))/\Boxed V (w.heap.size+1) 4 (.bool false)/\Below w.heap.size w V)
  (fun _ c pre V=>c=.ret/\L.ps.all (goodP L)=false/\Boxed V (w.heap.size+1) 4 (.bool false)/\Below w.heap.size w V)
  (fun _ s A B row hs hg hr=>by
   obtain ⟨h1,h2,h3,h4,h5⟩:=hs
   exact ⟨h1,h2,own_boxed h3 hg hr,own_boxed h4 hg hr,own_below h5 nlr hb12.size hg hr⟩)
  (fun _ c s A B row hs hg hr=>by
   obtain ⟨h1,h2,h3,h4⟩:=hs
   exact ⟨h1,h2,own_boxed h3 hg hr,own_below h4 nlr hb12.size hg hr⟩)
  (fun _ _=>⟨List.nil_prefix,rfl,hbx2,hbr2,hb12⟩)
  (fun x a' _=>a'={ tmps:=#[.pointer (some ⟨b,0,none⟩),.pointer (some ⟨w.heap.size,0,none⟩),.pointer (some ⟨w.heap.size+1,0,none⟩),.int .i64 x.1,.int .i64 x.2.1,undef,undef,undef,undef,.pointer (some ⟨b,0,none⟩),.func (.func 199) #[] #[.pointer (some ⟨bx,0,none⟩)],.int .i64 x.1,.int .i64 x.2.1,undef,undef,undef,undef,undef,undef,undef,undef,undef,undef,undef,undef,undef,undef,undef,undef,undef,undef,undef,undef,undef,undef,undef,undef,undef,undef],defers:=[] })
  (fun _ _ _ _ _ _ hs _ _=>hs) ?assign ?body ?done ?stop
 case assign =>
  intro y M pre x V K hM1 hM2 _ hi hK
  simp only [encP]
  gi_wp2
  exact hK _ _ (Keeps.refl _ _) hi rfl
 case body =>
  rintro y M pre x a' V hy1 hy2 hM1 hM2 hp ⟨hpre,hall,hbox,hres,hbel⟩ rfl
  have hxm:x∈L.ps:=hp.subset (by simp)
  obtain ⟨hk1,hk2⟩:=hpk x hxm
  have hc2:=hbox.cell
  have HA:=hid (fun (k:Nat) (u:World) (hk:k<1024) (hu:Below w.heap.size w u)=>tube_fit n₀ b k L u (hT.below hu) hk)
  have HPo:=hid (fun (u:World) (hu:Below w.heap.size w u)=>poured_fit n₀ b x.1 x.2.1 L u (hT.below hu) hk1 hk2)
  rw [pourN_of hfit hxm] at HPo
  have HGd:=hid (show goodP L x=((L.tube x.1).isSome&&(L.tube x.2.1).isSome&&(decide (1<=x.2.2)&&decide (x.2.2<=1000000))) from rfl)
  have HBad0:=hid (fun (h:goodP L x=false)=>show L.ps.all (goodP L)=false by rw [List.all_eq_false];exact ⟨x,hxm,by simp [h]⟩)
  gi_wp2
  refine ⟨trivial,rfl,(CallsIn.inRound _ (callsIn_wide.2 (HA.out _ _ hk1 hbel))).mono ?_⟩
  clear hc2
  rintro e V1 ⟨rfl,hbV⟩
  simp only [PT.val,PT.cells,pl]
  generalize hq1:L.tubeD x.1=q1 at *
  clear hq1
  have hb1:Below V.heap.size V (V1.alloc (.cells #[.complex .f64 (fl q1.x) (fl q1.y),.int .i64 q1.box,.int .i64 q1.donor,.int .i64 q1.status,.int .i64 q1.thaws,.int .i64 q1.began,.int .i64 q1.left,.int .i64 q1.used,.int .i64 q1.lost] 216)):=hbV.alloc hbV.size _
  have hc2:=(boxed_below hbox hb1).cell
  have Hb1:=hid hb1
  clear hb1
  gi_wp2
  have hb1:=Hb1.out
  clear Hb1
  generalize V1.alloc (.cells #[.complex .f64 (fl q1.x) (fl q1.y),.int .i64 q1.box,.int .i64 q1.donor,.int .i64 q1.status,.int .i64 q1.thaws,.int .i64 q1.began,.int .i64 q1.left,.int .i64 q1.used,.int .i64 q1.lost] 216)=V2 at *
  refine ⟨trivial,rfl,(CallsIn.inRound _ (callsIn_wide.2 (HA.out _ _ hk2 (hbel.trans (hb1.mono hbel.size))))).mono ?_⟩
  clear hc2 HA
  rintro e V3 ⟨rfl,hbV3⟩
  simp only [PT.val,PT.cells,pl]
  generalize hq2:L.tubeD x.2.1=q2 at *
  clear hq2
  have hb3:Below V.heap.size V (V3.alloc (.cells #[.complex .f64 (fl q2.x) (fl q2.y),.int .i64 q2.box,.int .i64 q2.donor,.int .i64 q2.status,.int .i64 q2.thaws,.int .i64 q2.began,.int .i64 q2.left,.int .i64 q2.used,.int .i64 q2.lost] 216)):=(hb1.trans (hbV3.mono hb1.size)).alloc (Nat.le_trans hb1.size hbV3.size) _
  have hc2:=(boxed_below hbox hb3).cell
  have hc3:=(boxed_below hres hb3).cell
  have hf3:=(boxed_below hres hb3).frozen
  have Hb3:=hid hb3
  clear hb3
  cases e1:(L.tube x.1).isSome with
  | false =>
   have HBad:=hid (HBad0.out (by rw [HGd.out,e1];rfl))
   gi_wp2
   repeat (refine And.intro trivial ?_;gi_wp2)
   have hbK:=Hb3.out
   refine ⟨((Keeps.refl (fun k=>k=w.heap.size+1\/M<=k) V).below hbK nlr).setCell (p:=⟨w.heap.size+1,0,none⟩) (.inl (.inl rfl)) _,rfl,HBad.out,(boxed_below hres hbK).set _,(hbel.trans (hbK.mono hbel.size)).setCell (p:=⟨w.heap.size+1,0,none⟩) (by show w.heap.size<=w.heap.size+1;omega) _⟩
  | true =>
   cases e2:(L.tube x.2.1).isSome with
   | false =>
    have HBad:=hid (HBad0.out (by rw [HGd.out,e1,e2];rfl))
    gi_wp2
    repeat (refine And.intro trivial ?_;gi_wp2)
    have hbK:=Hb3.out
    refine ⟨((Keeps.refl (fun k=>k=w.heap.size+1\/M<=k) V).below hbK nlr).setCell (p:=⟨w.heap.size+1,0,none⟩) (.inl (.inl rfl)) _,rfl,HBad.out,(boxed_below hres hbK).set _,(hbel.trans (hbK.mono hbel.size)).setCell (p:=⟨w.heap.size+1,0,none⟩) (by show w.heap.size<=w.heap.size+1;omega) _⟩
   | true =>
    have hF:=fun u=>isFrom_any 1 (x.2.2:Int) 1000000 u
    have hgb:(decide ((1:Int)<=(x.2.2:Int))&&decide ((x.2.2:Int)<=1000000))=goodP L x:=by
     rw [HGd.out,e1,e2]
     rw [show decide ((1:Int)<=(x.2.2:Int))=decide (1<=x.2.2) from decide_eq_decide.2 (by omega),show decide ((x.2.2:Int)<=1000000)=decide (x.2.2<=1000000) from decide_eq_decide.2 (by omega)]
     rfl
    rw [hgb] at hF
    have HFr:=hid hF
    clear hF hgb
    gi_wp2
    have hbK:=Hb3.out
    clear Hb3 hc2 hc3 hf3
    generalize V3.alloc (.cells #[.complex .f64 (fl q2.x) (fl q2.y),.int .i64 q2.box,.int .i64 q2.donor,.int .i64 q2.status,.int .i64 q2.thaws,.int .i64 q2.began,.int .i64 q2.left,.int .i64 q2.used,.int .i64 q2.lost] 216)=V4 at *
    refine ⟨trivial,rfl,(CallsIn.inRound _ (callsIn_wide.2 (HPo.out _ (hbel.trans (hbK.mono hbel.size))))).mono ?_⟩
    clear HPo
    rintro e V5 ⟨rfl,hb5⟩
    gi_wp2
    refine ⟨trivial,rfl,(CallsIn.inRound _ (callsIn_wide.2 (HFr.out V5))).mono ?_⟩
    clear HFr
    rintro e V6 ⟨rfl,rfl⟩
    have hbK:=hbK.trans (hb5.mono hbK.size)
    have hc3:=(boxed_below hres hbK).cell
    have hf3:=(boxed_below hres hbK).frozen
    have HbK:=hid hbK
    clear hbK
    cases hgd:goodP L x with
    | true =>
     gi_wp2
     have hbK:=HbK.out
     exact ⟨(Keeps.refl _ V).below hbK nlr,hp,by rw [List.all_append,hall];simp [hgd],boxed_below hbox hbK,boxed_below hres hbK,hbel.trans (hbK.mono hbel.size)⟩
    | false =>
     have HBad:=hid (HBad0.out hgd)
     gi_wp2
     have hbK:=HbK.out
     refine ⟨((Keeps.refl (fun k=>k=w.heap.size+1\/M<=k) V).below hbK nlr).setCell (p:=⟨w.heap.size+1,0,none⟩) (.inl (.inl rfl)) _,rfl,HBad.out,(boxed_below hres hbK).set _,(hbel.trans (hbK.mono hbel.size)).setCell (p:=⟨w.heap.size+1,0,none⟩) (by show w.heap.size<=w.heap.size+1;omega) _⟩
 case done =>
  rintro M V hM ⟨hpre,hall,hbox,hres,hbel⟩ hD
  have hc3:=hres.cell
  have hf3:=hres.frozen
  go_wp2_with fail
  have hD':(V.setCell ⟨w.heap.size+1,0,none⟩ (.bool true)).heap[w2.heap.size]? = some (.deferred (some [])):=(((Keeps.refl (fun k=>k=w.heap.size+1) V).setCell (p:=⟨w.heap.size+1,0,none⟩) (.inl rfl) _).block w2.heap.size (Array.getElem?_eq_some_iff.1 hD).1 (by omega)).trans hD
  rw [hall]
  exact pairs_end hD' (hres.set (.bool true)) (hbel.setCell (p:=⟨w.heap.size+1,0,none⟩) (by show w.heap.size<=w.heap.size+1;omega) (.bool true)) (by omega)
 case stop =>
  rintro M c pre V hM hp ⟨rfl,hno,hres,hbel⟩ hD
  refine (wpIn_wide (n:=0)).2 ?_
  go_wp2_with fail
  rw [hno]
  exact pairs_end hD hres hbel (by omega)
end
section
open Go.RowKit
def HasR (n:Nat) (w:World) (b:Nat) (t:Nat->Int):Prop:=(∀ j,j<n->w.cell? ⟨b,j,none⟩=some (.int .i64 (t j)))/\∀ j,w.frozen? ⟨b,j,none⟩=false
theorem HasR.below {n:Nat} {w w':World} {b B:Nat} {c:Nat->Int} (h:HasR n w b c) (hb:Below B w w') (hB:b<B):HasR n w' b c :=
 ⟨fun i hi=>(hb.cell (by exact hB)).trans (h.1 i hi),fun i=>(hb.frozen (by exact hB)).trans (h.2 i)⟩
theorem HasR.congr {n:Nat} {w:World} {b:Nat} {c d:Nat->Int} (h:HasR n w b c) (e:∀ j,j<n->c j=d j):HasR n w b d :=
 ⟨fun j hj=>by rw [<- e j hj];exact h.1 j hj,h.2⟩
theorem HasR.new11 (w:World) (t:TypeId) (c:Nat->Int):HasR 11 (w.alloc (.cells #[.int .i64 (c 0),.int .i64 (c 1),.int .i64 (c 2),.int .i64 (c 3),.int .i64 (c 4),.int .i64 (c 5),.int .i64 (c 6),.int .i64 (c 7),.int .i64 (c 8),.int .i64 (c 9),.int .i64 (c 10)] t)) w.heap.size c:=by
 refine ⟨fun j hj => ?_,fun j=>by simp⟩
 rw [World.cell?_alloc_new]
 match j,hj with
 | 0,_=>rfl
 | 1,_=>rfl
 | 2,_=>rfl
 | 3,_=>rfl
 | 4,_=>rfl
 | 5,_=>rfl
 | 6,_=>rfl
 | 7,_=>rfl
 | 8,_=>rfl
 | 9,_=>rfl
 | 10,_=>rfl
 | n+11,h=>omega
def zeroT:Nat->Int:=fun _=>0
def tubeAt (ts:List (Nat->Int)) (id:Int):Nat->Int:=if 0<=findI ts id then ts.getD (findI ts id).toNat zeroT else zeroT
def pouredAt (ps:List (Nat->Int)) (a b:Int):Int:=if 0<=pairI ps a b then (ps.getD (pairI ps a b).toNat zeroT) 2 else 0
theorem findI_cases (ts:List (Nat->Int)) (id:Int):(findI ts id<0/\findI ts id = -1/\tubeAt ts id=zeroT)\/∃ hm:(findI ts id).toNat<ts.length,0<=findI ts id/\tubeAt ts id=ts[(findI ts id).toNat]:=by
 by_cases h:ts.findIdx (fun t=>t 0 == id)<ts.length
 ·have e:findI ts id=(ts.findIdx (fun t=>t 0 == id):Nat):=by unfold findI;rw [if_pos h]
  have h':(findI ts id).toNat<ts.length:=by rw [e];simpa using h
  refine .inr ⟨h',by omega,?_⟩
  unfold tubeAt
  rw [if_pos (by omega),List.getD_eq_getElem?_getD,List.getElem?_eq_getElem h'];rfl
 ·have e:findI ts id = -1:=by unfold findI;rw [if_neg h]
  refine .inl ⟨by omega,e,?_⟩
  unfold tubeAt;rw [e,if_neg (by omega)]
theorem pairI_cases (ps:List (Nat->Int)) (a b:Int):(pairI ps a b<0/\pairI ps a b = -1/\pouredAt ps a b=0)\/∃ hm:(pairI ps a b).toNat<ps.length,0<=pairI ps a b/\pouredAt ps a b=ps[(pairI ps a b).toNat] 2:=by
 by_cases h:ps.findIdx (fun p=>p 0 == a&&p 1 == b)<ps.length
 ·have e:pairI ps a b=(ps.findIdx (fun p=>p 0 == a&&p 1 == b):Nat):=by unfold pairI;rw [if_pos h]
  have h':(pairI ps a b).toNat<ps.length:=by rw [e];simpa using h
  refine .inr ⟨h',by omega,?_⟩
  unfold pouredAt
  rw [if_pos (by omega),List.getD_eq_getElem?_getD,List.getElem?_eq_getElem h'];rfl
 ·have e:pairI ps a b = -1:=by unfold pairI;rw [if_neg h]
  refine .inl ⟨by omega,e,?_⟩
  unfold pouredAt;rw [e,if_neg (by omega)]
theorem HasR.set {n:Nat} {w:World} {b:Nat} {c:Nat->Int} (h:HasR n w b c) {j:Nat} (hj:j<n) (v:Int):HasR n (w.setCell ⟨b,j,none⟩ (.int .i64 v)) b (upd c j v):=by
 refine ⟨fun i hi => ?_,fun i=>by rw [World.frozen?_setCell];exact h.2 i⟩
 by_cases e:i=j
 ·subst e;rw [World.cell?_setCell_same (w:=w) (h:=h.1 i hi)];simp [upd]
 ·rw [World.cell?_setCell_other (w:=w) (h:=by intro h';injection h' with _ h2 _;exact e h2.symm)];rw [h.1 i hi];simp [upd,e]
def put11 (w:World) (b:Nat) (d:Nat->Int):World :=
 (((((((((((w.setCell ⟨b,0,none⟩ (.int .i64 (d 0))).setCell ⟨b,1,none⟩ (.int .i64 (d 1))).setCell ⟨b,2,none⟩ (.int .i64 (d 2))).setCell ⟨b,3,none⟩ (.int .i64 (d 3))).setCell ⟨b,4,none⟩ (.int .i64 (d 4))).setCell ⟨b,5,none⟩ (.int .i64 (d 5))).setCell ⟨b,6,none⟩ (.int .i64 (d 6))).setCell ⟨b,7,none⟩ (.int .i64 (d 7))).setCell ⟨b,8,none⟩ (.int .i64 (d 8))).setCell ⟨b,9,none⟩ (.int .i64 (d 9))).setCell ⟨b,10,none⟩ (.int .i64 (d 10)))
theorem HasR.put11 {w:World} {b:Nat} {c:Nat->Int} (h:HasR 11 w b c) (d:Nat->Int):HasR 11 (put11 w b d) b d:=by
 refine (((((((((((h.set (j:=0) (by omega) (d 0)).set (j:=1) (by omega) (d 1)).set (j:=2) (by omega) (d 2)).set (j:=3) (by omega) (d 3)).set (j:=4) (by omega) (d 4)).set (j:=5) (by omega) (d 5)).set (j:=6) (by omega) (d 6)).set (j:=7) (by omega) (d 7)).set (j:=8) (by omega) (d 8)).set (j:=9) (by omega) (d 9)).set (j:=10) (by omega) (d 10)).congr ?_
 intro j hj
 match j,hj with
 | 0,_=>rfl
 | 1,_=>rfl
 | 2,_=>rfl
 | 3,_=>rfl
 | 4,_=>rfl
 | 5,_=>rfl
 | 6,_=>rfl
 | 7,_=>rfl
 | 8,_=>rfl
 | 9,_=>rfl
 | 10,_=>rfl
 | n+11,h=>omega
theorem below_put11 {w0 w:World} {B b:Nat} (h:Below B w0 w) (hb:B<=b) (d:Nat->Int):Below B w0 (put11 w b d) :=
 (((((((((((h.setCell (by exact hb) _).setCell (by exact hb) _).setCell (by exact hb) _).setCell (by exact hb) _).setCell (by exact hb) _).setCell (by exact hb) _).setCell (by exact hb) _).setCell (by exact hb) _).setCell (by exact hb) _).setCell (by exact hb) _).setCell (by exact hb) _)
theorem keeps_put11 (w:World) (b:Nat) (d:Nat->Int):Keeps (fun k=>k=b) w (put11 w b d) :=
 ((((((((((((Keeps.refl (fun k=>k=b) w).setCell (.inl rfl) _).setCell (.inl rfl) _).setCell (.inl rfl) _).setCell (.inl rfl) _).setCell (.inl rfl) _).setCell (.inl rfl) _).setCell (.inl rfl) _).setCell (.inl rfl) _).setCell (.inl rfl) _).setCell (.inl rfl) _).setCell (.inl rfl) _)
theorem HasR.keeps {S:Nat->Prop} {n:Nat} {w w':World} {b:Nat} {c:Nat->Int} (h:HasR n w b c) (hk:Keeps S w w') (hb:b<w.heap.size) (hs:¬ S b):HasR n w' b c :=
 ⟨fun i hi=>(hk.cell (by exact hb) (by exact hs)).trans (h.1 i hi),fun i=>(hk.frozen (by exact hb) (by exact hs)).trans (h.2 i)⟩
theorem Has.keeps {S:Nat->Prop} {w w':World} {b:Nat} {c:Nat->Int} (h:Has w b c) (hk:Keeps S w w') (hb:b<w.heap.size) (hs:¬ S b):Has w' b c :=
 ⟨fun i hi=>(hk.cell (by exact hb) (by exact hs)).trans (h.1 i hi),fun i=>(hk.frozen (by exact hb) (by exact hs)).trans (h.2 i)⟩
theorem put11_size (w:World) (b:Nat) (d:Nat->Int):(put11 w b d).heap.size=w.heap.size:=by simp [put11]
theorem HasR.newZ (w:World):HasR 11 (w.alloc (.cells #[.int .i64 0,.int .i64 0,.int .i64 0,.int .i64 0,.int .i64 0,.int .i64 0,.int .i64 0,.int .i64 0,.int .i64 0,.int .i64 0,.int .i64 0] 100)) w.heap.size zeroT:=HasR.new11 w 100 zeroT
theorem BkAt.tube {w:World} {b n cap:Nat} {oa:Option Addr} {vp:Value} {k:Bk} (h:BkAt w b (.slice oa n cap) vp k) {m:Nat} (hm:m<k.tubes.length) :
  ∃ g,oa=some ⟨g,0,none⟩/\n=k.tubes.length/\n<=cap/\g<w.heap.size/\w.cell? ⟨g,m*11,none⟩=some (.int .i64 (k.tubes[m] 0))/\w.cell? ⟨g,m*11+1,none⟩=some (.int .i64 (k.tubes[m] 1))/\w.cell? ⟨g,m*11+2,none⟩=some (.int .i64 (k.tubes[m] 2))/\w.cell? ⟨g,m*11+3,none⟩=some (.int .i64 (k.tubes[m] 3))/\w.cell? ⟨g,m*11+4,none⟩=some (.int .i64 (k.tubes[m] 4))/\w.cell? ⟨g,m*11+5,none⟩=some (.int .i64 (k.tubes[m] 5))/\w.cell? ⟨g,m*11+6,none⟩=some (.int .i64 (k.tubes[m] 6))/\w.cell? ⟨g,m*11+7,none⟩=some (.int .i64 (k.tubes[m] 7))/\w.cell? ⟨g,m*11+8,none⟩=some (.int .i64 (k.tubes[m] 8))/\w.cell? ⟨g,m*11+9,none⟩=some (.int .i64 (k.tubes[m] 9))/\w.cell? ⟨g,m*11+10,none⟩=some (.int .i64 (k.tubes[m] 10))/\∀ j,w.frozen? ⟨g,j,none⟩=false:=by
 obtain ⟨oa2,cap2,e3,hform⟩:=h.tubes.form
 injection e3 with e4 e5 e6
 subst e4 e6 e5
 obtain ⟨g,e7,hle,_,hgl,hcell,hfz⟩:=hform m hm
 exact ⟨g,e7,rfl,hle,hgl,hcell 0 (by omega),hcell 1 (by omega),hcell 2 (by omega),hcell 3 (by omega),hcell 4 (by omega),hcell 5 (by omega),hcell 6 (by omega),hcell 7 (by omega),hcell 8 (by omega),hcell 9 (by omega),hcell 10 (by omega),hfz⟩
theorem BkAt.pouredCell {w:World} {b n cap:Nat} {oa:Option Addr} {vt:Value} {k:Bk} (h:BkAt w b vt (.slice oa n cap) k) {m:Nat} (hm:m<k.poured.length) :
  ∃ g,oa=some ⟨g,0,none⟩/\n=k.poured.length/\n<=cap/\g<w.heap.size/\w.cell? ⟨g,m*3,none⟩=some (.int .i64 (k.poured[m] 0))/\w.cell? ⟨g,m*3+1,none⟩=some (.int .i64 (k.poured[m] 1))/\w.cell? ⟨g,m*3+2,none⟩=some (.int .i64 (k.poured[m] 2))/\∀ j,w.frozen? ⟨g,j,none⟩=false:=by
 obtain ⟨oa2,cap2,e3,hform⟩:=h.poured.form
 injection e3 with e4 e5 e6
 subst e4 e6 e5
 obtain ⟨g,e7,hle,_,hgl,hcell,hfz⟩:=hform m hm
 exact ⟨g,e7,rfl,hle,hgl,hcell 0 (by omega),hcell 1 (by omega),hcell 2 (by omega),hfz⟩
def errNew (k:Bk) (c:Nat->Int):Int:=if 0<k.sides (c 5).toNat then 9 else 0
def errBox (k:Bk) (c:Nat->Int):Int:=if k.sides (c 5).toNat=0 then 9 else 0
def errDon (k:Bk) (c:Nat->Int):Int:=if givesB k.tubes (c 3) then 0 else 5
def errReg (k:Bk) (c:Nat->Int):Int:=if 0<=findI k.tubes (c 1) then 4 else misI k (c 1) c
def errMov (k:Bk) (c:Nat->Int) (want:Int):Int:=if findI k.tubes (c 1)<0 then 4 else if tubeAt k.tubes (c 1) 6=want then misI k (c 1) c else 7
def errAli (k:Bk) (c:Nat->Int):Int:=if findI k.tubes (c 1)<0\/0<=findI k.tubes (c 2) then 4 else if c 2<c 1 then 6 else if tubeAt k.tubes (c 1) 6=1 then (if tubeAt k.tubes (c 1) 3<c 4 then 8 else misI k (c 2) c) else 7
def errPou (k:Bk) (c:Nat->Int):Int:=if findI k.tubes (c 1)<0\/findI k.tubes (c 2)<0 then 4 else if c 2<=c 1 then 6 else if tubeAt k.tubes (c 1) 6=1/\tubeAt k.tubes (c 2) 6=1 then (if tubeAt k.tubes (c 1) 3<c 4\/1000000<tubeAt k.tubes (c 2) 3+c 4\/1000000<pouredAt k.poured (c 1) (c 2)+c 4 then 8 else 0) else 7
def errUse (k:Bk) (c:Nat->Int):Int:=if findI k.tubes (c 1)<0 then 4 else if tubeAt k.tubes (c 1) 6=3 then 7 else if tubeAt k.tubes (c 1) 3<c 4\/1000000<tubeAt k.tubes (c 1) 4+c 4 then 8 else 0
def errTak (k:Bk) (c:Nat->Int):Int:=if findI k.tubes (c 1)<0 then 4 else if tubeAt k.tubes (c 1) 6=1 then 0 else 7
def errTub (k:Bk) (c:Nat->Int):Int:=if findI k.tubes (c 1)<0 then 4 else 0
def errI (k:Bk) (c:Nat->Int):Int :=
 match (c 0).toNat with
 | 1=>errNew k c
 | 2=>errReg k c
 | 3=>errMov k c 1
 | 4=>errAli k c
 | 5=>errPou k c
 | 6=>errUse k c
 | 7=>errTak k c
 | 8=>errMov k c 2
 | 9=>errDon k c
 | 10=>errBox k c
 | 11=>errBox k c
 | 13=>errBox k c
 | 14=>errDon k c
 | _=>errTub k c
structure Small (k:Bk):Prop where
 tubes:∀ t∈k.tubes,∀ i,0<=t i/\t i<=1000000000
 poured:∀ t∈k.poured,∀ i,0<=t i/\t i<=1000000000
theorem Small.tubeAt {k:Bk} (h:Small k) (id:Int) (i:Nat):0<=tubeAt k.tubes id i/\tubeAt k.tubes id i<=1000000000:=by
 rcases findI_cases k.tubes id with ⟨_,_,e⟩ | ⟨hm,_,e⟩
 ·rw [e];exact ⟨Int.le_refl _,by show (0:Int)<=_;omega⟩
 ·rw [e];exact h.tubes _ (List.getElem_mem hm) i
theorem Small.pouredAt {k:Bk} (h:Small k) (a b:Int):0<=pouredAt k.poured a b/\pouredAt k.poured a b<=1000000000:=by
 rcases pairI_cases k.poured a b with ⟨_,_,e⟩ | ⟨hm,_,e⟩
 ·rw [e];exact ⟨by decide,by decide⟩
 ·rw [e];exact h.poured _ (List.getElem_mem hm) 2
set_option maxRecDepth 100000 in
theorem errors_any (b:Nat) (vt vp:Value) (k:Bk) (c:Nat->Int) (w:World) (h:BkAt w b vt vp k) (h0:0<=c 5) (h9:c 5<10) (hk1:1<=c 0) (hk2:c 0<=16) (hv:0<=c 4/\c 4<=1000000000) (hsm:Small k) :
  Calls prog 61 #[.pointer (some ⟨b,0,none⟩),.agg #[.int .i64 (c 0),.int .i64 (c 1),.int .i64 (c 2),.int .i64 (c 3),.int .i64 (c 4),.int .i64 (c 5),.int .i64 (c 6),.int .i64 (c 7),.int .i64 (c 8)]] w fun e w'=>e=.returned (.int .i64 (errI k c))/\Below w.heap.size w w':=by
 have hC0:=Has.new w 31 c
 have hb0:=(Below.refl w.heap.size w).alloc nlr (.cells #[.int .i64 (c 0),.int .i64 (c 1),.int .i64 (c 2),.int .i64 (c 3),.int .i64 (c 4),.int .i64 (c 5),.int .i64 (c 6),.int .i64 (c 7),.int .i64 (c 8)] 31)
 have hK0:=h.below hb0
 have hlt:=h.lt
 obtain ⟨oa,cap,rfl,_⟩:=h.tubes.form
 obtain ⟨op,cpp,rfl,_⟩:=h.poured.form
 have hfew:=h.few
 have HOw:=hid (fun g hg=>h.own_lt (g:=g) hg)
 go_enter func61,ntmps61
 go_upto_if 22 with (go_at_call 90;refine (find_any b _ _ k _ _ hK0).mono ?_;rintro e w' ⟨rfl,rfl⟩)
 have hC2:=(hC0.alloc (by simp) (.cells #[.int .i64 0,.int .i64 0,.int .i64 0,.int .i64 0,.int .i64 0,.int .i64 0,.int .i64 0,.int .i64 0,.int .i64 0,.int .i64 0,.int .i64 0] 100)).alloc (by simp;omega) (.cells #[.int .i64 0,.int .i64 0,.int .i64 0,.int .i64 0,.int .i64 0,.int .i64 0,.int .i64 0,.int .i64 0,.int .i64 0,.int .i64 0,.int .i64 0] 100)
 have hb2:=(hb0.alloc (by simp) (.cells #[.int .i64 0,.int .i64 0,.int .i64 0,.int .i64 0,.int .i64 0,.int .i64 0,.int .i64 0,.int .i64 0,.int .i64 0,.int .i64 0,.int .i64 0] 100)).alloc (by simp;omega) (.cells #[.int .i64 0,.int .i64 0,.int .i64 0,.int .i64 0,.int .i64 0,.int .i64 0,.int .i64 0,.int .i64 0,.int .i64 0,.int .i64 0,.int .i64 0] 100)
 have hK2:=h.below hb2
 have hT2:HasR 11 (((w.alloc (.cells #[.int .i64 (c 0),.int .i64 (c 1),.int .i64 (c 2),.int .i64 (c 3),.int .i64 (c 4),.int .i64 (c 5),.int .i64 (c 6),.int .i64 (c 7),.int .i64 (c 8)] 31)).alloc (.cells #[.int .i64 0,.int .i64 0,.int .i64 0,.int .i64 0,.int .i64 0,.int .i64 0,.int .i64 0,.int .i64 0,.int .i64 0,.int .i64 0,.int .i64 0] 100)).alloc (.cells #[.int .i64 0,.int .i64 0,.int .i64 0,.int .i64 0,.int .i64 0,.int .i64 0,.int .i64 0,.int .i64 0,.int .i64 0,.int .i64 0,.int .i64 0] 100)) (w.heap.size+1) zeroT:=by
  have:=(HasR.newZ (w.alloc (.cells #[.int .i64 (c 0),.int .i64 (c 1),.int .i64 (c 2),.int .i64 (c 3),.int .i64 (c 4),.int .i64 (c 5),.int .i64 (c 6),.int .i64 (c 7),.int .i64 (c 8)] 31))).below ((Below.refl _ _).alloc nlr (.cells #[.int .i64 0,.int .i64 0,.int .i64 0,.int .i64 0,.int .i64 0,.int .i64 0,.int .i64 0,.int .i64 0,.int .i64 0,.int .i64 0,.int .i64 0] 100)) (by simp)
  simpa using this
 have hU2:HasR 11 (((w.alloc (.cells #[.int .i64 (c 0),.int .i64 (c 1),.int .i64 (c 2),.int .i64 (c 3),.int .i64 (c 4),.int .i64 (c 5),.int .i64 (c 6),.int .i64 (c 7),.int .i64 (c 8)] 31)).alloc (.cells #[.int .i64 0,.int .i64 0,.int .i64 0,.int .i64 0,.int .i64 0,.int .i64 0,.int .i64 0,.int .i64 0,.int .i64 0,.int .i64 0,.int .i64 0] 100)).alloc (.cells #[.int .i64 0,.int .i64 0,.int .i64 0,.int .i64 0,.int .i64 0,.int .i64 0,.int .i64 0,.int .i64 0,.int .i64 0,.int .i64 0,.int .i64 0] 100)) (w.heap.size+2) zeroT:=by
  have:=HasR.newZ ((w.alloc (.cells #[.int .i64 (c 0),.int .i64 (c 1),.int .i64 (c 2),.int .i64 (c 3),.int .i64 (c 4),.int .i64 (c 5),.int .i64 (c 6),.int .i64 (c 7),.int .i64 (c 8)] 31)).alloc (.cells #[.int .i64 0,.int .i64 0,.int .i64 0,.int .i64 0,.int .i64 0,.int .i64 0,.int .i64 0,.int .i64 0,.int .i64 0,.int .i64 0,.int .i64 0] 100))
  simpa using this
 have hz2:w.heap.size+2<(((w.alloc (.cells #[.int .i64 (c 0),.int .i64 (c 1),.int .i64 (c 2),.int .i64 (c 3),.int .i64 (c 4),.int .i64 (c 5),.int .i64 (c 6),.int .i64 (c 7),.int .i64 (c 8)] 31)).alloc (.cells #[.int .i64 0,.int .i64 0,.int .i64 0,.int .i64 0,.int .i64 0,.int .i64 0,.int .i64 0,.int .i64 0,.int .i64 0,.int .i64 0,.int .i64 0] 100)).alloc (.cells #[.int .i64 0,.int .i64 0,.int .i64 0,.int .i64 0,.int .i64 0,.int .i64 0,.int .i64 0,.int .i64 0,.int .i64 0,.int .i64 0,.int .i64 0] 100)).heap.size:=by simp
 generalize ((w.alloc (.cells #[.int .i64 (c 0),.int .i64 (c 1),.int .i64 (c 2),.int .i64 (c 3),.int .i64 (c 4),.int .i64 (c 5),.int .i64 (c 6),.int .i64 (c 7),.int .i64 (c 8)] 31)).alloc (.cells #[.int .i64 0,.int .i64 0,.int .i64 0,.int .i64 0,.int .i64 0,.int .i64 0,.int .i64 0,.int .i64 0,.int .i64 0,.int .i64 0,.int .i64 0] 100)).alloc (.cells #[.int .i64 0,.int .i64 0,.int .i64 0,.int .i64 0,.int .i64 0,.int .i64 0,.int .i64 0,.int .i64 0,.int .i64 0,.int .i64 0,.int .i64 0] 100)=w2 at *
 clear hC0 hb0 hK0
 go_cut [] from 13 to 29 (fun wc=>HasR 11 wc (w.heap.size+1) (tubeAt k.tubes (c 1))/\HasR 11 wc (w.heap.size+2) zeroT/\Has wc w.heap.size c/\BkAt wc b (.slice oa k.tubes.length cap) (.slice op k.poured.length cpp) k/\Below w.heap.size w wc/\w.heap.size+2<wc.heap.size)
 case first =>
  rcases findI_cases k.tubes (c 1) with ⟨e1,_,e2⟩ | ⟨hm,e1,e2⟩
  ·have E2:=hid e2
   clear e2
   generalize findI k.tubes (c 1)=kk at *
   generalize findI k.tubes (c 2)=oo at *
   go_wp2
   go_meet
   rw [E2.out]
   exact ⟨hT2,hU2,hC2,hK2,hb2,hz2⟩
  ·obtain ⟨g,rfl,_,hcap,hgl,t0,t1,t2,t3,t4,t5,t6,t7,t8,t9,t10,_⟩:=hK2.tube hm
   have hc10:=hK2.ct
   have hfz:=hT2.2
   have E2:=hid e2
   clear e2
   generalize k.tubes[(findI k.tubes (c 1)).toNat]=t at *
   generalize findI k.tubes (c 1)=kk at *
   generalize findI k.tubes (c 2)=oo at *
   have hm':kk<(k.tubes.length:Int):=by omega
   have z0:=hT2.1 0 (by omega)
   have z1:=hT2.1 1 (by omega)
   have z2:=hT2.1 2 (by omega)
   have z3:=hT2.1 3 (by omega)
   have z4:=hT2.1 4 (by omega)
   have z5:=hT2.1 5 (by omega)
   have z6:=hT2.1 6 (by omega)
   have z7:=hT2.1 7 (by omega)
   have z8:=hT2.1 8 (by omega)
   have z9:=hT2.1 9 (by omega)
   have z10:=hT2.1 10 (by omega)
   simp only [zeroT] at z0 z1 z2 z3 z4 z5 z6 z7 z8 z9 z10
   go_wp2
   go_meet
   rw [E2.out]
   have q4:=put11_size w2 (w.heap.size+1) t
   have q5:=keeps_put11 w2 (w.heap.size+1) t
   have HO:=HOw.out
   exact ⟨hT2.put11 t,hU2.keeps q5 hz2 (by omega),hC2.keeps q5 (by omega) (by omega),hK2.keeps q5 (fun g hg h=>by have:=HO g hg;omega),below_put11 hb2 (by omega) t,by rw [<- q4] at hz2;exact hz2⟩
 case rest =>
  clear hT2 hU2 hC2 hK2 hb2 hz2
  obtain ⟨hT2,hU2,hC2,hK2,hb2,hz2⟩:=hcut
  clear w2
  generalize wc=w2 at *
  go_upto_if 31 with fail
  go_cut [] from 13 to 38 (fun wc=>HasR 11 wc (w.heap.size+1) (tubeAt k.tubes (c 1))/\HasR 11 wc (w.heap.size+2) (tubeAt k.tubes (c 2))/\Has wc w.heap.size c/\BkAt wc b (.slice oa k.tubes.length cap) (.slice op k.poured.length cpp) k/\Below w.heap.size w wc/\w.heap.size+2<wc.heap.size)
  case first =>
   rcases findI_cases k.tubes (c 2) with ⟨e1,_,e2⟩ | ⟨hm,e1,e2⟩
   ·have E2:=hid e2
    clear e2
    generalize tubeAt k.tubes (c 1)=tt at *
    generalize findI k.tubes (c 1)=kk at *
    generalize findI k.tubes (c 2)=oo at *
    go_wp2
    go_meet
    rw [E2.out]
    exact ⟨hT2,hU2,hC2,hK2,hb2,hz2⟩
   ·obtain ⟨g,rfl,_,hcap,hgl,t0,t1,t2,t3,t4,t5,t6,t7,t8,t9,t10,_⟩:=hK2.tube hm
    have hc10:=hK2.ct
    have hfz:=hU2.2
    have E2:=hid e2
    clear e2
    generalize tubeAt k.tubes (c 1)=tt at *
    generalize k.tubes[(findI k.tubes (c 2)).toNat]=t at *
    generalize findI k.tubes (c 1)=kk at *
    generalize findI k.tubes (c 2)=oo at *
    have hm':oo<(k.tubes.length:Int):=by omega
    have z0:=hU2.1 0 (by omega)
    have z1:=hU2.1 1 (by omega)
    have z2:=hU2.1 2 (by omega)
    have z3:=hU2.1 3 (by omega)
    have z4:=hU2.1 4 (by omega)
    have z5:=hU2.1 5 (by omega)
    have z6:=hU2.1 6 (by omega)
    have z7:=hU2.1 7 (by omega)
    have z8:=hU2.1 8 (by omega)
    have z9:=hU2.1 9 (by omega)
    have z10:=hU2.1 10 (by omega)
    simp only [zeroT] at z0 z1 z2 z3 z4 z5 z6 z7 z8 z9 z10
    go_wp2
    go_meet
    rw [E2.out]
    have q4:=put11_size w2 (w.heap.size+2) t
    have q5:=keeps_put11 w2 (w.heap.size+2) t
    have HO:=HOw.out
    exact ⟨hT2.keeps q5 (by omega) (by omega),hU2.put11 t,hC2.keeps q5 (by omega) (by omega),hK2.keeps q5 (fun g hg h=>by have:=HO g hg;omega),below_put11 hb2 (by omega) t,by rw [<- q4] at hz2;exact hz2⟩
  case rest =>
   clear hT2 hU2 hC2 hK2 hb2 hz2
   obtain ⟨hT2,hU2,hC2,hK2,hb2,hz2⟩:=hcut
   clear w2
   generalize wc=w2 at *
   have c1:=hC2.1 1 (by omega)
   have c2:=hC2.1 2 (by omega)
   go_upto_if 46 with (go_at_call 91;refine (pair_any b _ _ k _ _ _ hK2).mono ?_;rintro e w2 ⟨rfl,rfl⟩)
   go_cut [9] from 13 to 54 (fun a wc=>a=.int .i64 (pouredAt k.poured (c 1) (c 2))/\wc=w2)
   case first =>
    rcases pairI_cases k.poured (c 1) (c 2) with ⟨e1,_,e2⟩ | ⟨hm,e1,e2⟩
    ·have E2:=hid e2
     clear e2
     generalize pairI k.poured (c 1) (c 2)=pp at *
     go_wp2
     go_meet
     rw [E2.out]
     exact ⟨rfl,rfl⟩
    ·obtain ⟨g,rfl,_,hcap,hgl,t0,t1,t2,_⟩:=hK2.pouredCell hm
     have hc11:=hK2.cp
     have E2:=hid e2
     clear e2
     generalize k.poured[(pairI k.poured (c 1) (c 2)).toNat]=t at *
     generalize pairI k.poured (c 1) (c 2)=pp at *
     have hm':pp<(k.poured.length:Int):=by omega
     go_wp2
     go_meet
     rw [E2.out]
     exact ⟨rfl,rfl⟩
   case rest =>
    obtain ⟨rfl,rfl⟩:=hcut
    clear c1 c2
    obtain ⟨c0,c1,c2,c3,c4,c5,c6,c7,c8⟩:=hC2.nine
    go_wp2_with fail
    refine (gives_any b _ _ k _ _ hK2).mono ?_
    rintro e w2 ⟨rfl,rfl⟩
    have s13:=hsm.tubeAt (c 1) 3
    have s14:=hsm.tubeAt (c 1) 4
    have s23:=hsm.tubeAt (c 2) 3
    have spp:=hsm.pouredAt (c 1) (c 2)
    have t3:=hT2.1 3 (by omega)
    have t4:=hT2.1 4 (by omega)
    have t6:=hT2.1 6 (by omega)
    have u3:=hU2.1 3 (by omega)
    have u6:=hU2.1 6 (by omega)
    have hwb:w.heap.size<w2.heap.size:=by omega
    rcases kinds hk1 hk2 with hk | hk | hk | hk | hk | hk | hk | hk | hk | hk | hk | hk | hk | hk | hk | hk
    ·have HE:Hid (errI k c=errNew k c):=by unfold errI;rw [hk];exact hid rfl
     unfold errNew at HE
     obtain ⟨box,hbox⟩:=Int.eq_ofNat_of_zero_le h0
     rw [hbox,Int.toNat_natCast] at HE
     have hside:=hK2.side box (by omega)
     have hbt:(box:Int)<10:=by omega
     generalize k.sides box=sd at *
     generalize tubeAt k.tubes (c 1) 6=t16 at *
     generalize tubeAt k.tubes (c 1) 3=t13 at *
     generalize tubeAt k.tubes (c 1) 4=t14 at *
     generalize tubeAt k.tubes (c 2) 6=t26 at *
     generalize tubeAt k.tubes (c 2) 3=t23 at *
     generalize pouredAt k.poured (c 1) (c 2)=pr at *
     generalize givesB k.tubes (c 3)=gv at *
     generalize findI k.tubes (c 1)=kk at *
     generalize findI k.tubes (c 2)=oo at *
     go_wp2_with fail
     go_quiet (fail)
     go_wp2
     all_goals
      go_ret
      refine ⟨ret_int ?_,below_drewN hb2 _⟩
      rw [HE.out]
      (repeat' split) <;> first | rfl | omega | (exfalso;simp_all;done)
    ·have HE:Hid (errI k c=errReg k c):=by unfold errI;rw [hk];exact hid rfl
     unfold errReg at HE
     have HM:=misplaced_any b _ _ k (c 1) c w2 hK2 h0 h9
     rw [hk] at HM
     have HMI:=hid HM
     clear HM
     generalize tubeAt k.tubes (c 1) 6=t16 at *
     generalize tubeAt k.tubes (c 1) 3=t13 at *
     generalize tubeAt k.tubes (c 1) 4=t14 at *
     generalize tubeAt k.tubes (c 2) 6=t26 at *
     generalize tubeAt k.tubes (c 2) 3=t23 at *
     generalize pouredAt k.poured (c 1) (c 2)=pr at *
     generalize givesB k.tubes (c 3)=gv at *
     generalize findI k.tubes (c 1)=kk at *
     generalize findI k.tubes (c 2)=oo at *
     go_wp2_with (go_at_call 93;refine HMI.out.mono ?_;rintro e w3 ⟨rfl,hb3⟩)
     all_goals
      go_ret
      first
       | (refine ⟨ret_int ?_,hb2.trans (hb3.mono (Nat.le_of_lt hwb))⟩;rw [HE.out];(repeat' split) <;> first | rfl | omega | (exfalso;simp_all;done))
       | (refine ⟨ret_int ?_,hb2⟩;rw [HE.out];(repeat' split) <;> first | rfl | omega | (exfalso;simp_all;done))
    ·have HE:Hid (errI k c=errMov k c 1):=by unfold errI;rw [hk];exact hid rfl
     unfold errMov at HE
     have HM:=misplaced_any b _ _ k (c 1) c w2 hK2 h0 h9
     rw [hk] at HM
     have HMI:=hid HM
     clear HM
     generalize tubeAt k.tubes (c 1) 6=t16 at *
     generalize tubeAt k.tubes (c 1) 3=t13 at *
     generalize tubeAt k.tubes (c 1) 4=t14 at *
     generalize tubeAt k.tubes (c 2) 6=t26 at *
     generalize tubeAt k.tubes (c 2) 3=t23 at *
     generalize pouredAt k.poured (c 1) (c 2)=pr at *
     generalize givesB k.tubes (c 3)=gv at *
     generalize findI k.tubes (c 1)=kk at *
     generalize findI k.tubes (c 2)=oo at *
     go_wp2_with (go_at_call 93;refine HMI.out.mono ?_;rintro e w3 ⟨rfl,hb3⟩)
     all_goals
      go_ret
      first
       | (refine ⟨ret_int ?_,hb2.trans (hb3.mono (Nat.le_of_lt hwb))⟩;rw [HE.out];(repeat' split) <;> first | rfl | omega | (exfalso;simp_all;done))
       | (refine ⟨ret_int ?_,hb2⟩;rw [HE.out];(repeat' split) <;> first | rfl | omega | (exfalso;simp_all;done))
    ·have HE:Hid (errI k c=errAli k c):=by unfold errI;rw [hk];exact hid rfl
     unfold errAli at HE
     have HM:=misplaced_any b _ _ k (c 2) c w2 hK2 h0 h9
     rw [hk] at HM
     have HMI:=hid HM
     clear HM
     generalize tubeAt k.tubes (c 1) 6=t16 at *
     generalize tubeAt k.tubes (c 1) 3=t13 at *
     generalize tubeAt k.tubes (c 1) 4=t14 at *
     generalize tubeAt k.tubes (c 2) 6=t26 at *
     generalize tubeAt k.tubes (c 2) 3=t23 at *
     generalize pouredAt k.poured (c 1) (c 2)=pr at *
     generalize givesB k.tubes (c 3)=gv at *
     generalize findI k.tubes (c 1)=kk at *
     generalize findI k.tubes (c 2)=oo at *
     go_wp2_with (go_at_call 93;refine HMI.out.mono ?_;rintro e w3 ⟨rfl,hb3⟩)
     all_goals
      go_ret
      first
       | (refine ⟨ret_int ?_,hb2.trans (hb3.mono (Nat.le_of_lt hwb))⟩;rw [HE.out];(repeat' split) <;> first | rfl | omega | (exfalso;simp_all;done))
       | (refine ⟨ret_int ?_,hb2⟩;rw [HE.out];(repeat' split) <;> first | rfl | omega | (exfalso;simp_all;done))
    ·have HE:Hid (errI k c=errPou k c):=by unfold errI;rw [hk];exact hid rfl
     unfold errPou at HE
     generalize tubeAt k.tubes (c 1) 6=t16 at *
     generalize tubeAt k.tubes (c 1) 3=t13 at *
     generalize tubeAt k.tubes (c 1) 4=t14 at *
     generalize tubeAt k.tubes (c 2) 6=t26 at *
     generalize tubeAt k.tubes (c 2) 3=t23 at *
     generalize pouredAt k.poured (c 1) (c 2)=pr at *
     generalize givesB k.tubes (c 3)=gv at *
     generalize findI k.tubes (c 1)=kk at *
     generalize findI k.tubes (c 2)=oo at *
     go_wp2
     all_goals
      go_ret
      refine ⟨ret_int ?_,hb2⟩
      rw [HE.out]
      (repeat' split) <;> first | rfl | omega | (exfalso;simp_all;done)
    ·have HE:Hid (errI k c=errUse k c):=by unfold errI;rw [hk];exact hid rfl
     unfold errUse at HE
     generalize tubeAt k.tubes (c 1) 6=t16 at *
     generalize tubeAt k.tubes (c 1) 3=t13 at *
     generalize tubeAt k.tubes (c 1) 4=t14 at *
     generalize tubeAt k.tubes (c 2) 6=t26 at *
     generalize tubeAt k.tubes (c 2) 3=t23 at *
     generalize pouredAt k.poured (c 1) (c 2)=pr at *
     generalize givesB k.tubes (c 3)=gv at *
     generalize findI k.tubes (c 1)=kk at *
     generalize findI k.tubes (c 2)=oo at *
     go_wp2
     all_goals
      go_ret
      refine ⟨ret_int ?_,hb2⟩
      rw [HE.out]
      (repeat' split) <;> first | rfl | omega | (exfalso;simp_all;done)
    ·have HE:Hid (errI k c=errTak k c):=by unfold errI;rw [hk];exact hid rfl
     unfold errTak at HE
     generalize tubeAt k.tubes (c 1) 6=t16 at *
     generalize tubeAt k.tubes (c 1) 3=t13 at *
     generalize tubeAt k.tubes (c 1) 4=t14 at *
     generalize tubeAt k.tubes (c 2) 6=t26 at *
     generalize tubeAt k.tubes (c 2) 3=t23 at *
     generalize pouredAt k.poured (c 1) (c 2)=pr at *
     generalize givesB k.tubes (c 3)=gv at *
     generalize findI k.tubes (c 1)=kk at *
     generalize findI k.tubes (c 2)=oo at *
     go_wp2
     all_goals
      go_ret
      refine ⟨ret_int ?_,hb2⟩
      rw [HE.out]
      (repeat' split) <;> first | rfl | omega | (exfalso;simp_all;done)
    ·have HE:Hid (errI k c=errMov k c 2):=by unfold errI;rw [hk];exact hid rfl
     unfold errMov at HE
     have HM:=misplaced_any b _ _ k (c 1) c w2 hK2 h0 h9
     rw [hk] at HM
     have HMI:=hid HM
     clear HM
     generalize tubeAt k.tubes (c 1) 6=t16 at *
     generalize tubeAt k.tubes (c 1) 3=t13 at *
     generalize tubeAt k.tubes (c 1) 4=t14 at *
     generalize tubeAt k.tubes (c 2) 6=t26 at *
     generalize tubeAt k.tubes (c 2) 3=t23 at *
     generalize pouredAt k.poured (c 1) (c 2)=pr at *
     generalize givesB k.tubes (c 3)=gv at *
     generalize findI k.tubes (c 1)=kk at *
     generalize findI k.tubes (c 2)=oo at *
     go_wp2_with (go_at_call 93;refine HMI.out.mono ?_;rintro e w3 ⟨rfl,hb3⟩)
     all_goals
      go_ret
      first
       | (refine ⟨ret_int ?_,hb2.trans (hb3.mono (Nat.le_of_lt hwb))⟩;rw [HE.out];(repeat' split) <;> first | rfl | omega | (exfalso;simp_all;done))
       | (refine ⟨ret_int ?_,hb2⟩;rw [HE.out];(repeat' split) <;> first | rfl | omega | (exfalso;simp_all;done))
    ·have HE:Hid (errI k c=errDon k c):=by unfold errI;rw [hk];exact hid rfl
     unfold errDon at HE
     generalize tubeAt k.tubes (c 1) 6=t16 at *
     generalize tubeAt k.tubes (c 1) 3=t13 at *
     generalize tubeAt k.tubes (c 1) 4=t14 at *
     generalize tubeAt k.tubes (c 2) 6=t26 at *
     generalize tubeAt k.tubes (c 2) 3=t23 at *
     generalize pouredAt k.poured (c 1) (c 2)=pr at *
     generalize givesB k.tubes (c 3)=gv at *
     generalize findI k.tubes (c 1)=kk at *
     generalize findI k.tubes (c 2)=oo at *
     go_wp2
     all_goals
      go_ret
      refine ⟨ret_int ?_,hb2⟩
      rw [HE.out]
      (repeat' split) <;> first | rfl | omega | (exfalso;simp_all;done)
    ·have HE:Hid (errI k c=errBox k c):=by unfold errI;rw [hk];exact hid rfl
     unfold errBox at HE
     obtain ⟨box,hbox⟩:=Int.eq_ofNat_of_zero_le h0
     rw [hbox,Int.toNat_natCast] at HE
     have hside:=hK2.side box (by omega)
     have hbt:(box:Int)<10:=by omega
     generalize k.sides box=sd at *
     generalize tubeAt k.tubes (c 1) 6=t16 at *
     generalize tubeAt k.tubes (c 1) 3=t13 at *
     generalize tubeAt k.tubes (c 1) 4=t14 at *
     generalize tubeAt k.tubes (c 2) 6=t26 at *
     generalize tubeAt k.tubes (c 2) 3=t23 at *
     generalize pouredAt k.poured (c 1) (c 2)=pr at *
     generalize givesB k.tubes (c 3)=gv at *
     generalize findI k.tubes (c 1)=kk at *
     generalize findI k.tubes (c 2)=oo at *
     go_wp2_with fail
     go_quiet (fail)
     go_wp2
     all_goals
      go_ret
      refine ⟨ret_int ?_,below_drewN hb2 _⟩
      rw [HE.out]
      (repeat' split) <;> first | rfl | omega | (exfalso;simp_all;done)
    ·have HE:Hid (errI k c=errBox k c):=by unfold errI;rw [hk];exact hid rfl
     unfold errBox at HE
     obtain ⟨box,hbox⟩:=Int.eq_ofNat_of_zero_le h0
     rw [hbox,Int.toNat_natCast] at HE
     have hside:=hK2.side box (by omega)
     have hbt:(box:Int)<10:=by omega
     generalize k.sides box=sd at *
     generalize tubeAt k.tubes (c 1) 6=t16 at *
     generalize tubeAt k.tubes (c 1) 3=t13 at *
     generalize tubeAt k.tubes (c 1) 4=t14 at *
     generalize tubeAt k.tubes (c 2) 6=t26 at *
     generalize tubeAt k.tubes (c 2) 3=t23 at *
     generalize pouredAt k.poured (c 1) (c 2)=pr at *
     generalize givesB k.tubes (c 3)=gv at *
     generalize findI k.tubes (c 1)=kk at *
     generalize findI k.tubes (c 2)=oo at *
     go_wp2_with fail
     go_quiet (fail)
     go_wp2
     all_goals
      go_ret
      refine ⟨ret_int ?_,below_drewN hb2 _⟩
      rw [HE.out]
      (repeat' split) <;> first | rfl | omega | (exfalso;simp_all;done)
    ·have HE:Hid (errI k c=errTub k c):=by unfold errI;rw [hk];exact hid rfl
     unfold errTub at HE
     generalize tubeAt k.tubes (c 1) 6=t16 at *
     generalize tubeAt k.tubes (c 1) 3=t13 at *
     generalize tubeAt k.tubes (c 1) 4=t14 at *
     generalize tubeAt k.tubes (c 2) 6=t26 at *
     generalize tubeAt k.tubes (c 2) 3=t23 at *
     generalize pouredAt k.poured (c 1) (c 2)=pr at *
     generalize givesB k.tubes (c 3)=gv at *
     generalize findI k.tubes (c 1)=kk at *
     generalize findI k.tubes (c 2)=oo at *
     go_wp2
     all_goals
      go_ret
      refine ⟨ret_int ?_,hb2⟩
      rw [HE.out]
      (repeat' split) <;> first | rfl | omega | (exfalso;simp_all;done)
    ·have HE:Hid (errI k c=errBox k c):=by unfold errI;rw [hk];exact hid rfl
     unfold errBox at HE
     obtain ⟨box,hbox⟩:=Int.eq_ofNat_of_zero_le h0
     rw [hbox,Int.toNat_natCast] at HE
     have hside:=hK2.side box (by omega)
     have hbt:(box:Int)<10:=by omega
     generalize k.sides box=sd at *
     generalize tubeAt k.tubes (c 1) 6=t16 at *
     generalize tubeAt k.tubes (c 1) 3=t13 at *
     generalize tubeAt k.tubes (c 1) 4=t14 at *
     generalize tubeAt k.tubes (c 2) 6=t26 at *
     generalize tubeAt k.tubes (c 2) 3=t23 at *
     generalize pouredAt k.poured (c 1) (c 2)=pr at *
     generalize givesB k.tubes (c 3)=gv at *
     generalize findI k.tubes (c 1)=kk at *
     generalize findI k.tubes (c 2)=oo at *
     go_wp2_with fail
     go_quiet (fail)
     go_wp2
     all_goals
      go_ret
      refine ⟨ret_int ?_,below_drewN hb2 _⟩
      rw [HE.out]
      (repeat' split) <;> first | rfl | omega | (exfalso;simp_all;done)
    ·have HE:Hid (errI k c=errDon k c):=by unfold errI;rw [hk];exact hid rfl
     unfold errDon at HE
     generalize tubeAt k.tubes (c 1) 6=t16 at *
     generalize tubeAt k.tubes (c 1) 3=t13 at *
     generalize tubeAt k.tubes (c 1) 4=t14 at *
     generalize tubeAt k.tubes (c 2) 6=t26 at *
     generalize tubeAt k.tubes (c 2) 3=t23 at *
     generalize pouredAt k.poured (c 1) (c 2)=pr at *
     generalize givesB k.tubes (c 3)=gv at *
     generalize findI k.tubes (c 1)=kk at *
     generalize findI k.tubes (c 2)=oo at *
     go_wp2
     all_goals
      go_ret
      refine ⟨ret_int ?_,hb2⟩
      rw [HE.out]
      (repeat' split) <;> first | rfl | omega | (exfalso;simp_all;done)
    ·have HE:Hid (errI k c=errTub k c):=by unfold errI;rw [hk];exact hid rfl
     unfold errTub at HE
     generalize tubeAt k.tubes (c 1) 6=t16 at *
     generalize tubeAt k.tubes (c 1) 3=t13 at *
     generalize tubeAt k.tubes (c 1) 4=t14 at *
     generalize tubeAt k.tubes (c 2) 6=t26 at *
     generalize tubeAt k.tubes (c 2) 3=t23 at *
     generalize pouredAt k.poured (c 1) (c 2)=pr at *
     generalize givesB k.tubes (c 3)=gv at *
     generalize findI k.tubes (c 1)=kk at *
     generalize findI k.tubes (c 2)=oo at *
     go_wp2
     all_goals
      go_ret
      refine ⟨ret_int ?_,hb2⟩
      rw [HE.out]
      (repeat' split) <;> first | rfl | omega | (exfalso;simp_all;done)
    ·have HE:Hid (errI k c=errTub k c):=by unfold errI;rw [hk];exact hid rfl
     unfold errTub at HE
     generalize tubeAt k.tubes (c 1) 6=t16 at *
     generalize tubeAt k.tubes (c 1) 3=t13 at *
     generalize tubeAt k.tubes (c 1) 4=t14 at *
     generalize tubeAt k.tubes (c 2) 6=t26 at *
     generalize tubeAt k.tubes (c 2) 3=t23 at *
     generalize pouredAt k.poured (c 1) (c 2)=pr at *
     generalize givesB k.tubes (c 3)=gv at *
     generalize findI k.tubes (c 1)=kk at *
     generalize findI k.tubes (c 2)=oo at *
     go_wp2
     all_goals
      go_ret
      refine ⟨ret_int ?_,hb2⟩
      rw [HE.out]
      (repeat' split) <;> first | rfl | omega | (exfalso;simp_all;done)
end
section
open Go.RowKit Go.Shelf
attribute [local go_sem] run_store_cplx
def PT.noPl (q:PT):Bool:=decide (q.box=0)&&(decide (q.x=0)&&decide (q.y=0))
def PT.recS (q:PT):Bool :=
 (decide (1<=q.donor)&&decide (q.donor<=99))&&decide (q.thaws<=9)&&(decide (q.began<=1000000)&&decide (q.left<=1000000)&&decide (q.used<=1000000)&&decide (q.lost<=1000000)) &&
  (if q.status=1 then decide (q.lost=0) else if q.status=2 then decide (q.lost=0)&&q.noPl else if q.status=3 then decide (q.left=0)&&q.noPl else false)
theorem fl0:fl 0=0:=rfl
def PT.lim (q:PT):Prop:=1<=q.donor/\q.donor<=99/\q.thaws<=9/\q.began<=1000000/\q.left<=1000000/\q.used<=1000000/\q.lost<=1000000
theorem PT.recS_bad {q:PT} (h:¬ q.lim):q.recS=false:=by
 cases e:q.recS with
 | false=>rfl
 | true =>
  exfalso;apply h
  unfold PT.recS at e
  simp only [Bool.and_eq_true,decide_eq_true_eq] at e
  unfold PT.lim;omega
theorem PT.recS_ok {q:PT} (h:q.lim):q.recS=(if q.status=1 then decide (q.lost=0) else if q.status=2 then decide (q.lost=0)&&q.noPl else if q.status=3 then decide (q.left=0)&&q.noPl else false):=by
 unfold PT.lim at h
 unfold PT.recS
 rw [decide_eq_true (by omega:1<=q.donor),decide_eq_true (by omega:q.donor<=99),decide_eq_true (by omega:q.thaws<=9),decide_eq_true (by omega:q.began<=1000000),decide_eq_true (by omega:q.left<=1000000),decide_eq_true (by omega:q.used<=1000000),decide_eq_true (by omega:q.lost<=1000000)]
 simp only [Bool.and_self,Bool.true_and]
def mx4 (a b c d:Int):Int:=if d > (if c > (if b > a then b else a) then c else (if b > a then b else a)) then d else (if c > (if b > a then b else a) then c else (if b > a then b else a))
theorem mx4_le (a b c d k:Int):mx4 a b c d<=k↔a<=k/\b<=k/\c<=k/\d<=k:=by
 unfold mx4
 repeat' split
 all_goals omega
theorem run_max4 (w:World) (ts:Array TypeId) (t:TypeId) (a b c d:Int) :
  (Builtin.max_ ts t #[.int .i64 a,.int .i64 b,.int .i64 c,.int .i64 d]).run prog w=.ok (.int .i64 (mx4 a b c d)) w:=by
 simp [Builtin.max_,Builtin.max2,mx4]
theorem tubeSound_any (q:PT) (hq:q.Ok) (w:World) :
  Calls prog 190 #[q.val] w fun e w'=>e=.returned (.bool q.recS)/\Below w.heap.size w w':=by
 have hF:=hid (fun (u:World)=>isFrom_any 1 (q.donor:Int) 99 u)
 have o1:=fl_ord' hq.x (show 0<256 by omega)
 have o2:=fl_ord' hq.y (show 0<256 by omega)
 rw [fl0] at o1 o2
 have hM:=mx4_le (q.began:Int) (q.left:Int) (q.used:Int) (q.lost:Int) 1000000
 have hmx:=run_max4
 simp only [PT.val,PT.cells,pl]
 have HO1:=hid o1
 have HO2:=hid o2
 have HMx:=hid hM
 clear o1 o2 hM
 generalize fl q.x=fx at *
 generalize fl q.y=fy at *
 go_enter func190,ntmps190
 go_wp2_with (go_at_call 183;refine (hF.out _).mono ?_;rintro e w2 ⟨rfl,rfl⟩)
 all_goals
  go_ret
  have m1:=HMx.out
  have a1:=HO1.out
  have a2:=HO2.out
  refine ⟨congrArg Ending.returned (congrArg Value.bool ?_),(Below.refl _ w).alloc nlr _⟩
  have e3:(FloatKind.f64.format.order fx 0 == some Ordering.eq&&FloatKind.f64.format.order fy 0 == some Ordering.eq)=(decide (q.x=0)&&decide (q.y=0)):=by
   rw [show (FloatKind.f64.format.order fx 0 == some Ordering.eq)=decide (q.x=0) by rw [Bool.eq_iff_iff,beq_iff_eq,decide_eq_true_eq];exact a1,show (FloatKind.f64.format.order fy 0 == some Ordering.eq)=decide (q.y=0) by rw [Bool.eq_iff_iff,beq_iff_eq,decide_eq_true_eq];exact a2]
  try rw [e3]
  clear e3 a1 a2
  try simp only [beq_iff_eq,beq_eq_false_iff_ne,ne_eq] at *
  first
   | (rw [PT.recS_bad (by unfold PT.lim;omega)];done)
   | (rw [PT.recS_ok (by unfold PT.lim;omega),if_pos (by omega)];first | done | (rw [Bool.eq_iff_iff,beq_iff_eq,decide_eq_true_eq];omega))
   | (rw [PT.recS_ok (by unfold PT.lim;omega),if_neg (by omega),if_pos (by omega)];unfold PT.noPl;simp [*];done)
   | (rw [PT.recS_ok (by unfold PT.lim;omega),if_neg (by omega),if_neg (by omega),if_pos (by omega)];unfold PT.noPl;simp [*];done)
   | (rw [PT.recS_ok (by unfold PT.lim;omega),if_neg (by omega),if_neg (by omega),if_neg (by omega)];done)
end
end Go.Proofs.YtalncjhldkcmaaaGreat
