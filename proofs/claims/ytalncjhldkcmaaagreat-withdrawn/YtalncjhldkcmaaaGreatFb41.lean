import Derived.Test.YtalncjhldkcmaaaGreatFb22
import Derived.Deep.AppendLies
import Derived.Test.YtalncjhldkcmaaaGreatFb07
import Derived.Test.YtalncjhldkcmaaaGreatFb06
import Derived.Test.YtalncjhldkcmaaaGreatFb38
import Derived.Test.YtalncjhldkcmaaaGreatFb32
import Derived.Test.YtalncjhldkcmaaaGreatFb34
import Derived.Test.YtalncjhldkcmaaaGreatFb37
namespace Go.Proofs.YtalncjhldkcmaaaGreat
open _root_.Go.Proofs.Tryz
set_option maxHeartbeats 16000000
set_option maxRecDepth 8000
section
open Go.RowKit Go.Shelf
attribute [local go_sem] Oper.semAt_some
theorem textW_succ (f:Nat) (x:List UInt8) {i:Nat} (h:i<pieces x):(textW f x).take (i+1)=(textW f x).take i++[(((f:Int)+1+(i:Int)),piece x i)]:=by
 unfold textW
 rw [<- List.map_take,<- List.map_take,range_take_succ h,List.map_append,List.map_singleton]
 simp
theorem wrap_next (t:Nat):IntKind.u64.wrap ((t:Int)+1)=((nextT t:Nat):Int):=by
 rw [show (t:Int)+1=((t+1:Nat):Int) by omega,wrapU];rfl
theorem s_trans {w1 u w':World} {a b:Addr} {v x:Value} (hb:Below u.heap.size u w') (h:Below w1.heap.size w1 u/\u.cell? a=some v/\u.cell? b=some x):Below w1.heap.size w1 w':=h.1.trans (hb.mono h.1.size)
theorem s_alloc {w1 u:World} {a b:Addr} {v x:Value} (h:Below w1.heap.size w1 u/\u.cell? a=some v/\u.cell? b=some x) (o:Obj):Below w1.heap.size w1 (u.alloc o):=h.1.alloc h.1.size _
theorem s_size {w1 u:World} {a b:Addr} {v x:Value} (h:Below w1.heap.size w1 u/\u.cell? a=some v/\u.cell? b=some x):w1.heap.size<=u.heap.size:=h.1.size
theorem s_drew {w1 u:World} {a b:Addr} {v x:Value} (h:Below w1.heap.size w1 u/\u.cell? a=some v/\u.cell? b=some x):Below w1.heap.size w1 u.drew:=h.1.drew
theorem wrap_small (k:Nat) (h:k<=1000):IntKind.i64.wrap (k:Int)=(k:Int):=by
 simp only [IntKind.wrap,IntKind.bits,IntKind.signed]
 simp
 omega
theorem Tryz.infoWrite:(prog.info? 84).map (fun i=>(i.zero,i.size,i.bytes))=some (some (.agg #[.int .i64 0,.string ⟨#[]⟩]),2,24):=by kernel_rfl
theorem underlying54:prog.underlying 54=some (.slice 84):=by kernel_rfl
theorem range_pre {pre:List Nat} {i k:Nat} (h:pre++[i] <+: List.range k):pre.length=i/\i<k:=by
 obtain ⟨t,ht⟩:=h
 have h1:(pre++[i]++t)[pre.length]? = some i:=by simp
 rw [ht] at h1
 obtain ⟨hl,he⟩:=List.getElem?_eq_some_iff.1 h1
 simp at he hl
 exact ⟨he,by omega⟩
theorem three_cells (w:World) (f:Nat) (h:List UInt8):∀ j u,(wCells [(-1,[]),((f:Int),h),(-1,[])])[j]? = some u->(w.alloc (.cells #[.int .i64 (-1),.string ⟨#[]⟩,.int .i64 f,.string ⟨h.toArray⟩,.int .i64 (-1),.string ⟨#[]⟩] 84)).cell? ((⟨w.heap.size,0,none⟩:Addr).add j)=some u:=by
 intro j u hj
 have hN:=RecAt.new w #[.int .i64 (-1),.string ⟨#[]⟩,.int .i64 f,.string ⟨h.toArray⟩,.int .i64 (-1),.string ⟨#[]⟩] 84
 rw [addr_add,hN.cell j]
 rw [<- hj]
 simp [wCells]
theorem three_one (f:Nat) (h:List UInt8):∀ u∈wCells [(-1,[]),((f:Int),h),(-1,[])],u.oneCell'=true:=by
 intro u hu
 simp [wCells] at hu
 rcases hu with rfl | rfl | rfl | rfl | rfl | rfl <;> rfl
theorem own_mono {w:World} {B B':Nat} {e:TypeId} {k n:Nat} {v:Value} {xs:List Value} (h:w.ownsRow B e k v n xs) (hb:B'<=B):w.ownsRow B' e k v n xs :=
 ⟨h.1,h.2.imp id fun ⟨g,cap,cur,hv,hB,r⟩=>⟨g,cap,cur,hv,Nat.le_trans hb hB,r⟩⟩
theorem far_cellK {W W':World} {o:Obj} {row:Option Nat} {p:Addr} {v:Value} (h:W.cell? p=some v) (hg:(W.alloc o).grownBy W' row) (hne:row≠some p.block):W'.cell? p=some v :=
 hg.cell ((((Below.refl _ W).alloc nlr o).cell (World.block_lt_of_cell? W p h)).trans h) (fun e=>hne e.symm)
theorem keep_end {R:Ending->World->Prop} {V':World} {D:Nat} {v t0 t1 t2 t3 t5 t6 t7 t8 t9 t10 t11 t12 t13 t14 t15 t16 t17 t18 t19 t20 t21 t22 t23 t24 t25 t26 t27 t28 t29 t30 t31 t32 t33 t34 t35 t36 t37 t38 t39 t40 t41 t42 t43 t44 t45 t46 t47 t48 t49 t50 t51 t52 t53 t54 t55 t56 t57 t58 t59 t60 t61 t62 t63 t64:Value} (hD:V'.heap[D]? = some (.deferred (some []))) (hR:∀ W',V'.grownBy W' (some D)->R (.returned v) W') :
  bodyPostM Fence.wide 0 prog Tryz.f44 R .ret { tmps:=#[t0,t1,t2,t3,v,t5,t6,t7,t8,t9,t10,t11,t12,t13,t14,t15,t16,t17,t18,t19,t20,t21,t22,t23,t24,t25,t26,t27,t28,t29,t30,t31,t32,t33,t34,t35,t36,t37,t38,t39,t40,t41,t42,t43,t44,t45,t46,t47,t48,t49,t50,t51,t52,t53,t54,t55,t56,t57,t58,t59,t60,t61,t62,t63,t64],defers:=[{ target:=.collected D,args:=#[] }] } V':=by
 refine ⟨by simp,.inl ⟨_,_,rfl,run_takeDeferred hD,?_⟩⟩
 refine ⟨v,by simp [results,results44,go_sem],?_⟩
 exact hR _ (grownBy_putObj' V' D _)
def KeepEnds (l:Nat) (d:Nat×Nat) (r:Option Addr) (n lim:Int) (x:ByteArray) (w:World) (e:Ending) (w':World):Prop:=∃ v,e=.returned v/\WrV w.heap.size w' v (keepW d.1 d.2 x.data.toList)/\LedBox w' l (d.1,nextT d.2) r n lim/\Keeps (fun k=>k=l) w w'
theorem keep_any (l:Nat) (d:Nat×Nat) (r:Option Addr) (n lim:Int) (x:ByteArray) (hd0:16<=d.1) (hd1:d.1<=256) (hx:x.size<=30000) (w:World) (hB:LedBox w l d r n lim) :
  Calls prog 44 #[.pointer (some ⟨l,0,none⟩),.string x] w (KeepEnds l d r n lim x w):=by
 have hmx:prog.follows .mixedOrders=true:=by kernel_rfl
 have ct:=hB.ct
 have hfz:=hB.fz 1
 have hwn:=wrap_next d.2
 refine calls_marks func44 rfl ?_
 simp only [ntmps44,List.size_toArray,List.length_cons,List.length_nil,Nat.reduceAdd,Nat.reduceSub,Array.replicate_succ,Array.replicate_zero,List.push_toArray,List.append_toArray,List.nil_append,List.cons_append]
 go_upto_region 2 with fail
 have hB1:LedBox (w.setCell ⟨l,1,none⟩ (.int .u64 (nextT d.2))) l (d.1,nextT d.2) r n lim:=RecAt.set (show RecAt w l _ _ from hB) 1 (.int .u64 (nextT d.2))
 have hk1:Keeps (fun k=>k=l) w (w.setCell ⟨l,1,none⟩ (.int .u64 (nextT d.2))):=(Keeps.refl (fun k=>k=l) w).setCell (p:=⟨l,1,none⟩) (.inl rfl) _
 generalize w.setCell ⟨l,1,none⟩ (.int .u64 (nextT d.2))=w1 at *
 have hnt:nextT d.2<18446744073709551616:=Nat.mod_lt _ (by decide)
 have c0:w1.cell? ⟨l,0,none⟩=some (.int .i64 d.1):=hB1.cs
 have c1:w1.cell? ⟨l,1,none⟩=some (.int .u64 (nextT d.2)):=hB1.ct
 have hll:=hB1.lt
 have HF:=hid (fun u=>first_any d.1 (nextT d.2) (nextT d.2) (by omega) hnt u)
 obtain ⟨f,hf⟩:∃ f,f=nextT d.2 % 2*(d.1 / 2):=⟨_,rfl⟩
 have hf1:f<=128:=by rw [hf];have:=Nat.mod_lt (nextT d.2) (show 0<2 by decide);rcases (show nextT d.2 % 2=0\/nextT d.2 % 2=1 by omega) with h | h <;> rw [h] <;> omega
 rw [<- hf] at HF
 have Hf:=hid hf
 clear hf
 have hS:∀ u,Below w1.heap.size w1 u->Below w1.heap.size w1 u/\u.cell? ⟨l,0,none⟩=some (.int .i64 d.1)/\u.cell? ⟨l,1,none⟩=some (.int .u64 (nextT d.2)):=fun u h=>⟨h,(h.cell (p:=⟨l,0,none⟩) hll).trans c0,(h.cell (p:=⟨l,1,none⟩) hll).trans c1⟩
 have HB1:=hid hB1
 clear hB ct hfz hwn hB1
 refine Code.wp_mono (Q:=fun e a' w'=>∃ b,e=.normal/\a'={ tmps:=#[.pointer (some ⟨l,0,none⟩),.string x,undef,undef,.slice none 0 0,.pointer (some ⟨b,0,none⟩),undef,undef,undef,undef,.pointer (some ⟨l,0,none⟩),.pointer (some ⟨l,0,none⟩),.pointer (some ⟨l,1,none⟩),.int .u64 d.2,.int .u64 (nextT d.2),.pointer (some ⟨l,0,none⟩),.pointer (some ⟨l,1,none⟩),.pointer (some ⟨l,0,none⟩),.pointer (some ⟨l,0,none⟩),.agg #[.int .i64 d.1,.int .u64 (nextT d.2)],.pointer (some ⟨l,0,none⟩),.pointer (some ⟨l,0,none⟩),.pointer (some ⟨l,1,none⟩),.int .u64 (nextT d.2),.int .i64 f,undef,undef,undef,undef,undef,undef,undef,undef,undef,undef,undef,undef,undef,undef,undef,undef,undef,undef,undef,undef,undef,undef,undef,undef,undef,undef,undef,undef,undef,undef,undef,undef,undef,undef,undef,undef,undef,undef,undef,undef],defers:=[] }/\RecAt w' b #[.int .i64 f] 3/\w1.heap.size<=b/\Below w1.heap.size w1 w') ?imp ?reg
 case reg =>
  go_region_held3 (fun u=>Below w1.heap.size w1 u/\u.cell? ⟨l,0,none⟩=some (.int .i64 d.1)/\u.cell? ⟨l,1,none⟩=some (.int .u64 (nextT d.2))) (first | assumption | exact hS _ (by first | assumption | exact (Below.refl _ _).drew | exact s_alloc (by assumption) _ | exact s_drew (by assumption) | exact Below.alloc hB' (Below.size hB') _ | exact hB'.setCell (p:=⟨_,0,none⟩) hge _)) (first
   | (go_at_call 73;refine (HF.out _).mono ?_;rintro e w' ⟨rfl,hb⟩;(first | (obtain ⟨hz,hge⟩:=new_kept_d (n:=w1.heap.size) hb (by first | exact hB'.size | exact s_size (by assumption) | exact Nat.le_refl _);have z0:=hz.cell 0;have y0:=hz.fz 0) | (obtain ⟨hz,hge⟩:=new_kept (n:=w1.heap.size) hb (by first | exact hB'.size | exact s_size (by assumption) | exact Nat.le_refl _);have z0:=hz.cell 0;have y0:=hz.fz 0) | skip);have hB':Below w1.heap.size w1 w':=s_trans hb (by assumption)))
  ·exact ⟨_,rfl,rfl,RecAt.new _ _ _,hB'.size,hB'.alloc hB'.size _⟩
  ·exact ⟨_,rfl,rfl,hz.set 0 _,hge,hB'.setCell (p:=⟨_,0,none⟩) hge _⟩
 case imp =>
  rintro e a' w2 ⟨b,rfl,rfl,hR2,hb2,hBW⟩
  clear c0 c1 hS HF
  have HR2:=hid hR2
  have HBW:=hid hBW
  have hcv:=conv_bytes x (w2.alloc (.cells #[.slice none 0 0] 54))
  have hbl:=hR2.lt
  clear hR2 hBW
  go_wp2_with fail
  have hw3:=bytesWorld_below (w2.alloc (.cells #[.slice none 0 0] 54)) 5 x
  have hRw:RecAt (Lib.bytesWorld (w2.alloc (.cells #[.slice none 0 0] 54)) 5 x) w2.heap.size #[.slice none 0 0] 54:=(RecAt.new w2 _ _).on hw3
  have hs3:(Lib.bytesWorld (w2.alloc (.cells #[.slice none 0 0] 54)) 5 x).heap.size=w2.heap.size+2:=by rw [Lib.bytesWorld_size];simp
  have hcell:∀ j,j<x.size->(Lib.bytesWorld (w2.alloc (.cells #[.slice none 0 0] 54)) 5 x).cell? ⟨w2.heap.size+1,j,none⟩=some (.int .u8 (x.data.toList.getD j 0).toNat):=fun j hj=>by
   have:=Lib.bytesWorld_cell (w2.alloc (.cells #[.slice none 0 0] 54)) 5 x j hj
   rw [show (w2.alloc (.cells #[.slice none 0 0] 54)).heap.size=w2.heap.size+1 by simp] at this
   exact this
  have hcp:=grownCap_ge (w2.alloc (.cells #[.slice none 0 0] 54)) x.size 0 5
  have hB23:Below w2.heap.size w2 (Lib.bytesWorld (w2.alloc (.cells #[.slice none 0 0] 54)) 5 x):=((Below.refl _ w2).alloc nlr _).trans (hw3.mono (by simp))
  clear hcv hw3
  generalize Lib.bytesWorld (w2.alloc (.cells #[.slice none 0 0] 54)) 5 x=w3 at *
  generalize grownCap (w2.alloc (.cells #[.slice none 0 0] 54)) x.size 0 5=cp at *
  refine (chunk_any _ _ _ _).mono ?_
  rintro e w4 ⟨rfl,hw4⟩
  have hb34:Below w3.heap.size w3 w4:=by rw [hw4];exact ((Below.refl _ w3).alloc nlr _).alloc (by simp) _
  have d1:w4.cell? ⟨w3.heap.size,0,none⟩=some (.slice (some ⟨w2.heap.size+1,0,none⟩) x.size cp):=by
   rw [hw4];exact ((RecAt.new w3 _ _).on (bal)).cell 0
  have d2:w4.cell? ⟨w3.heap.size+1,0,none⟩=some (.int .i64 128):=by
   have:=(RecAt.new (w3.alloc (.cells #[.slice (some ⟨w2.heap.size+1,0,none⟩) x.size cp] 51)) #[.int .i64 128] 3).cell 0
   rw [hw4];simp at this ⊢
  have hs4:w4.heap.size=w3.heap.size+2:=by rw [hw4];simp
  have hRw4:=hRw.on hb34
  have hR4:=(HR2.out.on hB23).on hb34
  have hcell4:∀ j,j<x.size->w4.cell? ⟨w2.heap.size+1,j,none⟩=some (.int .u8 (x.data.toList.getD j 0).toNat):=fun j hj=>(hb34.cell (p:=⟨w2.heap.size+1,j,none⟩) (by show w2.heap.size+1<_;omega)).trans (hcell j hj)
  clear hw4 hcell hRw
  have hB14:Below w1.heap.size w1 w4:=HBW.out.trans ((hB23.trans (hb34.mono (by omega))).mono HBW.out.size)
  have hG:=chunk1_givesM (fun k=>k=w2.heap.size) w3.heap.size (w3.heap.size+1) (w2.heap.size+1) x.size cp (by omega) hcp w4 (by omega) (by omega) d1 d2 (by omega) (by omega)
  have HC4:=hid hcell4
  have Hs:=hid (And.intro hs3 hs4)
  clear hcell4 d1 d2 hs3 hs4
  go_wp2_with fail
  obtain ⟨hs3,hs4⟩:=Hs.out
  clear Hs
  refine (wpIn_wide (n:=0)).1 ?_
  have hgr:=HBW.out.size
  refine rangeM_law (gf:=122) (lb:=#[.pointer (some ⟨w3.heap.size,0,none⟩),.pointer (some ⟨w3.heap.size+1,0,none⟩)]) rfl (enters_of func122 (by kernel_rfl) rfl) hG (Below.refl _ _) (fun k h=>by omega) (fun _=>rfl)
   (fun M pre V=>∃ v,RecAt V w2.heap.size #[v] 54/\V.ownsRow M 84 2 v pre.length (wCells ((textW f x.data.toList).take pre.length))/\Keeps (fun k=>k=w2.heap.size) w4 V)
   (fun _ _ _ _=>False)
   (fun _ s A B row hs hg hr=>by
    obtain ⟨v,h1,h2,h3⟩:=hs
    exact ⟨v,own_recAt h1 hg hr,own_row h2 hg hr,own_keeps h3 nlr hg hr⟩)
   (fun _ c s A B row hs hg hr=>hs.elim)
   (fun M hM=>⟨_,hRw4,World.ownsRow_nil _ _ _ _,Keeps.refl _ _⟩)
   (fun i a' _=>a'={ tmps:=#[.pointer (some ⟨l,0,none⟩),.string x,undef,undef,.slice none 0 0,.pointer (some ⟨b,0,none⟩),.pointer (some ⟨w2.heap.size,0,none⟩),.slice (some ⟨w2.heap.size+1,i*128,none⟩) (min 128 (x.size - i*128)) (min 128 (x.size - i*128)),undef,undef,.pointer (some ⟨l,0,none⟩),.pointer (some ⟨l,0,none⟩),.pointer (some ⟨l,1,none⟩),.int .u64 d.2,.int .u64 (nextT d.2),.pointer (some ⟨l,0,none⟩),.pointer (some ⟨l,1,none⟩),.pointer (some ⟨l,0,none⟩),.pointer (some ⟨l,0,none⟩),.agg #[.int .i64 d.1,.int .u64 (nextT d.2)],.pointer (some ⟨l,0,none⟩),.pointer (some ⟨l,0,none⟩),.pointer (some ⟨l,1,none⟩),.int .u64 (nextT d.2),.int .i64 f,.string x,.slice (some ⟨w2.heap.size+1,0,none⟩) x.size cp,.func (.func 122) #[] #[.pointer (some ⟨w3.heap.size,0,none⟩),.pointer (some ⟨w3.heap.size+1,0,none⟩)],.slice (some ⟨w2.heap.size+1,i*128,none⟩) (min 128 (x.size - i*128)) (min 128 (x.size - i*128)),undef,undef,undef,undef,undef,undef,undef,undef,undef,undef,undef,undef,undef,undef,undef,undef,undef,undef,undef,undef,undef,undef,undef,undef,undef,undef,undef,undef,undef,undef,undef,undef,undef,undef,undef,undef],defers:=[] })
   (fun _ _ _ _ _ _ hs _ _=>hs) ?assign ?body ?done ?stop
  case assign =>
   intro y M pre i V K hM1 hM2 _ hi hK
   simp only [encCk]
   clear hs3 hs4
   gi_wp2
   exact hK _ _ (Keeps.refl _ _) hi rfl
  case body =>
   rintro y M pre i a' V hy1 hy2 hM1 hM2 hp ⟨v,hRv,hrow,hkv⟩ rfl
   have hpi:pre.length=i/\i<(x.size+127) / 128:=range_pre hp
   have hpi1:=hpi.1
   rw [hpi1] at hrow
   have hlt4:i*128<x.size:=by have:=hpi.2;omega
   obtain ⟨pl,hpl⟩:∃ pl,pl=cutB x.data.toList (i*128) 128:=⟨_,rfl⟩
   have hxl:x.data.toList.length=x.size:=by simp
   have hpll:pl.length=min 128 (x.size - i*128):=by rw [hpl];simp only [cutB,List.length_take,List.length_drop,hxl]
   have hcb:∀ u,Below V.heap.size V u->∀ j (hj:j<pl.length),u.cell? ((⟨w2.heap.size+1,i*128,none⟩:Addr).add j)=some (.int .u8 (pl[j].toNat:Int)):=fun u hu j hj=>by
    have hjx:i*128+j<x.size:=by omega
    have h4:=HC4.out (i*128+j) hjx
    have hV:=(hkv.cell (p:=⟨w2.heap.size+1,i*128+j,none⟩) (by show w2.heap.size+1<_;omega) (by show ¬ w2.heap.size+1=w2.heap.size;omega)).trans h4
    have hU:=(hu.cell (p:=⟨w2.heap.size+1,i*128+j,none⟩) (by show w2.heap.size+1<_;have:=hkv.size;omega)).trans hV
    rw [show ((⟨w2.heap.size+1,i*128,none⟩:Addr).add j)=⟨w2.heap.size+1,i*128+j,none⟩ by simp [Addr.add],hU]
    subst hpl
    simp only [cutB,List.getElem_take,List.getElem_drop]
    rw [List.getD_eq_getElem?_getD,List.getElem?_eq_getElem (by omega)]
    rfl
   have hcv:=fun u hu=>run_convert_bytes_back (P:=prog) u 51 9 5 ⟨w2.heap.size+1,i*128,none⟩ (min 128 (x.size - i*128)) pl underlying51 underlying5 underlying9 (hcb u hu)
   rw [hpll] at hcv
   obtain ⟨q,hq⟩:∃ q,q=min 128 (x.size - i*128):=⟨_,rfl⟩
   rw [<- hq] at hcv hpll ⊢
   have HRp:=hid (fun u=>rep0 (128 - q) (by omega) u)
   have hq128:q<=128:=by omega
   gi_wp2
   refine wpIn_region_then (C:=fun u=>Below V.heap.size V u) 6 hmx ((Below.refl _ V).drew) (by decide) (by kernel_rfl) (by kernel_rfl) (by kernel_rfl) (by kernel_rfl) (by kernel_rfl) ?_
   simp only [List.take_succ_cons,List.take_zero]
   refine wpQuiet_step fun K hK => ?_
   simp only [Region.wanted,if_true]
   refine ⟨.slice (some ⟨w2.heap.size+1,i*128,none⟩) q q,fun u hu => ?_,hK _ ?_⟩
   ·simp [Oper.quietAt,Oper.quietUpon,go_sem,hq.symm]
   clear hK
   simp only [Act.put,List.setIfInBounds_toArray,List.set_cons_succ,List.set_cons_zero]
   refine wpQuiet_step fun K hK => ?_
   simp only [Region.wanted,if_true]
   refine ⟨.string ⟨pl.toArray⟩,fun u hu => ?_,hK _ ?_⟩
   ·have hcu:=hcv u hu
    simp [Oper.quietAt,Oper.quietUpon,go_sem,hcu]
   clear hK
   simp only [Act.put,List.setIfInBounds_toArray,List.set_cons_succ,List.set_cons_zero]
   refine wpQuiet_step fun K hK => ?_
   simp only [Region.wanted,if_true]
   refine ⟨.slice (some ⟨w2.heap.size+1,i*128,none⟩) q q,fun u hu => ?_,hK _ ?_⟩
   ·simp [Oper.quietAt,Oper.quietUpon,go_sem,hq.symm]
   clear hK
   simp only [Act.put,List.setIfInBounds_toArray,List.set_cons_succ,List.set_cons_zero]
   refine wpQuiet_step fun K hK => ?_
   simp only [Region.wanted,if_true]
   refine ⟨.int .i64 q,fun u hu => ?_,hK _ ?_⟩
   ·simp [Oper.quietAt,Oper.quietUpon,go_sem,hq.symm]
   clear hK
   simp only [Act.put,List.setIfInBounds_toArray,List.set_cons_succ,List.set_cons_zero]
   refine wpQuiet_step fun K hK => ?_
   simp only [Region.wanted,if_true]
   refine ⟨.int .i64 (128 - q:Nat),fun u hu => ?_,hK _ ?_⟩
   ·have e128:(128:Int) - (q:Int)=((128 - q:Nat):Int):=by omega
    have hwr:=wrap_small (128 - q) (by omega)
    simp only [<- e128] at hwr ⊢
    simp [Oper.quietAt,Oper.quietUpon,go_sem,hwr]
   clear hK
   simp only [Act.put,List.setIfInBounds_toArray,List.set_cons_succ,List.set_cons_zero]
   refine wpQuiet_step fun K hK => ?_
   simp only [Region.wanted,if_true]
   refine ⟨.string ⟨(List.replicate (128 - q) 0).toArray⟩,fun u hu => ?_,hK _ ?_⟩
   ·have hcl:=(HRp.out u).mono (R':=fun e w''=>e=.returned (.string ⟨(List.replicate (128 - q) 0).toArray⟩)/\Below V.heap.size V w'') (fun e w'' ⟨he,hb⟩=>⟨he,hu.trans (hb.mono hu.size)⟩)
    simp only [Oper.quietAt,execOp,resolve,invoke,Sem.run_bind,List.map_toArray,List.map_cons,List.map_nil]
    simp [Oper.quietUpon,go_sem]
    exact hcl
   clear hK
   simp only [Act.put,List.setIfInBounds_toArray,List.set_cons_succ,List.set_cons_zero]
   refine wpQuiet_nil ?_
   intro V2 hbV
   simp only [List.drop_succ_cons,List.drop_zero]
   have hRv2:=hRv.on hbV
   obtain ⟨oa,cap,rfl⟩:∃ oa cap,v=.slice oa i cap:=by
    rcases hrow.2 with ⟨hv,h0⟩ | ⟨g,cap,cur,hv,_⟩
    ·exact ⟨none,0,by rw [hv,h0]⟩
    ·exact ⟨_,cap,hv⟩
   have hR42:RecAt V2 b #[.int .i64 f] 3:=(show RecAt V b #[.int .i64 f] 3 from (hkv.block b (by omega) (by omega)).trans hR4).on hbV
   have cw:V2.cell? ⟨w2.heap.size,0,none⟩=some (.slice oa i cap):=hRv2.cell 0
   have cf:V2.cell? ⟨b,0,none⟩=some (.int .i64 f):=hR42.cell 0
   have fw:=hRv2.fz 0
   have hdat:(⟨pl.toArray⟩:ByteArray)++⟨(List.replicate (128 - q) 0).toArray⟩=⟨(piece x.data.toList i).toArray⟩:=by
    apply ByteArray.ext
    simp [piece,<- hpl,hpll]
   have hz1:(⟨pl.toArray⟩:ByteArray).size=q:=by show pl.toArray.size=q;rw [List.size_toArray,hpll]
   have hz2:(⟨(List.replicate (128 - q) 0).toArray⟩:ByteArray).size=128 - q:=by show (List.replicate (128 - q) (0:UInt8)).toArray.size=_;rw [List.size_toArray,List.length_replicate]
   generalize (⟨pl.toArray⟩:ByteArray)=A at *
   generalize (⟨(List.replicate (128 - q) 0).toArray⟩:ByteArray)=Z at *
   clear hcv hcb HRp hpi1
   have HPi:=hid hpi
   clear hpi
   have hown2:(V2.alloc (.cells #[.int .i64 ((f:Int)+1+(i:Int)),.string ⟨(piece x.data.toList i).toArray⟩] 84)).ownsRow M 84 2 (.slice oa i cap) i (wCells ((textW f x.data.toList).take i)):=(ownsRow_block hrow (fun g hg=>hbV.block g (hrow.lt g hg).2)).alloc _
   have hNw:=RecAt.new V2 #[.int .i64 ((f:Int)+1+(i:Int)),.string ⟨(piece x.data.toList i).toArray⟩] 84
   obtain ⟨iw,hiw,hw0,hw1,hw2⟩:=info_parts Tryz.infoWrite
   have HN:Hid (∀ j u,([.int .i64 ((f:Int)+1+(i:Int)),.string ⟨(piece x.data.toList i).toArray⟩]:List Value)[j]? = some u->(V2.alloc (.cells #[.int .i64 ((f:Int)+1+(i:Int)),.string ⟨(piece x.data.toList i).toArray⟩] 84)).cell? ((⟨V2.heap.size,0,none⟩:Addr).add j)=some u):=hid (by intro j u hu;rw [addr_add];match j with | 0=>cases hu;exact hNw.cell 0 | 1=>cases hu;exact hNw.cell 1 | j+2=>cases hu)
   have HB3:Hid (∀ w3 row,(V2.alloc (.cells #[.int .i64 ((f:Int)+1+(i:Int)),.string ⟨(piece x.data.toList i).toArray⟩] 84)).grownBy w3 row->(∀ g,row=some g->M<=g)->RecAt w3 w2.heap.size #[.slice oa i cap] 54):=hid (fun w3 row hg hr=>by
    refine (hg.block _ (by have:=hRv2.lt;simp;omega) (fun e => ?_)).trans ((Below.heap_alloc _ _ _ hRv2.lt).trans hRv2)
    have:=hr _ e.symm
    omega)
   have Hrow:=hid hown2
   clear hNw
   gi_wp2_with (gi_at_builtin;refine wpListIn_append_own _ rfl _ _ 54 rfl M 84 iw _ 2 24 underlying54 hiw hw0 hw1 hw2 rfl (by decide) _ _ _ rfl Hrow.out ⟨V2.heap.size,0,none⟩ 1 1 [.int .i64 ((f:Int)+1+(i:Int)),.string ⟨(piece x.data.toList i).toArray⟩] rfl rfl HN.out (by intro u hu;simp at hu;rcases hu with rfl | rfl <;> rfl) (by unfold maxLen;omega) (by omega) (by simp;have:=hbV.size;omega) ?_;intro v' w3' hown' hgrow' _;obtain ⟨g3,cap3,rfl⟩:=own_form hown';have hb3:=HB3.out w3' _ hgrow' (fun g e=>(Hrow.out.lt g e).1);have hc4:w3'.cell? ⟨w2.heap.size,0,none⟩=some _:=hb3.cell 0;have hf4:=hb3.fz 0)
   have hk3:Keeps (fun k=>k=w2.heap.size\/M<=k) V (w3'.setCell ⟨w2.heap.size,0,none⟩ (.slice (some ⟨g3,0,none⟩) (i+1) cap3)):=((((Keeps.refl _ V).below hbV nlr).alloc _).grown hgrow' (fun k e=>.inl (.inr (Hrow.out.lt k e).1))).setCell (p:=⟨w2.heap.size,0,none⟩) (.inl (.inl rfl)) _
   have hk4:Keeps (fun k=>k=w2.heap.size) w4 (w3'.setCell ⟨w2.heap.size,0,none⟩ (.slice (some ⟨g3,0,none⟩) (i+1) cap3)):=((hkv.mono (T:=fun k=>k=w2.heap.size\/M<=k) (fun k _ h=>.inl h)).trans hk3).mono (fun k hk h=>by omega)
   refine ⟨hk3,_,hb3.set 0 _,?_,hk4⟩
   refine ownsRow_block (w:=w3') ?_ (fun g hg=>Below.heap_setCell w3' _ _ g (by have:=(hown'.lt g hg).1;show g≠w2.heap.size;omega))
   have hlen:(pre++[i]).length=i+1:=by rw [List.length_append,HPi.out.1];rfl
   rw [hlen,textW_succ f x.data.toList (by rw [pieces,hxl];exact HPi.out.2),wCells_append]
   exact hown'
  case done =>
   rintro M V hM ⟨v,hRv,hrow,hkv⟩ hD
   have hcV:V.cell? ⟨l,1,none⟩=some (.int .u64 (nextT d.2)):=(hkv.cell (p:=⟨l,1,none⟩) (by show l<_;omega) (by show ¬ l=w2.heap.size;omega)).trans ((hB14.cell (p:=⟨l,1,none⟩) hll).trans HB1.out.ct)
   have hlV:l<V.heap.size:=by have:=hkv.size;omega
   obtain ⟨sm,hsm⟩:∃ sm,sm=sumN x.data.toList:=⟨_,rfl⟩
   have HSm:=hid (fun u=>sumOf_any x (by omega) u)
   rw [<- hsm] at HSm
   have Hsm:=hid hsm
   have Hs:=hid (And.intro hs3 hs4)
   clear hs3 hs4 hsm
   go_wp2_with fail
   have hwx:IntKind.u64.wrap (x.size:Int)=(x.size:Int):=by rw [wrapU,Nat.mod_eq_of_lt (by omega)]
   have hS:∀ u,Below V.heap.size V u->Below V.heap.size V u/\u.cell? ⟨l,1,none⟩=some (.int .u64 (nextT d.2))/\u.cell? ⟨l,1,none⟩=some (.int .u64 (nextT d.2)):=fun u h=>⟨h,(h.cell (p:=⟨l,1,none⟩) hlV).trans hcV,(h.cell (p:=⟨l,1,none⟩) hlV).trans hcV⟩
   refine Code.wp_mono (Q:=fun e a' w'=>∃ b9,e=.normal/\a'={ tmps:=#[.pointer (some ⟨l,0,none⟩),.string x,undef,undef,.slice none 0 0,.pointer (some ⟨b,0,none⟩),.pointer (some ⟨w2.heap.size,0,none⟩),undef,undef,.pointer (some ⟨b9,0,none⟩),.pointer (some ⟨l,0,none⟩),.pointer (some ⟨l,0,none⟩),.pointer (some ⟨l,1,none⟩),.int .u64 d.2,.int .u64 (nextT d.2),.pointer (some ⟨l,0,none⟩),.pointer (some ⟨l,1,none⟩),.pointer (some ⟨l,0,none⟩),.pointer (some ⟨l,0,none⟩),.agg #[.int .i64 d.1,.int .u64 (nextT d.2)],.pointer (some ⟨l,0,none⟩),.pointer (some ⟨l,0,none⟩),.pointer (some ⟨l,1,none⟩),.int .u64 (nextT d.2),.int .i64 f,.string x,.slice (some ⟨w2.heap.size+1,0,none⟩) x.size cp,.func (.func 122) #[] #[.pointer (some ⟨w3.heap.size,0,none⟩),.pointer (some ⟨w3.heap.size+1,0,none⟩)],undef,undef,undef,undef,undef,undef,undef,undef,undef,undef,undef,undef,undef,undef,undef,undef,undef,undef,.pointer (some ⟨l,0,none⟩),.pointer (some ⟨l,0,none⟩),.pointer (some ⟨l,1,none⟩),.int .u64 (nextT d.2),.string x,.int .i64 x.size,.int .u64 x.size,.string x,.int .u64 sm,.agg #[.int .u64 (nextT d.2),.int .u64 x.size,.int .u64 sm],undef,undef,undef,undef,undef,undef,undef,undef,undef],defers:=[{ target:=.collected w4.heap.size,args:=#[] }] }/\RecAt w' b9 #[.int .u64 (nextT d.2),.int .u64 x.size,.int .u64 sm] 157/\V.heap.size<=b9/\Below V.heap.size V w') ?imp8 ?reg8
   case reg8 =>
    go_region_held3 (fun u=>Below V.heap.size V u/\u.cell? ⟨l,1,none⟩=some (.int .u64 (nextT d.2))/\u.cell? ⟨l,1,none⟩=some (.int .u64 (nextT d.2))) (first | assumption | exact hS _ (by first | assumption | exact (Below.refl _ _).drew | exact s_alloc (by assumption) _ | exact s_drew (by assumption) | exact Below.alloc hB' (Below.size hB') _ | exact ((hB'.setCell (p:=⟨_,0,none⟩) hge _).setCell (p:=⟨_,1,none⟩) hge _).setCell (p:=⟨_,2,none⟩) hge _)) (first
     | (go_at_call 76;refine (HSm.out _).mono ?_;rintro e w' ⟨rfl,hb⟩;(first | (obtain ⟨hz,hge⟩:=new_kept_d (n:=V.heap.size) hb (by first | exact hB'.size | exact s_size (by assumption) | exact Nat.le_refl _);have z0:=hz.cell 0;have z1:=hz.cell 1;have z2:=hz.cell 2;have y0:=hz.fz 0;have y1:=hz.fz 1;have y2:=hz.fz 2) | (obtain ⟨hz,hge⟩:=new_kept (n:=V.heap.size) hb (by first | exact hB'.size | exact s_size (by assumption) | exact Nat.le_refl _);have z0:=hz.cell 0;have z1:=hz.cell 1;have z2:=hz.cell 2;have y0:=hz.fz 0;have y1:=hz.fz 1;have y2:=hz.fz 2) | skip);have hB':Below V.heap.size V w':=s_trans hb (by assumption)))
    ·exact ⟨_,rfl,rfl,RecAt.new _ _ _,hB'.size,hB'.alloc hB'.size _⟩
    ·exact ⟨_,rfl,rfl,((hz.set 0 _).set 1 _).set 2 _,hge,((hB'.setCell (p:=⟨_,0,none⟩) hge _).setCell (p:=⟨_,1,none⟩) hge _).setCell (p:=⟨_,2,none⟩) hge _⟩
   case imp8 =>
    rintro e a' w5 ⟨b9,rfl,rfl,hR9,hb9,hB5⟩
    have hxl:x.data.toList.length=x.size:=by simp
    obtain ⟨np,hnp⟩:∃ np,np=(x.size+127) / 128:=⟨_,rfl⟩
    have hrow1:V.ownsRow M 84 2 v np (wCells (textW f x.data.toList)):=by
     have:=hrow
     rw [List.length_range,<- hnp,List.take_of_length_le (by rw [textW,List.length_map,List.length_range,pieces,hxl,hnp];exact Nat.le_refl _)] at this
     exact this
    have hVw:w4.heap.size+1<=V.heap.size:=(Array.getElem?_eq_some_iff.1 hD).1
    have hrow1:=own_mono hrow1 (show w4.heap.size+1<=M by omega)
    have hnp2:np<=300:=by omega
    have hrow5:w5.ownsRow (w4.heap.size+1) 84 2 v np (wCells (textW f x.data.toList)):=ownsRow_block hrow1 (fun g hg=>hB5.block g (hrow1.lt g hg).2)
    obtain ⟨oa,cap,rfl⟩:∃ oa cap,v=.slice oa np cap:=by
     rcases hrow1.2 with ⟨hv,h0⟩ | ⟨g,cap,cur,hv,_⟩
     ·exact ⟨none,0,by rw [hv,h0]⟩
     ·exact ⟨_,cap,hv⟩
    have hRv5:=hRv.on hB5
    have hRb5:RecAt w5 b #[.int .i64 f] 3:=(show RecAt V b #[.int .i64 f] 3 from (hkv.block b hR4.lt (by omega)).trans hR4).on hB5
    have HT:=hid (fun u=>headText_any (nextT d.2) x.size sm hnt (by omega) (by rw [Hsm.out];exact sumN_lt _) u)
    obtain ⟨hb,hhb⟩:∃ hb,hb=headB (nextT d.2) x.size sm:=⟨_,rfl⟩
    rw [<- hhb] at HT
    have Hhb:=hid (And.intro hhb hnp)
    clear hhb hnp hrow
    have hlv:=hRv5.lt
    have hlb:=hRb5.lt
    have hl9:=hR9.lt
    have cw:w5.cell? ⟨w2.heap.size,0,none⟩=some (.slice oa np cap):=hRv5.cell 0
    have cf:w5.cell? ⟨b,0,none⟩=some (.int .i64 f):=hRb5.cell 0
    have ch0:w5.cell? ⟨b9,0,none⟩=some (.int .u64 (nextT d.2)):=hR9.cell 0
    have ch1:w5.cell? ⟨b9,1,none⟩=some (.int .u64 x.size):=hR9.cell 1
    have ch2:w5.cell? ⟨b9,2,none⟩=some (.int .u64 sm):=hR9.cell 2
    have HFar:=hid (fun (g:Nat) (hg:Value.ownBlock (.slice oa np cap)=some g)=>hrow1.lt g hg)
    have HF1:=hid (show Value.ownBlock (.slice oa np cap)≠some w2.heap.size from fun e=>by have:=(hrow1.lt _ e).1;have:=Hs.out;omega)
    have HF2:=hid (show Value.ownBlock (.slice oa np cap)≠some b from fun e=>by have:=(hrow1.lt _ e).1;have:=Hs.out;omega)
    have HF3:=hid (show Value.ownBlock (.slice oa np cap)≠some b9 from fun e=>by have:=(hrow1.lt _ e).2;omega)
    have HRow:=hid (fun (u:World) (hu:Below w5.heap.size w5 u)=>(ownsRow_block hrow5 (fun g hg=>hu.block g (hrow5.lt g hg).2):u.ownsRow (w4.heap.size+1) 84 2 (.slice oa np cap) np (wCells (textW f x.data.toList))))
    obtain ⟨iw,hiw,hw0,hw1,hw2⟩:=info_parts Tryz.infoWrite
    have hMw:w4.heap.size+1<=w5.heap.size:=by have:=hB5.size;omega
    have Hkk:=hid (And.intro hkv (And.intro hB5 hb9))
    clear hkv hRv5 hRb5 hR9 hrow1 hrow5 hRv hB5 hb9 hcV hlV
    go_wp2_with fail
    go_region_held3 (fun u=>u.cell? ⟨w2.heap.size,0,none⟩=some (.slice oa np cap)/\u.cell? ⟨b,0,none⟩=some (.int .i64 f)/\u.cell? ⟨b9,0,none⟩=some (.int .u64 (nextT d.2))/\u.cell? ⟨b9,1,none⟩=some (.int .u64 x.size)/\u.cell? ⟨b9,2,none⟩=some (.int .u64 sm)) (go_keep) (first
     | (go_at_call 77;refine (HT.out _).mono ?_;rintro e w6 ⟨rfl,hb6⟩;have hB6:Below w5.heap.size w5 w6:=(Below.refl _ w5).drew.trans hb6;have cw:=(hB6.cell (p:=⟨w2.heap.size,0,none⟩) hlv).trans cw;have cf:=(hB6.cell (p:=⟨b,0,none⟩) hlb).trans cf;have ch0:=(hB6.cell (p:=⟨b9,0,none⟩) hl9).trans ch0;have ch1:=(hB6.cell (p:=⟨b9,1,none⟩) hl9).trans ch1;have ch2:=(hB6.cell (p:=⟨b9,2,none⟩) hl9).trans ch2;clear hb6)
     | (refine step_append_lies _ rfl _ _ 54 rfl (w4.heap.size+1) 84 iw _ 2 24 underlying54 hiw hw0 hw1 hw2 rfl (by decide) _ _ _ rfl ((HRow.out w6 hB6).alloc _) ⟨w6.heap.size,0,none⟩ 3 3 (wCells [(-1,[]),((f:Int),hb),(-1,[])]) rfl rfl (three_cells w6 f hb) (three_one f hb) (by omega) (by unfold maxLen;omega) (by omega) (by simp;have:=hB6.size;omega) _ rfl ?_;intro g2 cap2 w7 hown' hgrow' _ _;have cw:=far_cellK (W:=w6) cw hgrow' HF1.out;have cf:=far_cellK (W:=w6) cf hgrow' HF2.out;have ch0:=far_cellK (W:=w6) ch0 hgrow' HF3.out;have ch1:=far_cellK (W:=w6) ch1 hgrow' HF3.out;have ch2:=far_cellK (W:=w6) ch2 hgrow' HF3.out))
    have hgr7:(w6.alloc (.cells #[.int .i64 (-1),.string ⟨#[]⟩,.int .i64 f,.string ⟨hb.toArray⟩,.int .i64 (-1),.string ⟨#[]⟩] 84)).grownBy w7 (Value.ownBlock (.slice oa np cap)):=hgrow'
    obtain ⟨hkv,hB5,hb9⟩:=Hkk.out
    have hs:=Hs.out
    have hba:Below w6.heap.size w6 (w6.alloc (.cells #[.int .i64 (-1),.string ⟨#[]⟩,.int .i64 f,.string ⟨hb.toArray⟩,.int .i64 (-1),.string ⟨#[]⟩] 84)):=bal
    have hB1V:Below w1.heap.size w1 V:=hB14.trans (hkv.toBelow (fun k hk=>by omega) hB14.size)
    have hB16:Below w1.heap.size w1 w6:=(hB1V.trans (hB5.mono hB1V.size)).trans (hB6.mono (by have:=hB1V.size;have:=hB5.size;omega))
    have hB17:Below w1.heap.size w1 w7:=(hB16.trans (hba.mono hB16.size)).grown hgr7 (by have:=hB16.size;simp;omega) (fun k hk=>by have:=(HFar.out k hk).1;have:=hB14.size;omega)
    have hD7:w7.heap[w4.heap.size]? = some (.deferred (some [])):=by
     have h1:=(hB5.block w4.heap.size (by omega)).trans hD
     have h2:=(hB6.block w4.heap.size (by omega)).trans h1
     have h3:=(hba.block w4.heap.size (Array.getElem?_eq_some_iff.1 h2).1).trans h2
     exact (hgr7.block w4.heap.size (Array.getElem?_eq_some_iff.1 h3).1 (fun e=>by have:=(HFar.out _ e.symm).1;omega)).trans h3
    have HE:=hid (show ∀ W',w7.grownBy W' (some w4.heap.size)->KeepEnds l d r n lim x w (.returned (.slice (some ⟨g2,0,none⟩) (np+3) cap2)) W' from fun W' hg=>by
     have hB1W:Below w1.heap.size w1 W':=hB17.grown hg (by have:=hB17.size;omega) (fun k hk=>by cases hk;have:=hB14.size;omega)
     refine ⟨_,rfl,?_,(hB1W.block l hll).trans HB1.out,hk1.trans ((Keeps.refl (fun k=>k=l) w1).below hB1W nlr)⟩
     have hkl:(keepW d.1 d.2 x.data.toList).length=np+3:=by
      rw [keepW,List.length_append,textW,List.length_map,List.length_range,pieces,hxl,<- Hhb.out.2];rfl
     have hkc:wCells (keepW d.1 d.2 x.data.toList)=wCells (textW f x.data.toList)++wCells [(-1,[]),(↑f,hb),(-1,[])]:=by
      rw [keepW,wCells_append,<- Hf.out,Hhb.out.1,hxl,Hsm.out]
     rcases hown'.2 with ⟨hv,_⟩ | ⟨g,cap',cur,hv,hB,hh,h1,h2,h3,h4⟩
     ·cases hv
     ·injection hv with hv _ hcap
      injection hv with hv
      injection hv with hv _ _
      subst hv hcap
      have hh':=(hg.block g2 (Array.getElem?_eq_some_iff.1 hh).1 (fun e=>by cases e;rw [hD7] at hh;cases hh)).trans hh
      refine .inr ⟨g2,cap2,by rw [hkl],?_,by rw [hkl];exact h1,by rw [hkl];omega,cur,hh',by rw [hkl,hkc];exact h4⟩
      have:=hk1.size
      have:=hB14.size
      omega)
    clear hown' hgrow' hgr7 hba hB1V hB16 hB17
    go_wp2
    exact keep_end hD7 HE.out
  case stop =>
   rintro M c pre V hM hp h hD
   exact h.elim
end
end Go.Proofs.YtalncjhldkcmaaaGreat
