import Derived.Test.YtalncjhldkcmaaaGreatFb15
import Derived.Test.YtalncjhldkcmaaaGreatFb11
import Derived.Test.YtalncjhldkcmaaaGreatFb00
import Derived.Test.YtalncjhldkcmaaaGreatFb08
import Derived.Test.YtalncjhldkcmaaaGreatSH0
import Derived.Test.YtalncjhldkcmaaaGreatFb02
namespace Go.Proofs.YtalncjhldkcmaaaGreat
open _root_.Go.Proofs.Tryz
set_option maxHeartbeats 16000000
set_option maxRecDepth 8000
section
open Go.RowKit Go.Shelf
attribute [local go_sem] Oper.semAt_some
def GivesI {α:Type} (P:Program) (g:Nat) (lb:Array Value) (encs:α->Array Value) (n₀ N:Nat) (xs:List α) (w:World):Prop :=
 ∀ (Y:Nat->Prop) u X,Keeps Y w u->(∀ k,Y k->n₀<=k/\k<N)->(∀ k,X k->n₀<=k/\(k<N\/w.heap.size<=k))->GivesM P g lb encs X xs u
theorem in_any (n₀ b:Nat) (box:Int) (l:List KV) (ts:List TN) (hok:∀ t∈ts,t.2.Ok/\t.1<1024) (hts:sel (tubeK 1) (tubeK 999) l=ts.map kvT) (w:World) (hT:TxAt n₀ w b l) :
  Calls prog 165 #[.pointer (some ⟨b,0,none⟩),.int .i64 box] w fun e w'=>∃ lb,e=.returned (.func (.func 197) #[] lb)/\GivesI prog 197 lb encT n₀ w.heap.size (ts.filter (inBox box)) w'/\Below w.heap.size w w':=by
 have hmf:∀ (fn:Fn) (first cap:Array Value) (w:World),(Instr.makeFunc fn first cap).run prog w=.ok (.func fn first cap) w:=fun _ _ _ _=>rfl
 have hn0:n₀<=w.heap.size:=by obtain ⟨⟨r,hB,hI⟩,hf⟩:=hT;exact hI.2.1
 have hb1:Below w.heap.size w (w.alloc (.cells #[.int .i64 box] 3)):=(Below.refl _ w).alloc nlr _
 have HTu:=hid (tubes_any n₀ b l ts hok hts (w.alloc (.cells #[.int .i64 box] 3)) (hT.below hb1))
 have HB:=hid (Boxed.new w 3 (.int .i64 box))
 have Hs:=hid (show (w.alloc (.cells #[.int .i64 box] 3)).heap.size=w.heap.size+1 by simp)
 have Hb1:=hid hb1
 clear hb1 hT
 go_enter func165,ntmps165
 go_wp2_with (go_at_call 163;refine HTu.out.mono ?_;clear HTu;rintro e w2 ⟨bx,rfl,hG,hb2⟩)
 go_ret
 have hb1:=Hb1.out
 have hbx:=HB.out
 have hs:=Hs.out
 clear Hb1 HB Hs
 generalize w.alloc (.cells #[.int .i64 box] 3)=w1 at *
 have hb12:Below w.heap.size w w2:=hb1.trans (hb2.mono hb1.size)
 have h2:=hb2.size
 have hb3:Below w2.heap.size w2 (w2.alloc (.cells #[.func (.func 196) #[] #[.pointer (some ⟨bx,0,none⟩)]] 233)):=bal
 refine ⟨_,rfl,fun Y u X hk hY hX => ?_,hb12.trans (hb3.mono hb12.size)⟩
 have hku:=hk.size
 have hsz:(w2.alloc (.cells #[.func (.func 196) #[] #[.pointer (some ⟨bx,0,none⟩)]] 233)).heap.size=w2.heap.size+1:=by simp
 refine in1_givesM X n₀ _ _ (fun k h=>(hX k h).1) (fun h=>by have:=(hX _ h).2;omega) box _ (enters_of func196 (by kernel_rfl) rfl) _ ts u (by omega) (by omega) ((hk.cell (p:=⟨w2.heap.size,0,none⟩) (by show w2.heap.size<_;omega) (fun h=>by have h':=(hY _ h).2;simp at h';omega)).trans (Boxed.new w2 _ _).cell) (keeps_same hk (fun h=>by have h':=(hY _ h).2;omega) (boxed_below (boxed_below hbx hb2) hb3))
  (fun X' hX'=>hG Y u X' (((Keeps.refl _ w2).alloc _).trans hk) (fun k h=>by have:=hY k h;omega) hX')
end
section
open Go.RowKit Go.Shelf
attribute [local go_sem] Oper.semAt_some
abbrev PN:=Nat×Nat×Nat
def kvP (t:PN):KV:=(pourK t.1 t.2.1,⟨(vol t.2.2).toArray⟩)
def encP (t:PN):Array Value:=#[.int .i64 t.1,.int .i64 t.2.1]
theorem numbersIn_pour (a b:Nat) (ha:a<1024) (hb:b<1024) (w:World) :
  Calls prog 182 #[.int .u32 (3145728+(a:Int)*1024+(b:Int))] w fun e w'=>e=.returned (.tuple #[.int .i64 a,.int .i64 b])/\w'=w:=by
 have h:=numbersIn_any (3145728+a*1024+b) (by omega) w
 have e1:(3145728+a*1024+b) / 1024 % 1024=a:=by omega
 have e2:(3145728+a*1024+b) % 1024=b:=by omega
 have e3:(((3145728+a*1024+b:Nat)):Int)=3145728+(a:Int)*1024+(b:Int):=by omega
 rw [e1,e2,e3] at h
 exact h
theorem pre_mapP {pre ts:List PN} {x:KV} (h1:pre <+: ts) (h2:(pre.map kvP++[x]) <+: ts.map kvP):∃ t,x=kvP t/\(pre++[t]) <+: ts:=by
 obtain ⟨r,rfl⟩:=h1
 rw [List.map_append] at h2
 have h3:=(List.prefix_append_right_inj (pre.map kvP)).1 h2
 cases r with
 | nil=>simp at h3
 | cons t r =>
  simp only [List.map_cons] at h3
  have:x=kvP t:=by
   obtain ⟨q,hq⟩:=h3
   simp at hq;exact hq.1
  exact ⟨t,this,⟨r,by simp⟩⟩
theorem pairs1_givesM (X:Nat->Prop) (n₀ bx:Nat) (hXn:∀ k,X k->n₀<=k) (lb:Array Value) (ts:List PN) (hok:∀ t∈ts,t.1<1024/\t.2.1<1024) (w:World) (hn:n₀<=w.heap.size) (hbx:bx<w.heap.size) (hc:w.cell? ⟨bx,0,none⟩=some (.func (.func 128) #[] lb))
  (hG:∀ X:Nat->Prop,(∀ k,X k->n₀<=k)->GivesM prog 128 lb encKV X (ts.map kvP) w) :
  GivesM prog 199 #[.pointer (some ⟨bx,0,none⟩)] encP X ts w:=by
 intro l J Jx W hW hlw hl hX hJ hJx hY h0
 have c1:=(hW.cell (p:=⟨bx,0,none⟩) hbx).trans hc
 have hsW:=hW.size
 have hmx:=Tryz.mixed
 have hb1:Below W.heap.size W (W.alloc (.cells #[.func (.yield l) #[] #[]] 269)):=bal
 have hB1:=Boxed.new W 269 (.func (.yield l) #[] #[])
 have c1':=(hb1.cell (p:=⟨bx,0,none⟩) (by show bx<_;omega)).trans c1
 have HB:=hid hB1
 have Hb:=hid hb1
 clear hB1 hb1 c1 hc
 refine calls_marks func199 rfl ?_
 simp only [ntmps199,List.size_toArray,List.length_cons,List.length_nil,Nat.reduceAdd,Nat.reduceSub,Array.replicate_succ,Array.replicate_zero,List.push_toArray,List.append_toArray,List.nil_append,List.cons_append]
 go_wp2_with fail
 have hB1:=HB.out
 have hb1:=Hb.out
 have hs1:(W.alloc (.cells #[.func (.yield l) #[] #[]] 269)).heap.size=W.heap.size+1:=by simp
 clear HB Hb c1'
 generalize W.alloc (.cells #[.func (.yield l) #[] #[]] 269)=W1 at *
 refine (wpIn_wide (n:=0)).1 ?_
 refine rangeM_law (gf:=128) (lb:=lb) rfl (enters_of func128 (by kernel_rfl) rfl) (hG (fun k=>X k\/k=l) (fun k h=>by rcases h with h | h;exact hXn k h;omega)) (hW.trans (hb1.mono hsW)) (fun k h=>by rcases h with h | h;(have:=hX k h;omega);omega) (fun _=>rfl)
  (fun M pre' V=>∃ pre,pre'=pre.map kvP/\pre <+: ts/\J M pre V/\Boxed V W.heap.size 269 (.func (.yield l) #[] #[]))
  (fun M c pre' V=>c=.ret/\∃ pre,pre <+: ts/\Jx M pre V)
  (fun M s A B row hs hg hr=>by
   obtain ⟨pre,a,b,c,d⟩:=hs
   exact ⟨pre,a,b,hJ M pre A B row c hg (fun r e=>⟨by have:=(hr r e).1;omega,(hr r e).2⟩),own_boxed d hg hr⟩)
  (fun M c s A B row hs hg hr=>by
   obtain ⟨a,pre,b,d⟩:=hs
   exact ⟨a,pre,b,hJx M pre A B row d hg (fun r e=>⟨by have:=(hr r e).1;omega,(hr r e).2⟩)⟩)
  (fun M hM=>⟨[],rfl,List.nil_prefix,hJ M [] W W1 none (h0 M (by omega)) (below_grown hb1) (fun r e=>by cases e),hB1⟩)
  (fun x a' _=>a'={ tmps:=#[.func (.yield l) #[] #[],.pointer (some ⟨bx,0,none⟩),.pointer (some ⟨W.heap.size,0,none⟩),.int .u32 x.1,.func (.func 128) #[] lb,.int .u32 x.1,.string x.2,undef,undef,undef,undef,undef,undef,undef],defers:=[] })
  (fun _ _ _ _ _ _ hs _ _=>hs) ?assign ?body ?done ?stop
 case assign =>
  intro y M pre x V K hM1 hM2 _ hi hK
  simp only [encKV]
  gi_wp2
  exact hK _ _ (Keeps.refl _ _) hi rfl
 case body =>
  rintro y M pre' x a' V hy1 hy2 hM1 hM2 hp ⟨pre,rfl,hpre,hj,hbox⟩ rfl
  obtain ⟨t,rfl,hpt⟩:=pre_mapP hpre hp
  have htm:t∈ts:=hpt.subset (by simp)
  have hc2:=hbox.cell
  obtain ⟨hl1,hl2⟩:=hok t htm
  have HNi:=hid (numbersIn_pour t.1 t.2.1 hl1 hl2)
  simp only [kvP,pourK]
  have HKV:=hid (show kvP t=(3145728+(t.1:Int)*1024+(t.2.1:Int),⟨(vol t.2.2).toArray⟩) from rfl)
  generalize (⟨(vol t.2.2).toArray⟩:ByteArray)=tx at *
  gi_wp2
  refine wpIn_region_then (C:=fun u=>Below V.heap.size V u) 5 hmx ((Below.refl _ V).drew) (by decide) (by kernel_rfl) (by kernel_rfl) (by kernel_rfl) (by kernel_rfl) (by kernel_rfl) ?_
  simp only [List.take_succ_cons,List.take_zero]
  refine wpQuiet_step fun K hK => ?_
  simp only [Region.wanted,if_true]
  refine ⟨.func (.yield l) #[] #[],fun u hu => ?_,hK _ ?_⟩
  ·have hcu:=(hu.cell (p:=⟨W.heap.size,0,none⟩) hbox.lt).trans hc2
   simp [Oper.quietAt,Oper.quietUpon,go_sem,hcu]
  clear hK
  simp only [Act.put,List.setIfInBounds_toArray,List.set_cons_succ,List.set_cons_zero]
  refine wpQuiet_step fun K hK => ?_
  simp only [Region.wanted,if_true]
  refine ⟨.int .u32 (3145728+(t.1:Int)*1024+(t.2.1:Int)),fun u hu => ?_,hK _ ?_⟩
  ·simp [Oper.quietAt,Oper.quietUpon,go_sem]
  clear hK
  simp only [Act.put,List.setIfInBounds_toArray,List.set_cons_succ,List.set_cons_zero]
  refine wpQuiet_step fun K hK => ?_
  simp only [Region.wanted,if_true]
  refine ⟨.tuple #[.int .i64 t.1,.int .i64 t.2.1],fun u hu => ?_,hK _ ?_⟩
  ·have hcl:=(HNi.out u).mono (R':=fun e w''=>e=.returned (.tuple #[.int .i64 t.1,.int .i64 t.2.1])/\Below V.heap.size V w'') (fun e w'' ⟨he,hb⟩=>⟨he,by rw [hb];exact hu⟩)
   simp only [Oper.quietAt,execOp,resolve,invoke,Sem.run_bind,List.map_toArray,List.map_cons,List.map_nil]
   simp [Oper.quietUpon,go_sem]
   exact hcl
  clear hK
  simp only [Act.put,List.setIfInBounds_toArray,List.set_cons_succ,List.set_cons_zero]
  refine wpQuiet_step fun K hK => ?_
  simp only [Region.wanted,if_true]
  refine ⟨.int .i64 t.1,fun u hu => ?_,hK _ ?_⟩
  ·simp [Oper.quietAt,Oper.quietUpon,go_sem]
  clear hK
  simp only [Act.put,List.setIfInBounds_toArray,List.set_cons_succ,List.set_cons_zero]
  refine wpQuiet_step fun K hK => ?_
  simp only [Region.wanted,if_true]
  refine ⟨.int .i64 t.2.1,fun u hu => ?_,hK _ ?_⟩
  ·simp [Oper.quietAt,Oper.quietUpon,go_sem]
  clear hK
  simp only [Act.put,List.setIfInBounds_toArray,List.set_cons_succ,List.set_cons_zero]
  refine wpQuiet_nil ?_
  intro V2 hbV
  have hbox2:=boxed_below hbox hbV
  obtain ⟨fn,tmps,assign,body,hyy,hR⟩:=hY M pre t V2 (by omega) (by have:=hbV.size;omega) hpt (hJ M pre V V2 none hj (below_grown hbV) (fun r e=>by cases e))
  simp only [encP] at hyy
  simp only [List.drop_succ_cons,List.drop_zero]
  gi_wp2
  refine ⟨rfl,hR.mono ?_⟩
  clear hR hyy
  rintro e V3 (⟨rfl,hj3,hk3⟩ | ⟨rfl,hx3,hk3⟩)
  ·gi_wp2
   exact ⟨((Keeps.refl _ V).below hbV nlr).trans (hk3.mono (fun k _ h=>by rcases h with h | h | h;exact .inl (.inl h);exact .inl (.inr h);exact .inr h)),pre++[t],by rw [List.map_append,List.map_singleton,HKV.out],hpt,hj3,keeps_same hk3 (fun h=>by rcases h with h | h | h;(have:=hX _ h;omega);omega;omega) hbox2⟩
  ·gi_wp2
   exact ⟨((Keeps.refl _ V).below hbV nlr).trans (hk3.mono (fun k _ h=>by rcases h with h | h | h;exact .inl (.inl h);exact .inl (.inr h);exact .inr h)),rfl,pre++[t],hpt,hx3⟩
 case done =>
  rintro M V hM ⟨pre,he,hpre,hj,hbox⟩ hD
  have hpt:pre=ts:=by
   have:=congrArg List.length he
   simp at this
   exact hpre.eq_of_length this.symm
  subst hpt
  go_wp2_with fail
  refine ⟨by simp,.inl ⟨_,_,rfl,run_takeDeferred (by first | exact hD | (rw [<- hs1];exact hD)),?_⟩⟩
  refine ⟨.tuple #[],by simp [results,results199,go_sem],⟨_,rfl⟩,M,by omega,.inl ?_⟩
  exact (hJ M).putObj _ hj (by omega) (by first | exact hD | (rw [<- hs1];exact hD)) rfl
 case stop =>
  rintro M c pre V hM hp ⟨rfl,q,hq,hx⟩ hD
  refine (wpIn_wide (n:=0)).2 ?_
  go_wp2_with fail
  refine ⟨by simp,.inl ⟨_,_,rfl,run_takeDeferred (by first | exact hD | (rw [<- hs1];exact hD)),?_⟩⟩
  refine ⟨.tuple #[],by simp [results,results199,go_sem],⟨_,rfl⟩,M,by omega,.inr ⟨q,hq,?_⟩⟩
  exact (hJx M).putObj _ hx (by omega) (by first | exact hD | (rw [<- hs1];exact hD)) rfl
end
section
open Go.RowKit Go.Shelf
abbrev BN:=Nat×Nat
def kvB (b:BN):KV:=(boxK b.1,⟨#[UInt8.ofNat b.2]⟩)
structure Led where
 bs:List BN
 ts:List TN
 ps:List PN
def Led.kvs (L:Led):List KV:=L.bs.map kvB++L.ts.map kvT++L.ps.map kvP
structure PT.Good (r:PT):Prop where
 x:r.x<5
 y:r.y<5
 box:r.box<=9
 donor:1<=r.donor/\r.donor<=99
 status:1<=r.status/\r.status<=3
 thaws:r.thaws<=9
 began:r.began<=1000000
 left:r.left<=1000000
 used:r.used<=1000000
 lost:r.lost<=1000000
theorem PT.Good.ok {r:PT} (h:r.Good):r.Ok:=by
 obtain ⟨h1,h2,h3,h4,h5,h6,h7,h8,h9,h10⟩:=h
 exact ⟨by omega,by omega,by omega,by omega,by omega,by omega,by omega,by omega,by omega,by omega⟩
structure Led.Fit (L:Led):Prop where
 bs:L.bs.Pairwise fun a b=>a.1<b.1
 ts:L.ts.Pairwise fun a b=>a.1<b.1
 ps:L.ps.Pairwise fun a b=>a.1<b.1\/(a.1=b.1/\a.2.1<b.2.1)
 b1:∀ b∈L.bs,1<=b.1/\b.1<=9/\b.2<256
 t1:∀ t∈L.ts,1<=t.1/\t.1<=999/\t.2.Ok
 p1:∀ p∈L.ps,1<=p.1/\p.1<p.2.1/\p.2.1<=999/\p.2.2<16777216
structure Led.Ok (L:Led):Prop where
 bs:L.bs.Pairwise fun a b=>a.1<b.1
 ts:L.ts.Pairwise fun a b=>a.1<b.1
 ps:L.ps.Pairwise fun a b=>a.1<b.1\/(a.1=b.1/\a.2.1<b.2.1)
 b1:∀ b∈L.bs,1<=b.1/\b.1<=9/\1<=b.2/\b.2<=5
 t1:∀ t∈L.ts,1<=t.1/\t.1<=999/\t.2.Good
 p1:∀ p∈L.ps,1<=p.1/\p.1<p.2.1/\p.2.1<=999/\1<=p.2.2/\p.2.2<=1000000
theorem Led.Ok.fit {L:Led} (h:L.Ok):L.Fit :=
 ⟨h.bs,h.ts,h.ps,fun b hb=>by have:=h.b1 b hb;omega,fun t ht=>by have:=h.t1 t ht;exact ⟨this.1,this.2.1,this.2.2.ok⟩,fun p hp=>by have:=h.p1 p hp;omega⟩
def insB (l:List BN) (n s:Nat):List BN:=l.filter (fun x=>decide (x.1<n))++(n,s)::l.filter (fun x=>decide (n<x.1))
def insT (l:List TN) (n:Nat) (q:PT):List TN:=l.filter (fun x=>decide (x.1<n))++(n,q)::l.filter (fun x=>decide (n<x.1))
def insP (l:List PN) (a b v:Nat):List PN:=l.filter (fun x=>decide (x.1<a\/(x.1=a/\x.2.1<b)))++(a,b,v)::l.filter (fun x=>decide (a<x.1\/(a=x.1/\b<x.2.1)))
theorem filt_all {α:Type} {p:α->Bool} {l:List α} (h:∀ x∈l,p x=true):l.filter p=l:=List.filter_eq_self.2 h
theorem filt_no {α:Type} {p:α->Bool} {l:List α} (h:∀ x∈l,p x=false):l.filter p=[]:=List.filter_eq_nil_iff.2 fun x hx=>by simp [h x hx]
theorem filt_same {α:Type} {p q:α->Bool} {l:List α} (h:∀ x∈l,p x=q x):l.filter p=l.filter q:=List.filter_congr h
namespace Led
variable {L:Led}
theorem filt (L:Led) (p:KV->Bool):L.kvs.filter p=(L.bs.filter (fun b=>p (kvB b))).map kvB++(L.ts.filter (fun t=>p (kvT t))).map kvT++(L.ps.filter (fun q=>p (kvP q))).map kvP:=by
 simp only [Led.kvs,List.filter_append,List.filter_map]
 rfl
theorem sel_tsF (h:L.Fit):sel (tubeK 1) (tubeK 999) L.kvs=L.ts.map kvT:=by
 unfold sel
 rw [filt,filt_no (l:=L.bs) (fun b hb => ?_),filt_all (l:=L.ts) (fun t ht => ?_),filt_no (l:=L.ps) (fun p hp => ?_)]
 ·simp
 ·have:=h.p1 p hp
  refine decide_eq_false ?_;simp only [kvP,pourK,tubeK];omega
 ·have:=h.t1 t ht
  refine decide_eq_true ?_;simp only [kvT,tubeK];omega
 ·have:=h.b1 b hb
  refine decide_eq_false ?_;simp only [kvB,boxK,tubeK];omega
theorem sel_ts (h:L.Ok):sel (tubeK 1) (tubeK 999) L.kvs=L.ts.map kvT:=sel_tsF h.fit
theorem sel_psF (h:L.Fit):sel (pourK 1 1) (pourK 999 999) L.kvs=L.ps.map kvP:=by
 unfold sel
 rw [filt,filt_no (l:=L.bs) (fun b hb => ?_),filt_no (l:=L.ts) (fun t ht => ?_),filt_all (l:=L.ps) (fun p hp => ?_)]
 ·simp
 ·have:=h.p1 p hp
  refine decide_eq_true ?_;simp only [kvP,pourK];omega
 ·have:=h.t1 t ht
  refine decide_eq_false ?_;simp only [kvT,tubeK,pourK];omega
 ·have:=h.b1 b hb
  refine decide_eq_false ?_;simp only [kvB,boxK,pourK];omega
theorem sel_ps (h:L.Ok):sel (pourK 1 1) (pourK 999 999) L.kvs=L.ps.map kvP:=sel_psF h.fit
theorem riseF (h:L.Fit):RiseK L.kvs:=by
 unfold RiseK Led.kvs
 refine List.pairwise_append.2 ⟨List.pairwise_append.2 ⟨List.pairwise_map.2 (h.bs.imp ?_),List.pairwise_map.2 (h.ts.imp ?_),?_⟩,List.pairwise_map.2 ?_,?_⟩
 ·intro a b hab;simp only [kvB,boxK];omega
 ·intro a b hab;simp only [kvT,tubeK];omega
 ·intro a ha b hb
  obtain ⟨x,hx,rfl⟩:=List.mem_map.1 ha
  obtain ⟨y,hy,rfl⟩:=List.mem_map.1 hb
  have:=h.b1 x hx;have:=h.t1 y hy
  simp only [kvB,kvT,boxK,tubeK];omega
 ·refine h.ps.imp_of_mem (fun {a b} ha hb hab => ?_)
  have:=h.p1 a ha;have:=h.p1 b hb
  simp only [kvP,pourK];omega
 ·intro a ha b hb
  obtain ⟨y,hy,rfl⟩:=List.mem_map.1 hb
  have:=h.p1 y hy
  rcases List.mem_append.1 ha with ha | ha
  ·obtain ⟨x,hx,rfl⟩:=List.mem_map.1 ha
   have:=h.b1 x hx
   simp only [kvB,kvP,boxK,pourK];omega
  ·obtain ⟨x,hx,rfl⟩:=List.mem_map.1 ha
   have:=h.t1 x hx
   simp only [kvT,kvP,tubeK,pourK];omega
theorem rise (h:L.Ok):RiseK L.kvs:=riseF h.fit
theorem len (L:Led):L.kvs.length=L.bs.length+L.ts.length+L.ps.length:=by simp only [Led.kvs,List.length_append,List.length_map]
def box (L:Led) (n:Nat):Option Nat:=((L.bs.filter fun b=>decide (b.1=n)).head?).map Prod.snd
def tube (L:Led) (n:Nat):Option PT:=((L.ts.filter fun t=>decide (t.1=n)).head?).map Prod.snd
def pour (L:Led) (a b:Nat):Option Nat:=((L.ps.filter fun p=>decide (p.1=a/\p.2.1=b)).head?).map fun p=>p.2.2
theorem get_boxF (h:L.Fit) {n:Nat} (hn:n<1024):getK L.kvs (boxK n)=(L.box n).map fun s=>⟨#[UInt8.ofNat s]⟩:=by
 unfold getK sel
 rw [filt,filt_same (l:=L.bs) (q:=fun b=>decide (b.1=n)) (fun b hb => ?_),filt_no (l:=L.ts) (fun t ht => ?_),filt_no (l:=L.ps) (fun p hp => ?_)]
 ·simp only [List.map_nil,List.append_nil,List.head?_map,Led.box,Option.map_map];rfl
 ·have:=h.p1 p hp
  refine decide_eq_false ?_;simp only [kvP,pourK,boxK];omega
 ·have:=h.t1 t ht
  refine decide_eq_false ?_;simp only [kvT,boxK,tubeK];omega
 ·refine decide_eq_decide.2 ?_;simp only [kvB,boxK];omega
theorem get_box (h:L.Ok) {n:Nat} (hn:n<1024):getK L.kvs (boxK n)=(L.box n).map fun s=>⟨#[UInt8.ofNat s]⟩:=get_boxF h.fit hn
theorem get_tubeF (h:L.Fit) {n:Nat} (hn:n<1024):getK L.kvs (tubeK n)=(L.tube n).map fun q=>⟨q.text.toArray⟩:=by
 unfold getK sel
 rw [filt,filt_no (l:=L.bs) (fun b hb => ?_),filt_same (l:=L.ts) (q:=fun t=>decide (t.1=n)) (fun t ht => ?_),filt_no (l:=L.ps) (fun p hp => ?_)]
 ·simp only [List.map_nil,List.append_nil,List.nil_append,List.head?_map,Led.tube,Option.map_map];rfl
 ·have:=h.p1 p hp
  refine decide_eq_false ?_;simp only [kvP,pourK,tubeK];omega
 ·refine decide_eq_decide.2 ?_;simp only [kvT,tubeK];omega
 ·have:=h.b1 b hb
  refine decide_eq_false ?_;simp only [kvB,boxK,tubeK];omega
theorem get_tube (h:L.Ok) {n:Nat} (hn:n<1024):getK L.kvs (tubeK n)=(L.tube n).map fun q=>⟨q.text.toArray⟩:=get_tubeF h.fit hn
theorem get_pourF (h:L.Fit) {a b:Nat} (ha:a<1024) (hb:b<1024):getK L.kvs (pourK a b)=(L.pour a b).map fun v=>⟨(vol v).toArray⟩:=by
 unfold getK sel
 rw [filt,filt_no (l:=L.bs) (fun b hb => ?_),filt_no (l:=L.ts) (fun t ht => ?_),filt_same (l:=L.ps) (q:=fun p=>decide (p.1=a/\p.2.1=b)) (fun p hp => ?_)]
 ·simp only [List.map_nil,List.append_nil,List.nil_append,List.head?_map,Led.pour,Option.map_map];rfl
 ·have:=h.p1 p hp
  refine decide_eq_decide.2 ?_;simp only [kvP,pourK];omega
 ·have:=h.t1 t ht
  refine decide_eq_false ?_;simp only [kvT,tubeK,pourK];omega
 ·have:=h.b1 b hb
  refine decide_eq_false ?_;simp only [kvB,boxK,pourK];omega
theorem get_pour (h:L.Ok) {a b:Nat} (ha:a<1024) (hb:b<1024):getK L.kvs (pourK a b)=(L.pour a b).map fun v=>⟨(vol v).toArray⟩:=get_pourF h.fit ha hb
theorem ins_boxF (h:L.Fit) (n s:Nat) (hn:n<=999):insK L.kvs (boxK n) ⟨#[UInt8.ofNat s]⟩=({ L with bs:=insB L.bs n s }:Led).kvs:=by
 unfold insK
 rw [filt,filt,filt_same (l:=L.bs) (q:=fun x=>decide (x.1<n)) (fun b hb => ?_),filt_no (l:=L.ts) (p:=fun t=>decide ((kvT t).1<boxK n)) (fun t ht => ?_),filt_no (l:=L.ps) (p:=fun t=>decide ((kvP t).1<boxK n)) (fun p hp => ?_),
  filt_same (l:=L.bs) (p:=fun x=>decide (boxK n<(kvB x).1)) (q:=fun x=>decide (n<x.1)) (fun b hb => ?_),filt_all (l:=L.ts) (fun t ht => ?_),filt_all (l:=L.ps) (fun p hp => ?_)]
 ·simp [Led.kvs,insB,kvB]
 ·have:=h.p1 p hp
  refine decide_eq_true ?_;simp only [kvP,pourK,boxK];omega
 ·have:=h.t1 t ht
  refine decide_eq_true ?_;simp only [kvT,boxK,tubeK];omega
 ·refine decide_eq_decide.2 ?_;simp only [kvB,boxK];omega
 ·have:=h.p1 p hp
  refine decide_eq_false ?_;simp only [kvP,pourK,boxK];omega
 ·have:=h.t1 t ht
  refine decide_eq_false ?_;simp only [kvT,boxK,tubeK];omega
 ·refine decide_eq_decide.2 ?_;simp only [kvB,boxK];omega
theorem ins_box (h:L.Ok) (n s:Nat) (hn:n<=999):insK L.kvs (boxK n) ⟨#[UInt8.ofNat s]⟩=({ L with bs:=insB L.bs n s }:Led).kvs:=ins_boxF h.fit n s hn
theorem ins_tubeF (h:L.Fit) (n:Nat) (q:PT) (hn:n<=999):insK L.kvs (tubeK n) ⟨q.text.toArray⟩=({ L with ts:=insT L.ts n q }:Led).kvs:=by
 unfold insK
 rw [filt,filt,filt_all (l:=L.bs) (fun b hb => ?_),filt_same (l:=L.ts) (q:=fun x=>decide (x.1<n)) (fun t ht => ?_),filt_no (l:=L.ps) (p:=fun t=>decide ((kvP t).1<tubeK n)) (fun p hp => ?_),
  filt_no (l:=L.bs) (fun b hb => ?_),filt_same (l:=L.ts) (p:=fun x=>decide (tubeK n<(kvT x).1)) (q:=fun x=>decide (n<x.1)) (fun t ht => ?_),filt_all (l:=L.ps) (fun p hp => ?_)]
 ·simp [Led.kvs,insT,kvT]
 ·have:=h.p1 p hp
  refine decide_eq_true ?_;simp only [kvP,pourK,tubeK];omega
 ·refine decide_eq_decide.2 ?_;simp only [kvT,tubeK];omega
 ·have:=h.b1 b hb
  refine decide_eq_false ?_;simp only [kvB,boxK,tubeK];omega
 ·have:=h.p1 p hp
  refine decide_eq_false ?_;simp only [kvP,pourK,tubeK];omega
 ·refine decide_eq_decide.2 ?_;simp only [kvT,tubeK];omega
 ·have:=h.b1 b hb
  refine decide_eq_true ?_;simp only [kvB,boxK,tubeK];omega
theorem ins_tube (h:L.Ok) (n:Nat) (q:PT) (hn:n<=999):insK L.kvs (tubeK n) ⟨q.text.toArray⟩=({ L with ts:=insT L.ts n q }:Led).kvs:=ins_tubeF h.fit n q hn
theorem ins_pourF (h:L.Fit) (a b v:Nat) (ha:a<=999) (hb:b<=999):insK L.kvs (pourK a b) ⟨(vol v).toArray⟩=({ L with ps:=insP L.ps a b v }:Led).kvs:=by
 unfold insK
 rw [filt,filt,filt_all (l:=L.bs) (fun b hb => ?_),filt_all (l:=L.ts) (fun t ht => ?_),filt_same (l:=L.ps) (q:=fun x=>decide (x.1<a\/(x.1=a/\x.2.1<b))) (fun p hp => ?_),
  filt_no (l:=L.bs) (fun b hb => ?_),filt_no (l:=L.ts) (fun t ht => ?_),filt_same (l:=L.ps) (p:=fun x=>decide (pourK a b<(kvP x).1)) (q:=fun x=>decide (a<x.1\/(a=x.1/\b<x.2.1))) (fun p hp => ?_)]
 ·simp [Led.kvs,insP,kvP]
 ·have:=h.p1 p hp
  refine decide_eq_decide.2 ?_;simp only [kvP,pourK];omega
 ·have:=h.t1 t ht
  refine decide_eq_false ?_;simp only [kvT,tubeK,pourK];omega
 ·have:=h.b1 b hb
  refine decide_eq_false ?_;simp only [kvB,boxK,pourK];omega
 ·have:=h.p1 p hp
  refine decide_eq_decide.2 ?_;simp only [kvP,pourK];omega
 ·have:=h.t1 t ht
  refine decide_eq_true ?_;simp only [kvT,tubeK,pourK];omega
 ·have:=h.b1 b hb
  refine decide_eq_true ?_;simp only [kvB,boxK,pourK];omega
theorem ins_pour (h:L.Ok) (a b v:Nat) (ha:a<=999) (hb:b<=999):insK L.kvs (pourK a b) ⟨(vol v).toArray⟩=({ L with ps:=insP L.ps a b v }:Led).kvs:=ins_pourF h.fit a b v ha hb
end Led
end
section
open Go.RowKit Go.Shelf
theorem ins_pw {α:Type} {r:α->α->Prop} {l:List α} {x:α} {p q:α->Bool} (hl:l.Pairwise r) (hp:∀ y∈l,p y=true->r y x) (hq:∀ y∈l,q y=true->r x y) (ht:∀ a∈l,∀ b∈l,p a=true->q b=true->r a b):(l.filter p++x::l.filter q).Pairwise r:=by
 refine List.pairwise_append.2 ⟨hl.filter _,List.pairwise_cons.2 ⟨fun y hy => ?_,hl.filter _⟩,fun a ha b hb => ?_⟩
 ·have:=List.mem_filter.1 hy;exact hq y this.1 this.2
 ·have h1:=List.mem_filter.1 ha
  rcases List.mem_cons.1 hb with rfl | hb
  ·exact hp a h1.1 h1.2
  ·have h2:=List.mem_filter.1 hb;exact ht a h1.1 b h2.1 h1.2 h2.2
theorem mem_insB {l:List BN} {n s:Nat} {x:BN}:x∈insB l n s↔x=(n,s)\/(x∈l/\x.1≠n):=by
 simp only [insB,List.mem_append,List.mem_filter,List.mem_cons,decide_eq_true_eq]
 constructor
 ·rintro (⟨h,h1⟩ | h | ⟨h,h1⟩)
  ·exact .inr ⟨h,by omega⟩
  ·exact .inl h
  ·exact .inr ⟨h,by omega⟩
 ·rintro (h | ⟨h,h1⟩)
  ·exact .inr (.inl h)
  ·rcases Nat.lt_or_gt_of_ne h1 with h2 | h2
   ·exact .inl ⟨h,h2⟩
   ·exact .inr (.inr ⟨h,h2⟩)
theorem mem_insT {l:List TN} {n:Nat} {q:PT} {x:TN}:x∈insT l n q↔x=(n,q)\/(x∈l/\x.1≠n):=by
 simp only [insT,List.mem_append,List.mem_filter,List.mem_cons,decide_eq_true_eq]
 constructor
 ·rintro (⟨h,h1⟩ | h | ⟨h,h1⟩)
  ·exact .inr ⟨h,by omega⟩
  ·exact .inl h
  ·exact .inr ⟨h,by omega⟩
 ·rintro (h | ⟨h,h1⟩)
  ·exact .inr (.inl h)
  ·rcases Nat.lt_or_gt_of_ne h1 with h2 | h2
   ·exact .inl ⟨h,h2⟩
   ·exact .inr (.inr ⟨h,h2⟩)
theorem mem_insP {l:List PN} {a b v:Nat} {x:PN}:x∈insP l a b v↔x=(a,b,v)\/(x∈l/\¬ (x.1=a/\x.2.1=b)):=by
 simp only [insP,List.mem_append,List.mem_filter,List.mem_cons,decide_eq_true_eq]
 constructor
 ·rintro (⟨h,h1⟩ | h | ⟨h,h1⟩)
  ·exact .inr ⟨h,by omega⟩
  ·exact .inl h
  ·exact .inr ⟨h,by omega⟩
 ·rintro (h | ⟨h,h1⟩)
  ·exact .inr (.inl h)
  ·by_cases h2:x.1<a\/(x.1=a/\x.2.1<b)
   ·exact .inl ⟨h,h2⟩
   ·exact .inr (.inr ⟨h,by omega⟩)
namespace Led
variable {L:Led}
theorem Ok.insB (h:L.Ok) {n s:Nat} (hn:1<=n/\n<=9) (hs:1<=s/\s<=5):({ L with bs:=insB L.bs n s }:Led).Ok :=
 ⟨ins_pw h.bs (fun y _ hy=>by simpa using hy) (fun y _ hy=>by simpa using hy) (fun a _ b _ ha hb=>by simp only [decide_eq_true_eq] at ha hb;omega),h.ts,h.ps,
  fun b hb=>by rcases mem_insB.1 hb with rfl | ⟨hb,_⟩;exact ⟨hn.1,hn.2,hs⟩;exact h.b1 b hb,h.t1,h.p1⟩
theorem Ok.insT (h:L.Ok) {n:Nat} {q:PT} (hn:1<=n/\n<=999) (hq:q.Good):({ L with ts:=insT L.ts n q }:Led).Ok :=
 ⟨h.bs,ins_pw h.ts (fun y _ hy=>by simpa using hy) (fun y _ hy=>by simpa using hy) (fun a _ b _ ha hb=>by simp only [decide_eq_true_eq] at ha hb;omega),h.ps,
  h.b1,fun b hb=>by rcases mem_insT.1 hb with rfl | ⟨hb,_⟩;exact ⟨hn.1,hn.2,hq⟩;exact h.t1 b hb,h.p1⟩
theorem Ok.insP (h:L.Ok) {a b v:Nat} (ha:1<=a/\a<b/\b<=999) (hv:1<=v/\v<=1000000):({ L with ps:=insP L.ps a b v }:Led).Ok :=
 ⟨h.bs,h.ts,ins_pw h.ps (fun y _ hy=>by simpa using hy) (fun y _ hy=>by simpa using hy) (fun a _ b _ ha hb=>by simp only [decide_eq_true_eq] at ha hb;omega),
  h.b1,h.t1,fun x hx=>by rcases mem_insP.1 hx with rfl | ⟨hx,_⟩;exact ⟨ha.1,ha.2.1,ha.2.2,hv⟩;exact h.p1 x hx⟩
theorem head_filter_of {α:Type} {p:α->Bool} {l:List α} {x:α} (hx:x∈l) (hp:p x=true) (hu:∀ y∈l,p y=true->y=x):(l.filter p).head? = some x:=by
 have hm:x∈l.filter p:=List.mem_filter.2 ⟨hx,hp⟩
 cases hf:l.filter p with
 | nil=>rw [hf] at hm;cases hm
 | cons y ys =>
  have:y∈l.filter p:=by rw [hf];simp
  have:=List.mem_filter.1 this
  rw [hu y this.1 this.2];rfl
theorem head_filter_mem {α:Type} {p:α->Bool} {l:List α} {x:α} (h:(l.filter p).head? = some x):x∈l/\p x=true:=List.mem_filter.1 (List.mem_of_mem_head? h)
theorem pw_uniq {α β:Type} {r:α->α->Prop} {f:α->β} (hr:∀ a b,r a b->f a≠f b):∀ {l:List α},l.Pairwise r->∀ x∈l,∀ y∈l,f x=f y->x=y
 | [],_,_,hx,_,_,_=>by cases hx
 | a::l,h,x,hx,y,hy,e=>by
  obtain ⟨h1,h2⟩:=List.pairwise_cons.1 h
  rcases List.mem_cons.1 hx with ex | hx'
  ·rcases List.mem_cons.1 hy with ey | hy'
   ·rw [ex,ey]
   ·rw [ex] at e;exact absurd e (hr _ _ (h1 y hy'))
  ·rcases List.mem_cons.1 hy with ey | hy'
   ·rw [ey] at e;exact absurd e.symm (hr _ _ (h1 x hx'))
   ·exact pw_uniq hr h2 x hx' y hy' e
theorem box_memF (h:L.Fit) {n s:Nat}:L.box n=some s↔(n,s)∈L.bs:=by
 constructor
 ·intro e
  obtain ⟨x,hx,rfl⟩:=Option.map_eq_some_iff.1 e
  obtain ⟨h1,h2⟩:=head_filter_mem hx
  simp only [decide_eq_true_eq] at h2;subst h2;exact h1
 ·intro e
  unfold Led.box
  rw [head_filter_of e (by simp) (fun y hy hp=>pw_uniq (f:=Prod.fst) (fun a b (hab:a.1<b.1) e=>by omega) h.bs y hy _ e (by simpa using hp))];rfl
theorem box_mem (h:L.Ok) {n s:Nat}:L.box n=some s↔(n,s)∈L.bs:=box_memF h.fit
theorem tube_memF (h:L.Fit) {n:Nat} {q:PT}:L.tube n=some q↔(n,q)∈L.ts:=by
 constructor
 ·intro e
  obtain ⟨x,hx,rfl⟩:=Option.map_eq_some_iff.1 e
  obtain ⟨h1,h2⟩:=head_filter_mem hx
  simp only [decide_eq_true_eq] at h2;subst h2;exact h1
 ·intro e
  unfold Led.tube
  rw [head_filter_of e (by simp) (fun y hy hp=>pw_uniq (f:=Prod.fst) (fun a b (hab:a.1<b.1) e=>by omega) h.ts y hy _ e (by simpa using hp))];rfl
theorem tube_mem (h:L.Ok) {n:Nat} {q:PT}:L.tube n=some q↔(n,q)∈L.ts:=tube_memF h.fit
theorem pour_memF (h:L.Fit) {a b v:Nat}:L.pour a b=some v↔(a,b,v)∈L.ps:=by
 constructor
 ·intro e
  obtain ⟨x,hx,rfl⟩:=Option.map_eq_some_iff.1 e
  obtain ⟨h1,h2⟩:=head_filter_mem hx
  simp only [decide_eq_true_eq] at h2
  obtain ⟨rfl,rfl⟩:=h2;exact h1
 ·intro e
  unfold Led.pour
  rw [head_filter_of e (by simp) (fun y hy hp=>pw_uniq (f:=fun p:PN=>(p.1,p.2.1)) (fun a b hab e=>by have e1:=congrArg Prod.fst e;have e2:=congrArg Prod.snd e;simp only at e1 e2;omega) h.ps y hy _ e (by simpa using hp))];rfl
theorem pour_mem (h:L.Ok) {a b v:Nat}:L.pour a b=some v↔(a,b,v)∈L.ps:=pour_memF h.fit
theorem head_ins {α β:Type} (key:α->Nat) (val:α->β) (l:List α) (x:α) (m:Nat) :
  (((l.filter (fun a=>decide (key a<key x))++x::l.filter (fun a=>decide (key x<key a))).filter fun a=>decide (key a=m)).head?).map val=if m=key x then some (val x) else ((l.filter fun a=>decide (key a=m)).head?).map val:=by
 by_cases e:m=key x
 ·subst e
  rw [if_pos rfl,List.filter_append,List.filter_filter,filt_no (l:=l) (p:=fun a=>decide (key a=key x)&&decide (key a<key x)) (fun y _=>by
   by_cases h:key y=key x
   ·rw [decide_eq_false (p:=key y<key x) (by omega),Bool.and_false]
   ·rw [decide_eq_false h,Bool.false_and]),List.nil_append,List.filter_cons,if_pos (by simp)]
  rfl
 ·rw [if_neg e,List.filter_append,List.filter_cons,if_neg (by simp only [decide_eq_true_eq];omega),List.filter_filter,List.filter_filter]
  rcases Nat.lt_or_gt_of_ne e with h | h
  ·rw [filt_no (l:=l) (p:=fun a=>decide (key a=m)&&decide (key x<key a)) (fun y _=>by
    by_cases h2:key y=m
    ·rw [decide_eq_false (p:=key x<key y) (by omega),Bool.and_false]
    ·rw [decide_eq_false h2,Bool.false_and]),List.append_nil,filt_same (l:=l) (q:=fun a=>decide (key a=m)) (fun y _=>by
    by_cases h2:key y=m
    ·rw [decide_eq_true (p:=key y<key x) (by omega),Bool.and_true]
    ·rw [decide_eq_false h2,Bool.false_and])]
  ·rw [filt_no (l:=l) (p:=fun a=>decide (key a=m)&&decide (key a<key x)) (fun y _=>by
    by_cases h2:key y=m
    ·rw [decide_eq_false (p:=key y<key x) (by omega),Bool.and_false]
    ·rw [decide_eq_false h2,Bool.false_and]),List.nil_append,filt_same (l:=l) (q:=fun a=>decide (key a=m)) (fun y _=>by
    by_cases h2:key y=m
    ·rw [decide_eq_true (p:=key x<key y) (by omega),Bool.and_true]
    ·rw [decide_eq_false h2,Bool.false_and])]
theorem box_insB (L:Led) (n s m:Nat):({ L with bs:=Go.Proofs.YtalncjhldkcmaaaGreat.insB L.bs n s }:Led).box m=if m=n then some s else L.box m:=head_ins (fun b:BN=>b.1) Prod.snd L.bs (n,s) m
theorem tube_insT (L:Led) (n m:Nat) (q:PT):({ L with ts:=Go.Proofs.YtalncjhldkcmaaaGreat.insT L.ts n q }:Led).tube m=if m=n then some q else L.tube m:=head_ins (fun b:TN=>b.1) Prod.snd L.ts (n,q) m
end Led
end
section
def k4 (k:Int):List UInt8:=[UInt8.ofNat (k.toNat / 16777216),UInt8.ofNat (k.toNat / 65536),UInt8.ofNat (k.toNat / 256),UInt8.ofNat k.toNat]
def rd4 (l:List UInt8):Nat:=(l.getD 0 0).toNat*16777216+(l.getD 1 0).toNat*65536+(l.getD 2 0).toNat*256+(l.getD 3 0).toNat
theorem rd4_k4 {k:Int} (h0:0<=k) (h:k<4294967296) (l:List UInt8):(rd4 (k4 k++l):Int)=k:=by
 simp only [rd4,k4,List.cons_append,List.getD_cons_zero,List.getD_cons_succ,UInt8.toNat_ofNat']
 omega
theorem rd4_lt (l:List UInt8):rd4 l<4294967296:=by
 have h0:=(l.getD 0 0).toNat_lt;have h1:=(l.getD 1 0).toNat_lt;have h2:=(l.getD 2 0).toNat_lt;have h3:=(l.getD 3 0).toNat_lt
 unfold rd4;omega
def recT (x:KV):List UInt8:=k4 x.1++x.2.data.toList
def textK (l:List KV):List UInt8:=l.flatMap recT
theorem textK_nil:textK []=[]:=rfl
theorem textK_cons (x:KV) (l:List KV):textK (x::l)=k4 x.1++(x.2.data.toList++textK l):=by simp [textK,recT]
theorem textK_app (a b:List KV):textK (a++b)=textK a++textK b:=by simp [textK]
theorem recT_len (x:KV):(recT x).length=4+x.2.size:=by simp [recT,k4];omega
def sizeK (k:Nat):Nat :=
 if k=1048576+k % 1024/\1<=k % 1024/\k % 1024<=9 then 1
 else if k=2097152+k % 1024/\1<=k % 1024/\k % 1024<=999 then 18
 else if k=3145728+k / 1024 % 1024*1024+k % 1024/\1<=k / 1024 % 1024/\k / 1024 % 1024<k % 1024/\k % 1024<=999 then 3 else 0
def readF:Nat->List UInt8->List KV->Option (List KV)
 | 0,l,acc=>if l=[] then some acc else none
 | f+1,l,acc=>if l=[] then some acc else if l.length<4 then none else if sizeK (rd4 l)=0\/(l.drop 4).length<sizeK (rd4 l) then none
  else readF f ((l.drop 4).drop (sizeK (rd4 l))) (insK acc (rd4 l) ⟨((l.drop 4).take (sizeK (rd4 l))).toArray⟩)
def readR (l:List UInt8) (acc:List KV):Option (List KV):=readF l.length l acc
theorem readF_nil (f:Nat) (acc:List KV):readF f [] acc=some acc:=by cases f <;> simp [readF]
theorem readF_ok:∀ (f g:Nat) (l:List UInt8) (acc:List KV),l.length<=f->l.length<=g->readF f l acc=readF g l acc
 | 0,g,l,acc,h,_=>by
  obtain rfl:l=[]:=List.length_eq_zero_iff.1 (by omega)
  rw [readF_nil,readF_nil]
 | f+1,0,l,acc,_,h=>by
  obtain rfl:l=[]:=List.length_eq_zero_iff.1 (by omega)
  rw [readF_nil,readF_nil]
 | f+1,g+1,l,acc,hf,hg=>by
  simp only [readF]
  by_cases h0:l=[]
  ·rw [if_pos h0,if_pos h0]
  rw [if_neg h0,if_neg h0]
  by_cases h4:l.length<4
  ·rw [if_pos h4,if_pos h4]
  rw [if_neg h4,if_neg h4]
  split
  ·rfl
  ·exact readF_ok f g _ _ (by simp only [List.length_drop];omega) (by simp only [List.length_drop];omega)
theorem readR_eq (l:List UInt8) (acc:List KV):readR l acc=if l=[] then some acc else if l.length<4 then none else if sizeK (rd4 l)=0\/(l.drop 4).length<sizeK (rd4 l) then none
  else readR ((l.drop 4).drop (sizeK (rd4 l))) (insK acc (rd4 l) ⟨((l.drop 4).take (sizeK (rd4 l))).toArray⟩):=by
 unfold readR
 by_cases h0:l=[]
 ·rw [if_pos h0,h0,readF_nil]
 rw [if_neg h0]
 obtain ⟨k,hk⟩:∃ k,l.length=k+1:=⟨l.length - 1,by have:=List.length_pos_iff.2 h0;omega⟩
 rw [hk]
 simp only [readF]
 rw [if_neg h0,hk]
 split
 ·rfl
 split
 ·rfl
 ·exact readF_ok _ _ _ _ (by simp only [List.length_drop];omega) (by omega)
def RecOk (x:KV):Prop:=0<=x.1/\x.1<4294967296/\0<x.2.size/\sizeK x.1.toNat=x.2.size
theorem insK_last {acc:List KV} {k:Int} (h:∀ x∈acc,x.1<k) (s:ByteArray):insK acc k s=acc++[(k,s)]:=by
 unfold insK
 rw [filt_all (fun x hx=>decide_eq_true (h x hx)),filt_no (l:=acc) (fun x hx=>decide_eq_false (by have:=h x hx;omega))]
theorem read_text:∀ (l pre:List KV),RiseK (pre++l)->(∀ x∈l,RecOk x)->readR (textK l) pre=some (pre++l)
 | [],pre,_,_=>by rw [textK_nil,readR_eq,if_pos rfl,List.append_nil]
 | x::l,pre,hr,hk=>by
  obtain ⟨h0,h1,h2,h3⟩:=hk x (List.mem_cons_self ..)
  have e4:rd4 (textK (x::l))=x.1.toNat:=by
   have:=rd4_k4 h0 h1 (x.2.data.toList++textK l)
   rw [textK_cons];omega
  have ez:((x.1.toNat:Nat):Int)=x.1:=by omega
  have d4:(textK (x::l)).drop 4=x.2.data.toList++textK l:=by rw [textK_cons];rfl
  have hs:x.2.data.toList.length=x.2.size:=by simp
  have ht:(x.2.data.toList++textK l).take x.2.size=x.2.data.toList:=by rw [<- hs,List.take_left]
  have hd:(x.2.data.toList++textK l).drop x.2.size=textK l:=by rw [<- hs,List.drop_left]
  have hlt:∀ y∈pre,y.1<x.1:=fun y hy=>(List.pairwise_append.1 hr).2.2 y hy x (List.mem_cons_self ..)
  have hne:textK (x::l)≠[]:=by rw [textK_cons];simp [k4]
  have hl4:¬ (textK (x::l)).length<4:=by rw [textK_cons];simp [k4]
  rw [readR_eq,if_neg hne,if_neg hl4,e4,h3,d4,if_neg (by simp only [List.length_append,hs];omega),ht,hd,ez]
  have ex:(⟨x.2.data.toList.toArray⟩:ByteArray)=x.2:=rfl
  rw [ex,insK_last hlt]
  have:=read_text l (pre++[x]) (by rw [List.append_assoc];exact hr) (fun y hy=>hk y (List.mem_cons_of_mem _ hy))
  rw [List.append_assoc] at this
  exact this
namespace Led
variable {L:Led}
theorem recs_ok (h:L.Fit):∀ x∈L.kvs,RecOk x:=by
 intro x hx
 unfold kvs at hx
 rcases List.mem_append.1 hx with hx | hx
 ·rcases List.mem_append.1 hx with hx | hx
  ·obtain ⟨b,hb,rfl⟩:=List.mem_map.1 hx
   have:=h.b1 b hb
   refine ⟨by simp only [kvB,boxK];omega,by simp only [kvB,boxK];omega,by show 0<1;omega,?_⟩
   have e:(boxK b.1).toNat=1048576+b.1:=by simp only [boxK];omega
   simp only [kvB,e,sizeK]
   rw [if_pos (by omega)];rfl
  ·obtain ⟨t,ht,rfl⟩:=List.mem_map.1 hx
   have:=h.t1 t ht
   refine ⟨by simp only [kvT,tubeK];omega,by simp only [kvT,tubeK];omega,by show 0<18;omega,?_⟩
   have e:(tubeK t.1).toNat=2097152+t.1:=by simp only [tubeK];omega
   simp only [kvT,e,sizeK]
   rw [if_neg (by omega),if_pos (by omega)];rfl
 ·obtain ⟨p,hp,rfl⟩:=List.mem_map.1 hx
  have:=h.p1 p hp
  refine ⟨by simp only [kvP,pourK];omega,by simp only [kvP,pourK];omega,by show 0<3;omega,?_⟩
  have e:(pourK p.1 p.2.1).toNat=3145728+p.1*1024+p.2.1:=by simp only [pourK];omega
  simp only [kvP,e,sizeK]
  rw [if_neg (by omega),if_neg (by omega),if_pos (by omega)];rfl
def text (L:Led):List UInt8:=textK L.kvs
theorem read (h:L.Fit):readR L.text []=some L.kvs:=read_text L.kvs [] (riseF h) (recs_ok h)
theorem textK_le:∀ l:List KV,(∀ x∈l,x.2.size<=18)->(textK l).length<=22*l.length
 | [],_=>Nat.le_refl _
 | x::l,h=>by
  have ih:=textK_le l (fun y hy=>h y (List.mem_cons_of_mem _ hy))
  have h1:=h x (List.mem_cons_self ..)
  have e:textK (x::l)=recT x++textK l:=by simp [textK]
  rw [e,List.length_append,recT_len,List.length_cons];omega
theorem text_le (h:L.Fit):L.text.length<=22*L.kvs.length:=by
 refine textK_le _ (fun x hx => ?_)
 have h1:=recs_ok h x hx
 rw [<- h1.2.2.2]
 unfold sizeK
 repeat' split
 all_goals omega
theorem text_room (h:L.Fit) {n:Nat} (hn:16<=n) (hl:L.kvs.length<=n / 8):L.text.length<=(n / 2 - 1)*128:=by
 have:=text_le h
 omega
end Led
theorem vol_of (a b c:UInt8):vol (a.toNat*65536+b.toNat*256+c.toNat)=[a,b,c]:=by
 have ha:=a.toNat_lt;have hb:=b.toNat_lt;have hc:=c.toNat_lt
 have e1:UInt8.ofNat ((a.toNat*65536+b.toNat*256+c.toNat) / 65536)=a:=by apply UInt8.toNat.inj;simp only [UInt8.toNat_ofNat'];omega
 have e2:UInt8.ofNat ((a.toNat*65536+b.toNat*256+c.toNat) / 256)=b:=by apply UInt8.toNat.inj;simp only [UInt8.toNat_ofNat'];omega
 have e3:UInt8.ofNat (a.toNat*65536+b.toNat*256+c.toNat)=c:=by apply UInt8.toNat.inj;simp only [UInt8.toNat_ofNat'];omega
 simp only [vol,e1,e2,e3]
theorem readR_fit:∀ (l:List UInt8) (L:Led) (kv:List KV),L.Fit->readR l L.kvs=some kv->∃ L':Led,L'.Fit/\kv=L'.kvs:=by
 have key:∀ (k:Nat) (l:List UInt8),l.length<=k->∀ (L:Led) (kv:List KV),L.Fit->readR l L.kvs=some kv->∃ L':Led,L'.Fit/\kv=L'.kvs:=by
  intro k
  induction k with
  | zero =>
   intro l hl L kv hF hr
   obtain rfl:l=[]:=List.length_eq_zero_iff.1 (by omega)
   rw [readR_eq,if_pos rfl] at hr
   cases hr
   exact ⟨L,hF,rfl⟩
  | succ k ih =>
   intro l hl L kv hF hr
   rw [readR_eq] at hr
   by_cases hn:l=[]
   ·rw [if_pos hn] at hr;cases hr;exact ⟨L,hF,rfl⟩
   rw [if_neg hn] at hr
   by_cases h4:l.length<4
   ·rw [if_pos h4] at hr;cases hr
   rw [if_neg h4] at hr
   by_cases hz:sizeK (rd4 l)=0\/(l.drop 4).length<sizeK (rd4 l)
   ·rw [if_pos hz] at hr;cases hr
   rw [if_neg hz] at hr
   have hlen:((l.drop 4).take (sizeK (rd4 l))).length=sizeK (rd4 l):=by rw [List.length_take];omega
   generalize (l.drop 4).take (sizeK (rd4 l))=s at *
   generalize hgk:rd4 l=g at *
   have hll:((l.drop 4).drop (sizeK g)).length<=k:=by simp only [List.length_drop];omega
   by_cases c1:g=1048576+g % 1024/\1<=g % 1024/\g % 1024<=9
   ·have z1:sizeK g=1:=by unfold sizeK;rw [if_pos c1]
    rw [z1] at hlen
    obtain ⟨b,rfl⟩:∃ b,s=[b]:=List.length_eq_one_iff.1 hlen
    have e1:((g:Nat):Int)=boxK (g % 1024):=by simp only [boxK];omega
    have e2:(⟨[b].toArray⟩:ByteArray)=⟨#[UInt8.ofNat b.toNat]⟩:=by simp
    rw [e1,e2,Led.ins_boxF hF _ _ (by omega)] at hr
    refine ih _ hll _ kv ?_ hr
    have hb:=b.toNat_lt
    exact ⟨ins_pw hF.bs (fun y _ hy=>by simpa using hy) (fun y _ hy=>by simpa using hy) (fun a _ b _ ha hb=>by simp only [decide_eq_true_eq] at ha hb;omega),hF.ts,hF.ps,
     fun x hx=>by rcases mem_insB.1 hx with rfl | ⟨hx,_⟩;exact ⟨c1.2.1,c1.2.2,hb⟩;exact hF.b1 x hx,hF.t1,hF.p1⟩
   by_cases c2:g=2097152+g % 1024/\1<=g % 1024/\g % 1024<=999
   ·have z1:sizeK g=18:=by unfold sizeK;rw [if_neg c1,if_pos c2]
    rw [z1] at hlen
    have e1:((g:Nat):Int)=tubeK (g % 1024):=by simp only [tubeK];omega
    obtain ⟨b0,b1,b2,b3,b4,b5,b6,b7,b8,b9,b10,b11,b12,b13,b14,b15,b16,b17,rfl⟩:∃ b0 b1 b2 b3 b4 b5 b6 b7 b8 b9 b10 b11 b12 b13 b14 b15 b16 b17,s=[b0,b1,b2,b3,b4,b5,b6,b7,b8,b9,b10,b11,b12,b13,b14,b15,b16,b17]:=by
     match s,hlen with
     | [b0,b1,b2,b3,b4,b5,b6,b7,b8,b9,b10,b11,b12,b13,b14,b15,b16,b17],_=>exact ⟨_,_,_,_,_,_,_,_,_,_,_,_,_,_,_,_,_,_,rfl⟩
    have lt:=fun b:UInt8=>b.toNat_lt
    have e2:(⟨[b0,b1,b2,b3,b4,b5,b6,b7,b8,b9,b10,b11,b12,b13,b14,b15,b16,b17].toArray⟩:ByteArray)=⟨(PT.text ⟨b4.toNat,b5.toNat,b3.toNat,b0.toNat,b1.toNat,b2.toNat,b6.toNat*65536+b7.toNat*256+b8.toNat,b9.toNat*65536+b10.toNat*256+b11.toNat,b12.toNat*65536+b13.toNat*256+b14.toNat,b15.toNat*65536+b16.toNat*256+b17.toNat⟩).toArray⟩:=by
     simp only [PT.text,PT.head,vol_of,UInt8.ofNat_toNat];rfl
    rw [e1,e2,Led.ins_tubeF hF _ _ (by omega)] at hr
    refine ih _ hll _ kv ?_ hr
    refine ⟨hF.bs,ins_pw hF.ts (fun y _ hy=>by simpa using hy) (fun y _ hy=>by simpa using hy) (fun a _ b _ ha hb=>by simp only [decide_eq_true_eq] at ha hb;omega),hF.ps,hF.b1,
     fun x hx => ?_,hF.p1⟩
    rcases mem_insT.1 hx with rfl | ⟨hx,_⟩
    ·have w3:∀ a b c:UInt8,a.toNat*65536+b.toNat*256+c.toNat<16777216:=fun a b c=>by have:=lt a;have:=lt b;have:=lt c;omega
     exact ⟨c2.2.1,c2.2.2,lt _,lt _,lt _,lt _,lt _,lt _,w3 _ _ _,w3 _ _ _,w3 _ _ _,w3 _ _ _⟩
    ·exact hF.t1 x hx
   by_cases c3:g=3145728+g / 1024 % 1024*1024+g % 1024/\1<=g / 1024 % 1024/\g / 1024 % 1024<g % 1024/\g % 1024<=999
   ·have z1:sizeK g=3:=by unfold sizeK;rw [if_neg c1,if_neg c2,if_pos c3]
    rw [z1] at hlen
    have e1:((g:Nat):Int)=pourK (g / 1024 % 1024) (g % 1024):=by simp only [pourK];omega
    obtain ⟨a,b,c,rfl⟩:∃ a b c,s=[a,b,c]:=by
     match s,hlen with
     | [a,b,c],_=>exact ⟨_,_,_,rfl⟩
    have ha:=a.toNat_lt;have hb:=b.toNat_lt;have hc:=c.toNat_lt
    have e2:(⟨[a,b,c].toArray⟩:ByteArray)=⟨(vol (a.toNat*65536+b.toNat*256+c.toNat)).toArray⟩:=by rw [vol_of]
    rw [e1,e2,Led.ins_pourF hF _ _ _ (by omega) (by omega)] at hr
    refine ih _ hll _ kv ?_ hr
    refine ⟨hF.bs,hF.ts,ins_pw hF.ps (fun y _ hy=>by simpa using hy) (fun y _ hy=>by simpa using hy) (fun a _ b _ ha hb=>by simp only [decide_eq_true_eq] at ha hb;omega),hF.b1,hF.t1,fun x hx => ?_⟩
    rcases mem_insP.1 hx with rfl | ⟨hx,_⟩
    ·exact ⟨c3.2.1,c3.2.2.1,c3.2.2.2,by show a.toNat*65536+b.toNat*256+c.toNat<16777216;omega⟩
    ·exact hF.p1 x hx
   ·have z1:sizeK g=0:=by unfold sizeK;rw [if_neg c1,if_neg c2,if_neg c3]
    omega
 exact fun l=>key l.length l nlr
end
section
open Go.RowKit Go.Shelf
theorem isFrom_any (a b c:Int) (w:World) :
  Calls prog 183 #[.int .i64 a,.int .i64 b,.int .i64 c] w fun e w'=>e=.returned (.bool (decide (a<=b)&&decide (b<=c)))/\w'=w:=by
 go_enter func183,ntmps183
 by_cases h1:a<=b
 ·by_cases h2:b<=c
  ·go_wp2
   go_ret
   exact ⟨by simp [h1,h2],rfl⟩
  ·go_wp2
   go_ret
   exact ⟨by simp [h2],rfl⟩
 ·have E:=hid (show (decide (a<=b)&&decide (b<=c))=false by simp [h1])
  go_wp2
  go_ret
  rw [E.out]
  exact ⟨rfl,rfl⟩
theorem readKey_any (s:ByteArray) (hs:4<=s.size) (w:World) :
  Calls prog 133 #[.string s] w fun e w'=>e=.returned (.int .u32 (rd4 s.data.toList:Nat))/\∃ n,w'=w.drewN n:=by
 have g0:0<s.size:=by omega
 have g1:(1:Int)<(s.size:Int):=by omega
 have g2:(2:Int)<(s.size:Int):=by omega
 have g3:(3:Int)<(s.size:Int):=by omega
 have HE:=hid (show rd4 s.data.toList=s[0].toNat*16777216+s[1].toNat*65536+s[2].toNat*256+s[3].toNat by
  have e:∀ i (h:i<s.size),s.data.toList.getD i 0=s[i]:=fun i h=>by
   rw [List.getD_eq_getElem?_getD,List.getElem?_eq_getElem (by simpa using h)];rfl
  rw [rd4,e 0 (by omega),e 1 (by omega),e 2 (by omega),e 3 (by omega)])
 go_enter func133,ntmps133
 go_wp2_with fail
 go_quiet (fail)
 go_wp2
 go_ret
 refine ⟨ret_int ?_,_,rfl⟩
 rw [or4 _ _ _ _ (byte_lt _) (byte_lt _) (byte_lt _) (byte_lt _),HE.out]
theorem clone_any (s:ByteArray) (hs:s.size<=100000) (w:World) :
  Calls prog 136 #[.string s] w fun e w'=>e=.returned (.string s)/\Below w.heap.size w w':=by
 have HC:=hid (Tryz.stringslite_Clone s w (by omega))
 go_enter func136,ntmps136
 go_wp2_with (go_at_call 188;refine HC.out.mono ?_;clear HC;rintro e w1 ⟨rfl,hb1⟩)
 go_ret
 exact ⟨rfl,hb1⟩
theorem recordSize_any (k:Nat) (hk:k<4294967296) (w:World) :
  Calls prog 134 #[.int .u32 k] w fun e w'=>e=.returned (.int .i64 (sizeK k))/\w'=w:=by
 have hN:=numbersIn_any k hk w
 have hB:=boxKey_any (k % 1024) (by omega)
 have hT:=tubeKey_any (k % 1024) (by omega)
 have hP:=pourKey_any (k / 1024 % 1024) (k % 1024) (by omega) (by omega)
 have HS:=hid (show sizeK k=sizeK k from rfl)
 unfold sizeK at HS
 have hb:k % 1024<1024:=by omega
 have ha:k / 1024 % 1024<1024:=by omega
 have HK:=hid (show sizeK k=if k=1048576+k % 1024/\1<=k % 1024/\k % 1024<=9 then 1 else if k=2097152+k % 1024/\1<=k % 1024/\k % 1024<=999 then 18 else if k=3145728+k / 1024 % 1024*1024+k % 1024/\1<=k / 1024 % 1024/\k / 1024 % 1024<k % 1024/\k % 1024<=999 then 3 else 0 from rfl)
 clear HS
 generalize hga:k / 1024 % 1024=a at *
 generalize hgb:k % 1024=b at *
 clear hga hgb
 simp only [boxK,tubeK,pourK] at hB hT hP
 have hF:=isFrom_any
 go_enter func134,ntmps134
 go_wp2_with (first
  | (go_at_call 182;refine hN.mono ?_;clear hN;rintro e w1 ⟨rfl,rfl⟩)
  | (go_at_call 150;refine (hB _).mono ?_;rintro e w2 ⟨rfl,rfl⟩)
  | (go_at_call 184;refine (hT _).mono ?_;rintro e w2 ⟨rfl,rfl⟩)
  | (go_at_call 185;refine (hP _).mono ?_;rintro e w2 ⟨rfl,rfl⟩)
  | (go_at_call 183;refine (hF _ _ _ _).mono ?_;rintro e w2 ⟨rfl,rfl⟩))
 all_goals
  go_ret
  refine ⟨?_,rfl⟩
  rw [HK.out]
  repeat (first | rw [if_pos (by omega)] | rw [if_neg (by omega)])
  rfl
end
section
open Go.RowKit Go.Shelf
def ReadEnds (s:ByteArray) (w:World) (e:Ending) (w':World):Prop :=
 Below w.heap.size w w'/\((∃ l r,readR s.data.toList []=some l/\l.length<7000/\e=.returned (.tuple #[.agg #[.pointer r,.int .i64 l.length],.bool true])/\TreeIs w'.heap.size w' r l) \/
  (readR s.data.toList []=none/\e=.returned (.tuple #[.agg #[.pointer none,.int .i64 0],.bool false])))
theorem insK_len_le (l:List KV) (k:Int) (s:ByteArray):(insK l k s).length<=l.length+1:=by
 have key:∀ l:List KV,(l.filter (fun x=>decide (x.1<k))).length+(l.filter (fun x=>decide (k<x.1))).length<=l.length:=by
  intro l
  induction l with
  | nil=>exact Nat.le_refl _
  | cons x l ih =>
   simp only [List.filter_cons,List.length_cons]
   by_cases h1:x.1<k
   ·have h2:¬ k<x.1:=by omega
    simp only [h1,h2,decide_true,decide_false,if_true,Bool.false_eq_true,if_false,List.length_cons];omega
   ·by_cases h2:k<x.1
    ·simp only [h1,h2,decide_true,decide_false,if_true,Bool.false_eq_true,if_false,List.length_cons];omega
    ·simp only [h1,h2,decide_false,Bool.false_eq_true,if_false];omega
 have h:=key l
 have e:(insK l k s).length=(l.filter (fun x=>decide (x.1<k))).length+((l.filter (fun x=>decide (k<x.1))).length+1):=by
  simp only [insK,List.length_append,List.length_cons]
 rw [e]
 exact Nat.le_trans (Nat.le_of_eq (Nat.add_assoc _ _ _).symm) (Nat.succ_le_succ h)
theorem TreeIs.setNo {n₀ b:Nat} {w:World} {r:Option Addr} {k:List KV} (h:TreeIs n₀ w r k) (hb:NoNode w b) (i:Nat) (v:Value):TreeIs n₀ (w.setCell ⟨b,i,none⟩ v) r k :=
 h.keptX (X:=fun g=>g=b) (by simp) (fun g o u hg hc=>by rw [World.cell?_of_block (w:=w) (Below.heap_setCell w ⟨b,i,none⟩ v g hg)];exact hc) (fun g hg=>by subst hg;exact hb)
theorem res_set {W:World} {b:Nat} {t:TypeId} {r0 r:Option Addr} {m n:Int} (h:RecAt W b #[.pointer r0,.int .i64 m] t) :
  RecAt ((W.setCell ⟨b,0,none⟩ (.pointer r)).setCell ⟨b,1,none⟩ (.int .i64 n)) b #[.pointer r,.int .i64 n] t:=(h.set 0 (.pointer r)).set 1 (.int .i64 n)
theorem res_tree {W:World} {b n₀:Nat} {t:TypeId} {r0 r:Option Addr} {m n:Int} {l:List KV} (h:RecAt W b #[.pointer r0,.int .i64 m] t) (hT:TreeIs n₀ W r l) :
  TreeIs ((W.setCell ⟨b,0,none⟩ (.pointer r)).setCell ⟨b,1,none⟩ (.int .i64 n)).heap.size ((W.setCell ⟨b,0,none⟩ (.pointer r)).setCell ⟨b,1,none⟩ (.int .i64 n)) r l:=by
 have h1:=hT.setNo (TreeBox.noNode (t:=t) (r:=r0) (n:=m) h) 0 (.pointer r)
 have h2:=h1.setNo (TreeBox.noNode (t:=t) (r:=r) (n:=m) (h.set 0 (.pointer r))) 1 (.int .i64 n)
 exact h2.mono h2.2.1 nlr
theorem ext_take (s:ByteArray) (i:Nat):(⟨(s.data.toList.take i).toArray⟩:ByteArray)=s.extract 0 i:=by
 apply ByteArray.ext
 apply Array.toList_inj.1
 simp
theorem slice_hi (s:ByteArray) (z:Nat) (hz:z<=s.size) (u:World):(Instr.slice 9 (.string s) none (some (.int .i64 z)) none).run prog u=.ok (.string (s.extract 0 z)) u:=by
 have h:(z:Int)<=(s.size:Int):=by omega
 simp [go_sem,h]
theorem slice_lo (s:ByteArray) (z:Nat) (hz:z<=s.size) (u:World):(Instr.slice 9 (.string s) (some (.int .i64 z)) none none).run prog u=.ok (.string (s.extract z s.size)) u:=by
 have h:(z:Int)<=(s.size:Int):=by omega
 simp [go_sem,h]
theorem list_ne (s:ByteArray) (h:0<s.size):¬ s.data.toList=[]:=by
 intro e
 have h2:s.data.toList.length=0:=by rw [e];rfl
 rw [Array.length_toList] at h2
 have h3:s.size=s.data.size:=rfl
 omega
theorem sizeK_le (k:Nat):sizeK k<=18:=by
 unfold sizeK
 repeat' split
 all_goals omega
theorem ext_drop (s:ByteArray) (i:Nat):(s.extract i s.size).data.toList=s.data.toList.drop i:=by
 simp only [ByteArray.data_extract,Array.toList_extract,List.extract_eq_take_drop]
 exact List.take_of_length_le (by simp)
theorem readRecords_any (s:ByteArray) (hs:s.size<=20000) (w:World) :
  Calls prog 85 #[.string s] w (ReadEnds s w):=by
 have hb2:Below w.heap.size w ((w.alloc (.cells #[.pointer none,.int .i64 0] 147)).alloc (.cells #[.pointer none,.int .i64 0] 147)):=((Below.refl _ w).alloc nlr _).alloc (by simp) _
 have hs1:(w.alloc (.cells #[.pointer none,.int .i64 0] 147)).heap.size=w.heap.size+1:=by simp
 have hR0:RecAt ((w.alloc (.cells #[.pointer none,.int .i64 0] 147)).alloc (.cells #[.pointer none,.int .i64 0] 147)) w.heap.size #[.pointer none,.int .i64 0] 147 :=
  (RecAt.new w _ _).on (bal)
 have hR1:RecAt ((w.alloc (.cells #[.pointer none,.int .i64 0] 147)).alloc (.cells #[.pointer none,.int .i64 0] 147)) (w.heap.size+1) #[.pointer none,.int .i64 0] 147:=by
  have:=RecAt.new (w.alloc (.cells #[.pointer none,.int .i64 0] 147)) #[.pointer none,.int .i64 0] 147
  rw [hs1] at this;exact this
 have HB:=hid hb2
 have HR0:=hid hR0
 have HR1:=hid hR1
 clear hb2 hR0 hR1 hs1
 go_enter func85,ntmps85
 go_wp2_with fail
 generalize (w.alloc (.cells #[.pointer none,.int .i64 0] 147)).alloc (.cells #[.pointer none,.int .i64 0] 147)=w0 at *
 go_loopg [0,5,6] s.size (fun gk v k z wr=>∃ (rest:ByteArray) (acc:List KV) (n₀:Nat),v=.string rest/\gk=rest.size/\5*acc.length+rest.size<=s.size/\readR s.data.toList []=readR rest.data.toList acc/\TreeAt n₀ wr (w.heap.size+1) 147 acc/\RecAt wr w.heap.size #[.pointer none,.int .i64 0] 147/\Below w.heap.size w wr)
 case atStart =>
  have hr:=HR1.out
  exact ⟨s,[],0,rfl,rfl,by simp,rfl,⟨⟨none,hr,List.Pairwise.nil,Nat.zero_le _,.inl ⟨rfl,rfl⟩⟩,by simp⟩,HR0.out,HB.out⟩
 case round =>
  obtain ⟨rest,acc,n₀,rfl,rfl,hlen,hrd,hT,hR,hB⟩:=hrel
  have HT:=hid hT
  have HR:=hid hR
  have HBx:=hid hB
  have HRd:=hid hrd
  have HL:=hid hlen
  clear HB HR0 HR1 hT hR hB hrd hlen
  have hrs:rest.size<=20000:=by have:=HL.out;omega
  by_cases h0:rest.size=0
  ·obtain rfl:rest=ByteArray.empty:=ByteArray.ext (Array.eq_empty_of_size_eq_zero h0)
   obtain ⟨⟨r,hbox,htree⟩,hfew⟩:=HT.out
   have c0:=hbox.c0
   have c1:=hbox.c1
   have d0:=HR.out.cell 0
   have d1:=HR.out.cell 1
   have f0:=HR.out.fz 0
   have f1:=HR.out.fz 1
   have hR2:=HR.out
   have e0:=(res_set (r:=r) (n:=(acc.length:Int)) hR2).cell 0
   have e1:=(res_set (r:=r) (n:=(acc.length:Int)) hR2).cell 1
   have hT2:=res_tree (r:=r) (n:=(acc.length:Int)) hR2 htree
   have hB2:=(HBx.out.setCell (p:=⟨w.heap.size,0,none⟩) nlr (.pointer r)).setCell (p:=⟨w.heap.size,1,none⟩) nlr (.int .i64 acc.length)
   have E0:=hid e0
   have E1:=hid e1
   have HT2:=hid hT2
   have HB2:=hid hB2
   have HF:=hid hfew
   clear e0 e1 hT2 hB2 hR2 hbox htree hfew
   go_wp2
   refine bodyPost_ret (v:=.tuple #[.agg #[.pointer r,.int .i64 acc.length],.bool true]) (by have a0:=E0.out;have a1:=E1.out;simp [results,results85,go_sem,a0,a1]) rfl ⟨HB2.out,.inl ⟨acc,r,?_,by have:=HL.out;omega,rfl,HT2.out⟩⟩
   rw [HRd.out,readR_eq,if_pos (show ByteArray.empty.data.toList=[] from rfl)]
  ·have h0':0<rest.size:=by omega
   have hne:=isEmpty_no rest h0'
   by_cases h4:rest.size<4
   ·have h4':(rest.size:Int)<4:=by omega
    have d0:=HR.out.cell 0
    have d1:=HR.out.cell 1
    have f0:=HR.out.fz 0
    have f1:=HR.out.fz 1
    have hR2:=HR.out
    have E0:=hid ((res_set (r:=none) (n:=0) hR2).cell 0)
    have E1:=hid ((res_set (r:=none) (n:=0) hR2).cell 1)
    have HB2:=hid ((HBx.out.setCell (p:=⟨w.heap.size,0,none⟩) nlr (.pointer none)).setCell (p:=⟨w.heap.size,1,none⟩) nlr (.int .i64 0))
    clear hR2
    go_wp2
    refine bodyPost_ret (v:=.tuple #[.agg #[.pointer none,.int .i64 0],.bool false]) (by have a0:=E0.out;have a1:=E1.out;simp [results,results85,go_sem,a0,a1]) rfl ⟨HB2.out,.inr ⟨?_,rfl⟩⟩
    rw [HRd.out,readR_eq,if_neg (list_ne rest h0'),if_pos (by simpa using h4)]
   ·have h4':(4:Int)<=(rest.size:Int):=by omega
    have HK:=hid (readKey_any rest (by omega) wr)
    have HZ:=hid (fun u=>recordSize_any (rd4 rest.data.toList) (rd4_lt _) u)
    have HEq:=hid (readR_eq rest.data.toList acc)
    have HNe:=hid (list_ne rest h0')
    have hx:=hid (sizeK_le (rd4 rest.data.toList))
    generalize rd4 rest.data.toList=key at *
    generalize hsz:sizeK key=z at *
    clear hsz
    have hz18:z<=18:=hx.out
    clear hx
    have z2:(rest.extract 4 rest.size).size=rest.size - 4:=by simp
    have HD:=hid (ext_drop rest 4)
    go_wp2_with fail
    refine HK.out.mono ?_
    clear HK
    rintro e w1 ⟨rfl,nq,rfl⟩
    go_wp2_with fail
    refine (HZ.out _).mono ?_
    clear HZ
    rintro e w2 ⟨rfl,rfl⟩
    have hbq:Below wr.heap.size wr (wr.drewN nq):=below_drewN (Below.refl _ _) nq
    have hT3:=HT.out.below hbq
    have hR3:=HR.out.on hbq
    have hB3:=HBx.out.trans (hbq.mono HBx.out.size)
    generalize wr.drewN nq=w3 at *
    generalize rest.extract 4 rest.size=R2 at *
    have HT3:=hid hT3
    have HR3:=hid hR3
    have HB3:=hid hB3
    clear HT HR HBx hbq hT3 hR3 hB3
    have hll:(List.drop 4 rest.data.toList).length=R2.size:=by rw [<- HD.out];simp
    have HLl:=hid hll
    clear hll
    have hR2:R2.size<=20000:=by omega
    have hE:¬ rest.data.toList.length<4:=by simpa using h4
    have HE4:=hid hE
    clear hE
    by_cases hbad:z=0\/R2.size<z
    ·have HBad:=hid hbad
     have d0:=HR3.out.cell 0
     have d1:=HR3.out.cell 1
     have f0:=HR3.out.fz 0
     have f1:=HR3.out.fz 1
     have hR4:=HR3.out
     have E0:=hid ((res_set (r:=none) (n:=0) hR4).cell 0)
     have E1:=hid ((res_set (r:=none) (n:=0) hR4).cell 1)
     have HB2:=hid ((HB3.out.setCell (p:=⟨w.heap.size,0,none⟩) nlr (.pointer none)).setCell (p:=⟨w.heap.size,1,none⟩) nlr (.int .i64 0))
     clear hR4
     have hN:readR s.data.toList []=none:=by
      rw [HRd.out,HEq.out,if_neg HNe.out,if_neg HE4.out,HLl.out,if_pos hbad]
     have HN:=hid hN
     clear hN
     rcases hbad with hbad | hbad
     ·subst hbad
      go_wp2
      exact bodyPost_ret (v:=.tuple #[.agg #[.pointer none,.int .i64 0],.bool false]) (by have a0:=E0.out;have a1:=E1.out;simp [results,results85,go_sem,a0,a1]) rfl ⟨HB2.out,.inr ⟨HN.out,rfl⟩⟩
     ·have hbI:(R2.size:Int)<(z:Int):=by omega
      have hzI:((z:Int) == 0)=false:=by rw [beq_eq_false_iff_ne];omega
      go_wp2
      exact bodyPost_ret (v:=.tuple #[.agg #[.pointer none,.int .i64 0],.bool false]) (by have a0:=E0.out;have a1:=E1.out;simp [results,results85,go_sem,a0,a1]) rfl ⟨HB2.out,.inr ⟨HN.out,rfl⟩⟩
    ·have HZ2:=hid z2
     have hz0:0<z:=by omega
     have hzle:(z:Int)<=(R2.size:Int):=by omega
     have hzI:((z:Int) == 0)=false:=by rw [beq_eq_false_iff_ne];omega
     have hN:readR s.data.toList []=readR (R2.extract z R2.size).data.toList (insK acc key (R2.extract 0 z)):=by
      rw [HRd.out,HEq.out,if_neg HNe.out,if_neg HE4.out,HLl.out,if_neg hbad,<- HD.out,ext_drop,ext_take]
     have HN:=hid hN
     have s1:(R2.extract 0 z).size=z:=by simp;omega
     have s2:(R2.extract z R2.size).size=R2.size - z:=by simp
     have HCl:=hid (fun u=>clone_any (R2.extract 0 z) (by omega) u)
     have HS2:=hid s2
     have HS1:=hid s1
     clear hN hbad z2 s2 s1 h0 h4
     have hzn:z<=R2.size:=by omega
     go_upto_region 10 with fail
     have hsl:=fun u=>slice_hi R2 z hzn u
     have HZle:=hid hzle
     clear hzle hzn
     go_wp2_with fail
     generalize R2.extract 0 z=X at *
     refine (HCl.out _).mono ?_
     clear HCl
     rintro e w4 ⟨rfl,hb4⟩
     have hT4:=HT3.out.below hb4
     have hP:=treePut_any n₀ (w.heap.size+1) 147 acc key X w4 hT4 (by have:=HL.out;omega)
     have HP:=hid hP
     have HR4:=hid (HR3.out.on hb4)
     have HB4:=hid (HB3.out.trans (hb4.mono HB3.out.size))
     clear hT4 hP hb4 HT3 HR3 HB3
     go_wp2_with fail
     refine HP.out.mono ?_
     clear HP
     rintro e w5 ⟨rfl,hT5,hk5⟩
     have HT5:=hid hT5
     have HR5:=hid (show RecAt w5 w.heap.size #[.pointer none,.int .i64 0] 147 from keeps_same hk5 (by omega) HR4.out)
     have HB5:=hid (HB4.out.trans (hk5.toBelow (B:=w.heap.size) (fun k h=>by omega) (Nat.le_of_lt HR4.out.lt)))
     clear hT5 hk5 HR4 HB4
     clear hsl
     have hsl:=fun u=>slice_lo R2 z (by have:=HZle.out;omega) u
     go_wp2
     go_roundg (R2.extract z R2.size).size
     case measure=>have s2:=HS2.out;have z2:=HZ2.out;rw [s2];omega
     case rel =>
      refine ⟨_,_,_,rfl,rfl,?_,HN.out,HT5.out,HR5.out,HB5.out⟩
      have h1:=insK_len_le acc key X
      have h2:=HL.out
      have s2:=HS2.out
      have z2:=HZ2.out
      rw [s2];omega
end
open _root_.Go.Proofs.Tryz
section
open Go.RowKit Go.Shelf
attribute [local go_sem] Oper.semAt_some
theorem pairs_closeA (n₀:Nat) {lb:Array Value} (ts:List PN) (hok:∀ t∈ts,t.1<1024/\t.2.1<1024) {w w2:World} (hn:n₀<=w.heap.size) (hG:GivesT prog 128 lb encKV n₀ w.heap.size (ts.map kvP) w2) (hb:Below w.heap.size w w2) :
  ∃ bx,Ending.returned (.func (.func 199) #[] #[.pointer (some ⟨w2.heap.size,0,none⟩)])=.returned (.func (.func 199) #[] #[.pointer (some ⟨bx,0,none⟩)])/\GivesT prog 199 #[.pointer (some ⟨bx,0,none⟩)] encP n₀ w.heap.size ts (w2.alloc (.cells #[.func (.func 128) #[] lb] 162))/\Below w.heap.size w (w2.alloc (.cells #[.func (.func 128) #[] lb] 162)):=by
 have h1:Below w2.heap.size w2 (w2.alloc (.cells #[.func (.func 128) #[] lb] 162)):=bal
 have hs:=hb.size
 refine ⟨_,rfl,fun Y u X hk hY hX => ?_,hb.trans (h1.mono hs)⟩
 have hku:=hk.size
 have hsz:(w2.alloc (.cells #[.func (.func 128) #[] lb] 162)).heap.size=w2.heap.size+1:=by simp
 exact pairs1_givesM X n₀ _ hX lb ts hok u (by omega) (by omega) ((hk.cell (p:=⟨w2.heap.size,0,none⟩) (by show w2.heap.size<_;omega) (fun h=>by have h':=(hY _ h).2;simp at h';omega)).trans (Boxed.new w2 _ _).cell)
  (fun X' hX'=>hG Y u X' (((Keeps.refl _ w2).alloc _).trans hk) hY hX')
theorem pairs_closeB (n₀:Nat) {lb:Array Value} (ts:List PN) (hok:∀ t∈ts,t.1<1024/\t.2.1<1024) {w w2:World} {v:Value} (hn:n₀<=w.heap.size) (hG:GivesT prog 128 lb encKV n₀ (w.alloc (.cells #[.nilFunc] 162)).drew.heap.size (ts.map kvP) w2) (hbx:Boxed w2 w.heap.size 162 v) (hb:Below w.heap.size w w2) :
  ∃ bx,Ending.returned (.func (.func 199) #[] #[.pointer (some ⟨w.heap.size,0,none⟩)])=.returned (.func (.func 199) #[] #[.pointer (some ⟨bx,0,none⟩)])/\GivesT prog 199 #[.pointer (some ⟨bx,0,none⟩)] encP n₀ w.heap.size ts (w2.setCell ⟨w.heap.size,0,none⟩ (.func (.func 128) #[] lb))/\Below w.heap.size w (w2.setCell ⟨w.heap.size,0,none⟩ (.func (.func 128) #[] lb)):=by
 have hs:=hb.size
 have hl:=hbx.lt
 have hsz:(w.alloc (.cells #[.nilFunc] 162)).drew.heap.size=w.heap.size+1:=by show (w.alloc _).heap.size=_;simp
 rw [hsz] at hG
 have hk0:Keeps (fun g=>g=w.heap.size) w2 (w2.setCell ⟨w.heap.size,0,none⟩ (.func (.func 128) #[] lb)):=(Keeps.refl (fun g=>g=w.heap.size) w2).setCell (p:=⟨w.heap.size,0,none⟩) (.inl rfl) _
 have hk0s:=hk0.size
 refine ⟨_,rfl,fun Y u X hk hY hX => ?_,hb.setCell (p:=⟨w.heap.size,0,none⟩) nlr _⟩
 have hku:=hk.size
 exact pairs1_givesM X n₀ _ hX lb ts hok u (by omega) (by omega) ((hk.cell (p:=⟨w.heap.size,0,none⟩) (by show w.heap.size<_;omega) (fun h=>by have h':=(hY _ h).2;simp at h')).trans (hbx.set _).cell)
  (fun X' hX'=>hG (fun k=>Y k\/k=w.heap.size) u X' ((hk0.mono (fun k _ h=>.inr h)).trans (hk.mono (fun k _ h=>.inl h))) (fun k h=>by rcases h with h | h;(have:=hY k h;omega);omega) hX')
theorem pairs_any (n₀ b:Nat) (l:List KV) (ts:List PN) (hok:∀ t∈ts,t.1<1024/\t.2.1<1024) (hts:sel (pourK 1 1) (pourK 999 999) l=ts.map kvP) (w:World) (hT:TxAt n₀ w b l) :
  Calls prog 174 #[.pointer (some ⟨b,0,none⟩)] w fun e w'=>∃ bx,e=.returned (.func (.func 199) #[] #[.pointer (some ⟨bx,0,none⟩)])/\GivesT prog 199 #[.pointer (some ⟨bx,0,none⟩)] encP n₀ w.heap.size ts w'/\Below w.heap.size w w':=by
 have hmf:∀ (fn:Fn) (first cap:Array Value) (w:World),(Instr.makeFunc fn first cap).run prog w=.ok (.func fn first cap) w:=fun _ _ _ _=>rfl
 obtain ⟨⟨r,hB,hI⟩,hf⟩:=hT
 have hn0:=hI.2.1
 have c0:=hB.c0
 have c1:=hB.c1
 have k1:=pourKey_any 1 1 (by omega) (by omega)
 have k9:=pourKey_any 999 999 (by omega) (by omega)
 have HR:=hid (fun u (hu:Below w.heap.size w u)=>hts ▸ range_givesT n₀ r l.length (pourK 1 1) (pourK 999 999) l u (hI.below (hu.mono hn0)))
 have hD1:Below w.heap.size w w.drew:=(Below.refl _ w).drew
 have hba:Below w.heap.size w (w.alloc (.cells #[.nilFunc] 162)):=(Below.refl _ w).alloc nlr _
 have hD2:=hba.drew
 have a0:=(hba.cell (p:=⟨b,0,none⟩) hB.lt).trans c0
 have a1:=(hba.cell (p:=⟨b,1,none⟩) hB.lt).trans c1
 have HBx:=hid (Boxed.new w 162 .nilFunc)
 clear hI hB
 go_enter func174,ntmps174
 go_wp2_with fail
 go_region_with (first
  | (go_at_call_of 185 (Value.int IntKind.i64 999);refine (k9 _).mono ?_;rintro e w' ⟨rfl,rfl⟩)
  | (go_at_call 185;refine (k1 _).mono ?_;rintro e w' ⟨rfl,rfl⟩)
  | (go_at_call 78;refine (HR.out _ ?_).mono ?_;(first | exact hD1 | exact hD2);rintro e w2 ⟨lb,rfl,hG,hb2⟩;(try (have hbx:=boxed_below (W:=(w.alloc (.cells #[.nilFunc] 162)).drew) HBx.out hb2;have g0:=hbx.cell;have g1:=hbx.frozen))))
 all_goals go_wp2_with fail
 all_goals go_ret
 all_goals first
  | exact pairs_closeA n₀ ts hok hn0 hG ((Below.refl w.heap.size w).drew.trans hb2)
  | exact pairs_closeB n₀ ts hok hn0 hG hbx (hD2.trans (hb2.mono hD2.size))
end
end Go.Proofs.YtalncjhldkcmaaaGreat
