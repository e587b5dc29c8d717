import Derived.Test.YtalncjhldkcmaaaGreatFb08
import Derived.Test.YtalncjhldkcmaaaGreatFb09
import Derived.Test.YtalncjhldkcmaaaGreatFb07
namespace Go.Proofs.YtalncjhldkcmaaaGreat
open _root_.Go.Proofs.Tryz
set_option maxHeartbeats 16000000
set_option maxRecDepth 8000
section
open Go.RowKit Go.Shelf
attribute [local go_sem] run_store_cplx
theorem TreeAt.below {n₀:Nat} {w w':World} {b:Nat} {t:TypeId} {l:List KV} (h:TreeAt n₀ w b t l) (hb:Below w.heap.size w w'):TreeAt n₀ w' b t l:=by
 obtain ⟨⟨r,h1,h2⟩,h3⟩:=h
 exact ⟨⟨r,treeBox_below h1 hb,h2.below (hb.mono h2.2.1)⟩,h3⟩
theorem PutEnds.from {b:Nat} {t:TypeId} {l:List KV} {w w1 w':World} {e:Ending} (h:PutEnds b t l w1 e w') (hb:Below w.heap.size w w1):PutEnds b t l w e w' :=
 ⟨h.1,h.2.1,(below_toKeeps hb _).trans h.2.2⟩
theorem setTube_any (n₀ b n:Nat) (l:List KV) (q:PT) (hq:q.Ok) (w:World) (hT:TxAt n₀ w b l) (hn:n<1024) (hL:l.length<8000) :
  Calls prog 152 #[.pointer (some ⟨b,0,none⟩),.int .i64 n,q.val] w (PutEnds b 147 (insK l (tubeK n) ⟨q.text.toArray⟩) w):=by
 have htx:=text_any q hq
 have hkey:=tubeKey_any n hn
 have HPut:=hid (fun u (hu:Below w.heap.size w u)=>treePut_any n₀ b 147 l (tubeK n) ⟨q.text.toArray⟩ u (hT.below hu) hL)
 simp only [PT.val,PT.cells,pl] at htx ⊢
 generalize fl q.x=fa at *
 generalize fl q.y=fb at *
 generalize (⟨q.text.toArray⟩:ByteArray)=tx at *
 have hb1:Below w.heap.size w (w.alloc (.cells #[.complex .f64 fa fb,.int .i64 q.box,.int .i64 q.donor,.int .i64 q.status,.int .i64 q.thaws,.int .i64 q.began,.int .i64 q.left,.int .i64 q.used,.int .i64 q.lost] 216)):=bal
 have hx1:RecBox (w.alloc (.cells #[.complex .f64 fa fb,.int .i64 q.box,.int .i64 q.donor,.int .i64 q.status,.int .i64 q.thaws,.int .i64 q.began,.int .i64 q.left,.int .i64 q.used,.int .i64 q.lost] 216)) w.heap.size #[.complex .f64 fa fb,.int .i64 q.box,.int .i64 q.donor,.int .i64 q.status,.int .i64 q.thaws,.int .i64 q.began,.int .i64 q.left,.int .i64 q.used,.int .i64 q.lost]:=World.alloc_heap_new w _
 go_enter func152,ntmps152
 go_wp2_with fail
 generalize w.alloc (.cells #[.complex .f64 fa fb,.int .i64 q.box,.int .i64 q.donor,.int .i64 q.status,.int .i64 q.thaws,.int .i64 q.began,.int .i64 q.left,.int .i64 q.used,.int .i64 q.lost] 216)=w1 at *
 have d0:=hx1.cell 0
 have d1:=hx1.cell 1
 have d2:=hx1.cell 2
 have d3:=hx1.cell 3
 have d4:=hx1.cell 4
 have d5:=hx1.cell 5
 have d6:=hx1.cell 6
 have d7:=hx1.cell 7
 have d8:=hx1.cell 8
 simp only [List.getElem?_toArray,List.getElem?_cons_zero,List.getElem?_cons_succ] at d0 d1 d2 d3 d4 d5 d6 d7 d8
 have HB1:=hid hb1
 clear hx1 hb1 hT
 go_region_with (first
  | (go_at_call 184;refine (hkey _).mono ?_;clear hkey;rintro e w' ⟨rfl,rfl⟩)
  | (go_at_call 194;refine (htx _).mono ?_;clear htx;rintro e w2 ⟨rfl,hb2⟩;have hB2:Below w.heap.size w w2:=(HB1.out.drew).trans (hb2.mono HB1.out.size))
  | (go_at_call 135;refine (HPut.out _ hB2).mono ?_;clear HPut;intro e w3 hP;have he:=hP.1;subst he))
 all_goals go_wp2_with fail
 all_goals go_end0
 all_goals exact hP.from hB2
theorem setPoured_any (n₀ b x y v:Nat) (l:List KV) (hv:v<16777216) (w:World) (hT:TxAt n₀ w b l) (hx:x<1024) (hy:y<1024) (hL:l.length<8000) :
  Calls prog 157 #[.pointer (some ⟨b,0,none⟩),.int .i64 x,.int .i64 y,.int .i64 v] w (PutEnds b 147 (insK l (pourK x y) ⟨(vol v).toArray⟩) w):=by
 have htx:=volText_any v hv
 have hkey:=pourKey_any x y hx hy
 have HPut:=hid (fun u (hu:Below w.heap.size w u)=>treePut_any n₀ b 147 l (pourK x y) ⟨(vol v).toArray⟩ u (hT.below hu) hL)
 generalize (⟨(vol v).toArray⟩:ByteArray)=tx at *
 clear hT
 go_enter func157,ntmps157
 go_wp2_with fail
 go_region_with (first
  | (go_at_call 185;refine (hkey _).mono ?_;clear hkey;rintro e w' ⟨rfl,rfl⟩)
  | (go_at_call 195;refine (htx _).mono ?_;clear htx;rintro e w2 ⟨rfl,hb2⟩;have hB2:Below w.heap.size w w2:=((Below.refl w.heap.size w).drew).trans hb2)
  | (go_at_call 135;refine (HPut.out _ hB2).mono ?_;clear HPut;intro e w3 hP;have he:=hP.1;subst he))
 all_goals go_wp2_with fail
 all_goals go_end0
 all_goals exact hP.from hB2
end
section
open Go.RowKit Go.Shelf
attribute [local go_sem] run_store_cplx
def Turns (f:Nat) (cap:Array Value) (n₀:Nat) (w:World) (q q':PT):Prop :=
 ∀ (u:World) (p:Nat),Below n₀ w u->n₀<=p->RecBox u p q.cells->Calls prog f (#[.pointer (some ⟨p,0,none⟩)]++cap) u fun e u'=>e=.returned (.tuple #[])/\RecBox u' p q'.cells/\Keeps (fun g=>g=p) u u'
theorem change_any (n₀ b n f:Nat) (cap:Array Value) (l:List KV) (q q':PT) (hq:q.Ok) (hq':q'.Ok) (w:World) (hT:TxAt n₀ w b l) (hn:n<1024) (hL:l.length<8000) (hg:getK l (tubeK n)=some ⟨q.text.toArray⟩)
  (eg:∀ args w,(callFunc f args).run prog w=.ok (.enter f args) w) (hf:Turns f cap w.heap.size w q q') :
  Calls prog 153 #[.pointer (some ⟨b,0,none⟩),.int .i64 n,.func (.func f) #[] cap] w (PutEnds b 147 (insK l (tubeK n) ⟨q'.text.toArray⟩) w):=by
 have htube:=tube_some n₀ b n l q hq w hT hn hg
 have HSet:=hid (fun u (hu:Below w.heap.size w u)=>setTube_any n₀ b n l q' hq' u (hT.below hu) hn hL)
 have HF:=hid hf
 clear hf hg hT
 simp only [PT.val,PT.cells,pl] at htube HSet
 go_enter func153,ntmps153
 go_wp2_with (go_at_call 143;refine htube.mono ?_;clear htube;rintro e w1 ⟨rfl,hb1⟩)
 have hb2:Below w1.heap.size w1 (w1.alloc (.cells #[.complex .f64 (fl q.x) (fl q.y),.int .i64 q.box,.int .i64 q.donor,.int .i64 q.status,.int .i64 q.thaws,.int .i64 q.began,.int .i64 q.left,.int .i64 q.used,.int .i64 q.lost] 216)):=bal
 have hx2:RecBox (w1.alloc (.cells #[.complex .f64 (fl q.x) (fl q.y),.int .i64 q.box,.int .i64 q.donor,.int .i64 q.status,.int .i64 q.thaws,.int .i64 q.began,.int .i64 q.left,.int .i64 q.used,.int .i64 q.lost] 216)) w1.heap.size #[.complex .f64 (fl q.x) (fl q.y),.int .i64 q.box,.int .i64 q.donor,.int .i64 q.status,.int .i64 q.thaws,.int .i64 q.began,.int .i64 q.left,.int .i64 q.used,.int .i64 q.lost]:=World.alloc_heap_new w1 _
 have hB2:=hb1.trans (hb2.mono hb1.size)
 refine (HF.out _ w1.heap.size hB2 hb1.size hx2).mono ?_
 rintro e w3 ⟨rfl,hx3,hk3⟩
 have hB3:Below w.heap.size w w3:=hB2.trans (hk3.toBelow (B:=w.heap.size) (fun k hk=>by subst hk;exact hb1.size) (by have:=hB2.size;exact this))
 clear hx2 hb2 hk3 HF hB2
 simp only [PT.cells,pl] at hx3
 have d0:=hx3.cell 0
 have d1:=hx3.cell 1
 have d2:=hx3.cell 2
 have d3:=hx3.cell 3
 have d4:=hx3.cell 4
 have d5:=hx3.cell 5
 have d6:=hx3.cell 6
 have d7:=hx3.cell 7
 have d8:=hx3.cell 8
 simp only [List.getElem?_toArray,List.getElem?_cons_zero,List.getElem?_cons_succ] at d0 d1 d2 d3 d4 d5 d6 d7 d8
 clear hx3
 go_wp2_with (go_at_call 152;refine (HSet.out _ hB3).mono ?_;clear HSet;intro e w4 hP;have he:=hP.1;subst he)
 go_end0
 exact hP.from hB3
end
section
open Go.RowKit Go.Shelf
attribute [local go_sem] Oper.semAt_some
theorem range1_givesM (X:Nat->Prop) (n₀ bt bf bo:Nat) (hXn:∀ k,X k->n₀<=k) (root:Option Addr) (fr tt:Int) (l:List KV) (w:World) (hT:TreeIs n₀ w root l)
  (h1:bt<w.heap.size) (h2:bf<w.heap.size) (h3:bo<w.heap.size) (c1:w.cell? ⟨bt,0,none⟩=some (.pointer root)) (c2:w.cell? ⟨bf,0,none⟩=some (.int .u32 fr)) (c3:w.cell? ⟨bo,0,none⟩=some (.int .u32 tt)) :
  GivesM prog 128 #[.pointer (some ⟨bt,0,none⟩),.pointer (some ⟨bf,0,none⟩),.pointer (some ⟨bo,0,none⟩)] encKV X (sel fr tt l) w:=by
 intro y J0 Jx W hW hyl hy _ hJ0 hJx hY h00
 have hn0:=hT.2.1
 have hsW:=hW.size
 have hT':=hT.below (hW.mono hT.2.1)
 have c1':=(hW.cell (p:=⟨bt,0,none⟩) h1).trans c1
 have c2':=(hW.cell (p:=⟨bf,0,none⟩) h2).trans c2
 have c3':=(hW.cell (p:=⟨bo,0,none⟩) h3).trans c3
 have hR:Rounds y n₀ (sel fr tt l) (fun pre V=>J0 W.heap.size pre V/\W.heap.size<=V.heap.size) (Jx W.heap.size):=fun q x W1 hq hj=>YieldAt.mono (hY _ q x W1 nlr hj.2 hq hj.1) fun e W' h=>h.imp (fun ⟨a,b,c⟩=>⟨a,⟨b,Nat.le_trans hj.2 c.size⟩,c.toBelow (fun k e=>by rcases e with e | e | e;exact hXn k e;omega;omega) (by omega)⟩) (fun ⟨a,b,_⟩=>⟨a,b⟩)
 have hJ:OwnFrom W.heap.size (fun pre V=>J0 W.heap.size pre V/\W.heap.size<=V.heap.size):=fun s A B row hs hg hr=>⟨hJ0 _ s A B row hs.1 hg hr,Nat.le_trans hs.2 hg.size⟩
 have h0:(fun pre (V:World)=>J0 W.heap.size pre V/\W.heap.size<=V.heap.size) ([]:List KV) W:=⟨h00 _ nlr,Nat.le_refl _⟩
 clear c1 c2 c3 hT
 obtain ⟨hrk,hns,(⟨rfl,rfl⟩ | ⟨ht,b,rfl,hN⟩)⟩:=hT'
 ·go_enter func128,ntmps128
  go_wp2
  go_end0
  exact ⟨⟨_,rfl⟩,W.heap.size,Nat.le_refl _,.inl h0.1⟩
 ·have hw:=walk_any y n₀ _ fr tt _ _ _ hJ hR ht b l [] W hN hns hrk (List.prefix_refl _) h0
  clear hR hY hN
  go_enter func128,ntmps128
  go_wp2_with (go_at_call 129;refine hw.mono ?_;clear hw;rintro e w2 (⟨rfl,hJ2,_⟩ | ⟨rfl,hJ2,_⟩ | ⟨rfl,q,hq,hx⟩))
  ·go_end0
   exact ⟨⟨_,rfl⟩,W.heap.size,Nat.le_refl _,.inl hJ2.1⟩
  ·go_end0
   exact ⟨⟨_,rfl⟩,W.heap.size,Nat.le_refl _,.inl hJ2.1⟩
  ·go_end0
   exact ⟨⟨_,rfl⟩,W.heap.size,Nat.le_refl _,.inr ⟨q,hq,hx⟩⟩
theorem range_givesM (n₀:Nat) (root:Option Addr) (n fr tt:Int) (l:List KV) (w:World) (hT:TreeIs n₀ w root l) :
  Calls prog 78 #[.agg #[.pointer root,.int .i64 n],.int .u32 fr,.int .u32 tt] w fun e w' =>
   ∃ lb,e=.returned (.func (.func 128) #[] lb)/\(∀ (Y:Nat->Prop) u X,Keeps Y w' u->(∀ k,Y k->n₀<=k/\k<w.heap.size)->(∀ k,X k->n₀<=k)->GivesM prog 128 lb encKV X (sel fr tt l) u)/\Below w.heap.size w w':=by
 refine (range_any root n fr tt w).mono ?_
 rintro e w' ⟨rfl,hw'⟩
 have hb:Below w.heap.size w w':=by rw [hw'];exact (((Below.refl _ w).alloc nlr _).alloc (by simp) _).alloc (by simp;omega) _
 have hs:w'.heap.size=w.heap.size+3:=by rw [hw'];simp
 have c0:w'.cell? ⟨w.heap.size,0,none⟩=some (.pointer root):=by
  rw [hw']
  have:=(Below.heap_alloc _ (.cells #[.int .u32 tt] 141) w.heap.size (by simp;omega)).trans ((Below.heap_alloc _ (.cells #[.int .u32 fr] 141) w.heap.size (by simp)).trans (World.alloc_heap_new w (.cells #[.pointer root,.int .i64 n] 109)))
  simp only [World.cell?,this];rfl
 have c1:w'.cell? ⟨w.heap.size+1,0,none⟩=some (.int .u32 fr):=by
  rw [hw']
  have:=(Boxed.new (w.alloc (.cells #[.pointer root,.int .i64 n] 109)) 141 (.int .u32 fr)).alloc (.cells #[.int .u32 tt] 141)
  simpa using this.cell
 have c2:w'.cell? ⟨w.heap.size+2,0,none⟩=some (.int .u32 tt):=by
  rw [hw']
  have:=(Boxed.new ((w.alloc (.cells #[.pointer root,.int .i64 n] 109)).alloc (.cells #[.int .u32 fr] 141)) 141 (.int .u32 tt))
  simpa using this.cell
 have hTw:=hT.below (hb.mono hT.2.1)
 refine ⟨_,rfl,fun Y u X hk h1 h2 => ?_,hb⟩
 have hn:=hT.2.1
 have hku:=hk.size
 exact range1_givesM X n₀ _ _ _ h2 root fr tt l _ (hTw.below (hk.toBelow (fun k e=>(h1 k e).1) (by omega))) (by omega) (by omega) (by omega)
  ((hk.cell (p:=⟨w.heap.size,0,none⟩) (by show w.heap.size<_;omega) (fun h=>by have h':=(h1 _ h).2;simp at h')).trans c0)
  ((hk.cell (p:=⟨w.heap.size+1,0,none⟩) (by show w.heap.size+1<_;omega) (fun h=>by have h':=(h1 _ h).2;simp at h';omega)).trans c1)
  ((hk.cell (p:=⟨w.heap.size+2,0,none⟩) (by show w.heap.size+2<_;omega) (fun h=>by have h':=(h1 _ h).2;simp at h';omega)).trans c2)
abbrev TN:=Nat×PT
def kvT (t:TN):KV:=(tubeK t.1,⟨t.2.text.toArray⟩)
def encT (t:TN):Array Value:=#[.int .i64 t.1,t.2.val]
theorem pre_map {pre ts:List TN} {x:KV} (h1:pre <+: ts) (h2:(pre.map kvT++[x]) <+: ts.map kvT):∃ t,x=kvT t/\(pre++[t]) <+: ts:=by
 obtain ⟨r,rfl⟩:=h1
 rw [List.map_append] at h2
 have h3:=(List.prefix_append_right_inj (pre.map kvT)).1 h2
 cases r with
 | nil=>simp at h3
 | cons t r =>
  simp only [List.map_cons] at h3
  have:x=kvT t:=by
   obtain ⟨q,hq⟩:=h3
   simp at hq;exact hq.1
  exact ⟨t,this,⟨r,by simp⟩⟩
theorem Tryz.mixed:prog.follows .mixedOrders=true:=by kernel_rfl
theorem tubes1_givesM (X:Nat->Prop) (n₀ bx:Nat) (hXn:∀ k,X k->n₀<=k) (lb:Array Value) (ts:List TN) (hok:∀ t∈ts,t.2.Ok/\t.1<1024) (w:World) (hn:n₀<=w.heap.size) (hbx:bx<w.heap.size) (hc:w.cell? ⟨bx,0,none⟩=some (.func (.func 128) #[] lb))
  (hG:∀ X:Nat->Prop,(∀ k,X k->n₀<=k)->GivesM prog 128 lb encKV X (ts.map kvT) w) :
  GivesM prog 196 #[.pointer (some ⟨bx,0,none⟩)] encT X ts w:=by
 intro l J Jx W hW hlw hl hX hJ hJx hY h0
 have c1:=(hW.cell (p:=⟨bx,0,none⟩) hbx).trans hc
 have hsW:=hW.size
 have hmx:=Tryz.mixed
 have hb1:Below W.heap.size W (W.alloc (.cells #[.func (.yield l) #[] #[]] 266)):=bal
 have hB1:=Boxed.new W 266 (.func (.yield l) #[] #[])
 have c1':=(hb1.cell (p:=⟨bx,0,none⟩) (by show bx<_;omega)).trans c1
 have HB:=hid hB1
 have Hb:=hid hb1
 clear hB1 hb1 c1 hc
 refine calls_marks func196 rfl ?_
 simp only [ntmps196,List.size_toArray,List.length_cons,List.length_nil,Nat.reduceAdd,Nat.reduceSub,Array.replicate_succ,Array.replicate_zero,List.push_toArray,List.append_toArray,List.nil_append,List.cons_append]
 go_wp2_with fail
 have hB1:=HB.out
 have hb1:=Hb.out
 have hs1:(W.alloc (.cells #[.func (.yield l) #[] #[]] 266)).heap.size=W.heap.size+1:=by simp
 clear HB Hb c1'
 generalize W.alloc (.cells #[.func (.yield l) #[] #[]] 266)=W1 at *
 refine (wpIn_wide (n:=0)).1 ?_
 refine rangeM_law (gf:=128) (lb:=lb) rfl (enters_of func128 (by kernel_rfl) rfl) (hG (fun k=>X k\/k=l) (fun k h=>by rcases h with h | h;exact hXn k h;omega)) (hW.trans (hb1.mono hsW)) (fun k h=>by rcases h with h | h;(have:=hX k h;omega);omega) (fun _=>rfl)
  (fun M pre' V=>∃ pre,pre'=pre.map kvT/\pre <+: ts/\J M pre V/\Boxed V W.heap.size 266 (.func (.yield l) #[] #[]))
  (fun M c pre' V=>c=.ret/\∃ pre,pre <+: ts/\Jx M pre V)
  (fun M s A B row hs hg hr=>by
   obtain ⟨pre,a,b,c,d⟩:=hs
   exact ⟨pre,a,b,hJ M pre A B row c hg (fun r e=>⟨by have:=(hr r e).1;omega,(hr r e).2⟩),own_boxed d hg hr⟩)
  (fun M c s A B row hs hg hr=>by
   obtain ⟨a,pre,b,d⟩:=hs
   exact ⟨a,pre,b,hJx M pre A B row d hg (fun r e=>⟨by have:=(hr r e).1;omega,(hr r e).2⟩)⟩)
  (fun M hM=>⟨[],rfl,List.nil_prefix,hJ M [] W W1 none (h0 M (by omega)) (below_grown hb1) (fun r e=>by cases e),hB1⟩)
  (fun x a' _=>a'={ tmps:=#[.func (.yield l) #[] #[],.pointer (some ⟨bx,0,none⟩),.pointer (some ⟨W.heap.size,0,none⟩),.int .u32 x.1,.string x.2,.func (.func 128) #[] lb,.int .u32 x.1,.string x.2,undef,undef,undef,undef,undef,undef,undef,undef],defers:=[] })
  (fun _ _ _ _ _ _ hs _ _=>hs) ?assign ?body ?done ?stop
 case assign =>
  intro y M pre x V K hM1 hM2 _ hi hK
  simp only [encKV]
  gi_wp2
  exact hK _ _ (Keeps.refl _ _) hi rfl
 case body =>
  rintro y M pre' x a' V hy1 hy2 hM1 hM2 hp ⟨pre,rfl,hpre,hj,hbox⟩ rfl
  obtain ⟨t,rfl,hpt⟩:=pre_map hpre hp
  have htm:t∈ts:=hpt.subset (by simp)
  have HRd:=hid (readTube_text t.2 (hok t htm).1)
  have hc2:=hbox.cell
  have hlt:=(hok t htm).2
  have hltI:(t.1:Int)<1024:=by omega
  have hq1:IntKind.u32.wrap (2097152+(t.1:Int) - 2097152)=t.1:=by rw [wraps32 _ (by omega) (by omega)];omega
  have hq2:IntKind.i64.wrap (t.1:Int)=t.1:=wraps63 _ (by omega) (by omega)
  simp only [kvT,tubeK]
  have HKV:=hid (show kvT t=(2097152+(t.1:Int),⟨t.2.text.toArray⟩) from rfl)
  generalize (⟨t.2.text.toArray⟩:ByteArray)=tx at *
  gi_wp2
  refine wpIn_region_then (C:=fun u=>Below V.heap.size V u) 6 hmx ((Below.refl _ V).drew) (by decide) (by kernel_rfl) (by kernel_rfl) (by kernel_rfl) (by kernel_rfl) (by kernel_rfl) ?_
  simp only [List.take_succ_cons,List.take_zero]
  refine wpQuiet_step fun K hK => ?_
  simp only [Region.wanted,if_true]
  refine ⟨.func (.yield l) #[] #[],fun u hu => ?_,hK _ ?_⟩
  ·have hcu:=(hu.cell (p:=⟨W.heap.size,0,none⟩) hbox.lt).trans hc2
   simp [Oper.quietAt,Oper.quietUpon,go_sem,hcu]
  clear hK
  simp only [Act.put,List.setIfInBounds_toArray,List.set_cons_succ,List.set_cons_zero]
  refine wpQuiet_step fun K hK => ?_
  simp only [Region.wanted,if_true]
  refine ⟨.int .u32 (2097152+(t.1:Int)),fun u hu => ?_,hK _ ?_⟩
  ·simp [Oper.quietAt,Oper.quietUpon,go_sem]
  clear hK
  simp only [Act.put,List.setIfInBounds_toArray,List.set_cons_succ,List.set_cons_zero]
  refine wpQuiet_step fun K hK => ?_
  simp only [Region.wanted,if_true]
  refine ⟨.int .u32 t.1,fun u hu => ?_,hK _ ?_⟩
  ·simp [Oper.quietAt,Oper.quietUpon,go_sem,hq1]
  clear hK
  simp only [Act.put,List.setIfInBounds_toArray,List.set_cons_succ,List.set_cons_zero]
  refine wpQuiet_step fun K hK => ?_
  simp only [Region.wanted,if_true]
  refine ⟨.int .i64 t.1,fun u hu => ?_,hK _ ?_⟩
  ·simp [Oper.quietAt,Oper.quietUpon,go_sem,hq2]
  clear hK
  simp only [Act.put,List.setIfInBounds_toArray,List.set_cons_succ,List.set_cons_zero]
  refine wpQuiet_step fun K hK => ?_
  simp only [Region.wanted,if_true]
  refine ⟨.string tx,fun u hu => ?_,hK _ ?_⟩
  ·simp [Oper.quietAt,Oper.quietUpon,go_sem]
  clear hK
  simp only [Act.put,List.setIfInBounds_toArray,List.set_cons_succ,List.set_cons_zero]
  refine wpQuiet_step fun K hK => ?_
  simp only [Region.wanted,if_true]
  refine ⟨t.2.val,fun u hu => ?_,hK _ ?_⟩
  ·have hcl:=(HRd.out u).mono (R':=fun e w''=>e=.returned t.2.val/\Below V.heap.size V w'') (fun e w'' ⟨he,hb⟩=>⟨he,hu.trans (hb.mono hu.size)⟩)
   simp only [Oper.quietAt,execOp,resolve,invoke,Sem.run_bind,List.map_toArray,List.map_cons,List.map_nil]
   simp [Oper.quietUpon,go_sem]
   exact hcl
  clear hK
  simp only [Act.put,List.setIfInBounds_toArray,List.set_cons_succ,List.set_cons_zero]
  refine wpQuiet_nil ?_
  intro V2 hbV
  have hbox2:=boxed_below hbox hbV
  obtain ⟨fn,tmps,assign,body,hyy,hR⟩:=hY M pre t V2 (by omega) (by have:=hbV.size;omega) hpt (hJ M pre V V2 none hj (below_grown hbV) (fun r e=>by cases e))
  simp only [encT] at hyy
  simp only [List.drop_succ_cons,List.drop_zero]
  gi_wp2
  refine ⟨rfl,hR.mono ?_⟩
  clear hR hyy
  rintro e V3 (⟨rfl,hj3,hk3⟩ | ⟨rfl,hx3,hk3⟩)
  ·gi_wp2
   exact ⟨((Keeps.refl _ V).below hbV nlr).trans (hk3.mono (fun k _ h=>by rcases h with h | h | h;exact .inl (.inl h);exact .inl (.inr h);exact .inr h)),pre++[t],by rw [List.map_append,List.map_singleton,HKV.out],hpt,hj3,keeps_same hk3 (fun h=>by rcases h with h | h | h;(have:=hX _ h;omega);omega;omega) hbox2⟩
  ·gi_wp2
   exact ⟨((Keeps.refl _ V).below hbV nlr).trans (hk3.mono (fun k _ h=>by rcases h with h | h | h;exact .inl (.inl h);exact .inl (.inr h);exact .inr h)),rfl,pre++[t],hpt,hx3⟩
 case done =>
  rintro M V hM ⟨pre,he,hpre,hj,hbox⟩ hD
  have hpt:pre=ts:=by
   have:=congrArg List.length he
   simp at this
   exact hpre.eq_of_length this.symm
  subst hpt
  go_wp2_with fail
  refine ⟨by simp,.inl ⟨_,_,rfl,run_takeDeferred (by first | exact hD | (rw [<- hs1];exact hD)),?_⟩⟩
  refine ⟨.tuple #[],by simp [results,results196,go_sem],⟨_,rfl⟩,M,by omega,.inl ?_⟩
  exact (hJ M).putObj _ hj (by omega) (by first | exact hD | (rw [<- hs1];exact hD)) rfl
 case stop =>
  rintro M c pre V hM hp ⟨rfl,q,hq,hx⟩ hD
  refine (wpIn_wide (n:=0)).2 ?_
  go_wp2_with fail
  refine ⟨by simp,.inl ⟨_,_,rfl,run_takeDeferred (by first | exact hD | (rw [<- hs1];exact hD)),?_⟩⟩
  refine ⟨.tuple #[],by simp [results,results196,go_sem],⟨_,rfl⟩,M,by omega,.inr ⟨q,hq,?_⟩⟩
  exact (hJx M).putObj _ hx (by omega) (by first | exact hD | (rw [<- hs1];exact hD)) rfl
end
section
open Go.RowKit Go.Shelf
attribute [local go_sem] Oper.semAt_some run_store_cplx
theorem own_recBox {W W':World} {row:Option Nat} {b B':Nat} {c:Array Value} (h:RecBox W b c) (hg:W.grownBy W' row) (hr:∀ r,row=some r->B'<=r/\∃ o:Obj,W.heap[r]? = some o/\o.isCells=false):RecBox W' b c:=by
 refine (hg.block b h.lt (fun e => ?_)).trans h
 obtain ⟨_,o,ho,hc⟩:=hr b e.symm
 rw [show W.heap[b]? = _ from h] at ho
 cases ho
 cases hc
def inBox (box:Int) (t:TN):Bool:=decide (t.2.box=box)
theorem in1_givesM (X:Nat->Prop) (n₀ ba bb:Nat) (hXn:∀ k,X k->n₀<=k) (hXb:¬ X bb) (box:Int) (gf:Nat) (eg:∀ args w,(callFunc gf args).run prog w=.ok (.enter gf args) w) (lb:Array Value) (ts:List TN) (w:World) (hn:n₀<=w.heap.size) (hba:ba<w.heap.size) (hc:w.cell? ⟨ba,0,none⟩=some (.func (.func gf) #[] lb))
  (hbb:Boxed w bb 3 (.int .i64 box))
  (hG:∀ X:Nat->Prop,(∀ k,X k->n₀<=k)->GivesM prog gf lb encT X ts w) :
  GivesM prog 197 #[.pointer (some ⟨ba,0,none⟩),.pointer (some ⟨bb,0,none⟩)] encT X (ts.filter (inBox box)) w:=by
 intro l J Jx W hW hlw hl hX hJ hJx hY h0
 have c1:=(hW.cell (p:=⟨ba,0,none⟩) hba).trans hc
 have hsW:=hW.size
 have hmx:=Tryz.mixed
 have hb1:Below W.heap.size W (W.alloc (.cells #[.func (.yield l) #[] #[]] 266)):=bal
 have hB1:=Boxed.new W 266 (.func (.yield l) #[] #[])
 have hbW:Boxed W bb 3 (.int .i64 box):=boxed_below hbb hW
 have hlb:=hbW.lt
 have hlb0:=hbb.lt
 have hbW1:Boxed (W.alloc (.cells #[.func (.yield l) #[] #[]] 266)) bb 3 (.int .i64 box):=boxed_below hbW hb1
 have c1':=(hb1.cell (p:=⟨ba,0,none⟩) (by show ba<_;omega)).trans c1
 have HB:=hid hB1
 have Hb:=hid hb1
 have HbW:=hid hbW1
 clear hB1 hb1 c1 hc hbW1 hbW hbb
 refine calls_marks func197 rfl ?_
 simp only [ntmps197,List.size_toArray,List.length_cons,List.length_nil,Nat.reduceAdd,Nat.reduceSub,Array.replicate_succ,Array.replicate_zero,List.push_toArray,List.append_toArray,List.nil_append,List.cons_append]
 go_wp2_with fail
 have hB1:=HB.out
 have hb1:=Hb.out
 have hbW1:=HbW.out
 have hs1:(W.alloc (.cells #[.func (.yield l) #[] #[]] 266)).heap.size=W.heap.size+1:=by simp
 clear HB Hb c1' HbW
 generalize W.alloc (.cells #[.func (.yield l) #[] #[]] 266)=W1 at *
 refine (wpIn_wide (n:=0)).1 ?_
 refine rangeM_law (gf:=gf) (lb:=lb) rfl eg (hG (fun k=>X k\/k=l) (fun k h=>by rcases h with h | h;exact hXn k h;omega)) (hW.trans (hb1.mono hsW)) (fun k h=>by rcases h with h | h;(have:=hX k h;omega);omega) (fun _=>rfl)
  (fun M pre V=>pre <+: ts/\J M (pre.filter (inBox box)) V/\Boxed V W.heap.size 266 (.func (.yield l) #[] #[])/\Boxed V bb 3 (.int .i64 box))
  (fun M c pre' V=>c=.ret/\∃ pre,pre <+: ts.filter (inBox box)/\Jx M pre V)
  (fun M s A B row hs hg hr=>by
   obtain ⟨b,c,d,e⟩:=hs
   exact ⟨b,hJ M _ A B row c hg (fun r e=>⟨by have:=(hr r e).1;omega,(hr r e).2⟩),own_boxed d hg hr,own_boxed e hg hr⟩)
  (fun M c s A B row hs hg hr=>by
   obtain ⟨a,pre,b,d⟩:=hs
   exact ⟨a,pre,b,hJx M pre A B row d hg (fun r e=>⟨by have:=(hr r e).1;omega,(hr r e).2⟩)⟩)
  (fun M hM=>⟨List.nil_prefix,hJ M [] W W1 none (h0 M (by omega)) (below_grown hb1) (fun r e=>by cases e),hB1,hbW1⟩)
  (fun x a' V=>∃ b,W.heap.size<b/\RecBox V b x.2.cells/\a'={ tmps:=#[.func (.yield l) #[] #[],.pointer (some ⟨ba,0,none⟩),.pointer (some ⟨bb,0,none⟩),.pointer (some ⟨W.heap.size,0,none⟩),.int .i64 x.1,.pointer (some ⟨b,0,none⟩),.func (.func gf) #[] lb,.int .i64 x.1,x.2.val,undef,undef,undef,undef,undef,undef,undef,undef,undef,undef,undef],defers:=[] })
  (fun x a' _ A B row hs hg hr=>by
   obtain ⟨b,h1,h2,h3⟩:=hs
   exact ⟨b,h1,own_recBox h2 hg hr,h3⟩) ?assign ?body ?done ?stop
 case assign =>
  intro y M pre x V K hM1 hM2 _ hi hK
  simp only [encT,PT.val,PT.cells,pl]
  gi_wp2
  have hbV:Below V.heap.size V (V.alloc (.cells #[.complex .f64 (fl x.2.x) (fl x.2.y),.int .i64 x.2.box,.int .i64 x.2.donor,.int .i64 x.2.status,.int .i64 x.2.thaws,.int .i64 x.2.began,.int .i64 x.2.left,.int .i64 x.2.used,.int .i64 x.2.lost] 216)):=bal
  exact hK _ _ ((Keeps.refl _ V).below hbV nlr) ⟨hi.1,hJ M _ V _ none hi.2.1 (below_grown hbV) (fun r e=>by cases e),boxed_below hi.2.2.1 hbV,boxed_below hi.2.2.2 hbV⟩ ⟨V.heap.size,hi.2.2.1.lt,World.alloc_heap_new V _,rfl⟩
 case body =>
  rintro y M pre x a' V hy1 hy2 hM1 hM2 hp ⟨hpre,hj,hbox,hbox2⟩ ⟨b,hb,hr,rfl⟩
  have hc2:=hbox.cell
  have hc3:=hbox2.cell
  simp only [PT.cells,pl] at hr
  have d0:=hr.cell 0
  have d1:=hr.cell 1
  have d2:=hr.cell 2
  have d3:=hr.cell 3
  have d4:=hr.cell 4
  have d5:=hr.cell 5
  have d6:=hr.cell 6
  have d7:=hr.cell 7
  have d8:=hr.cell 8
  simp only [List.getElem?_toArray,List.getElem?_cons_zero,List.getElem?_cons_succ] at d0 d1 d2 d3 d4 d5 d6 d7 d8
  by_cases hbx:(x.2.box:Int)=box
  ·have hfx:inBox box x=true:=by simp [inBox,hbx]
   have hfp:(pre++[x]).filter (inBox box)=pre.filter (inBox box)++[x]:=by simp [List.filter_append,hfx]
   have hpt:(pre.filter (inBox box)++[x]) <+: ts.filter (inBox box):=by rw [<- hfp];exact hp.filter _
   obtain ⟨fn,tmps,assign,body,hyy,hR⟩:=hY M _ x V (by omega) hM2 hpt hj
   simp only [encT,PT.val,PT.cells,pl,hbx] at hyy
   gi_wp2
   refine ⟨rfl,hR.mono ?_⟩
   clear hR hyy
   rintro e V3 (⟨rfl,hj3,hk3⟩ | ⟨rfl,hx3,hk3⟩)
   ·gi_wp2
    exact ⟨(hk3.mono (fun k _ h=>by rcases h with h | h | h;exact .inl (.inl h);exact .inl (.inr h);exact .inr h)),hp.trans (List.prefix_refl _),by rw [hfp];exact hj3,keeps_same hk3 (fun h=>by rcases h with h | h | h;(have:=hX _ h;omega);omega;omega) hbox,keeps_same hk3 (fun h=>by rcases h with h | h | h;exact hXb h;omega;omega) hbox2⟩
   ·gi_wp2
    exact ⟨(hk3.mono (fun k _ h=>by rcases h with h | h | h;exact .inl (.inl h);exact .inl (.inr h);exact .inr h)),rfl,_,hpt,hx3⟩
  ·have hfx:inBox box x=false:=by simp [inBox,hbx]
   have hfp:(pre++[x]).filter (inBox box)=pre.filter (inBox box):=by simp [List.filter_append,hfx]
   have hbq:((x.2.box:Int) == box)=false:=by simp [hbx]
   gi_wp2
   repeat (refine And.intro (fun (f:FuncId) (e:none=some f)=>nomatch e) ?_;gi_wp2)
   exact ⟨Keeps.refl _ _,hp,by rw [hfp];exact hj,hbox,hbox2⟩
 case done =>
  rintro M V hM ⟨hpre,hj,hbox,hbox2⟩ hD
  go_wp2_with fail
  refine ⟨by simp,.inl ⟨_,_,rfl,run_takeDeferred (by first | exact hD | (rw [<- hs1];exact hD)),?_⟩⟩
  refine ⟨.tuple #[],by simp [results,results197,go_sem],⟨_,rfl⟩,M,by omega,.inl ?_⟩
  exact (hJ M).putObj _ hj (by omega) (by first | exact hD | (rw [<- hs1];exact hD)) rfl
 case stop =>
  rintro M c pre V hM hp ⟨rfl,q,hq,hx⟩ hD
  refine (wpIn_wide (n:=0)).2 ?_
  go_wp2_with fail
  refine ⟨by simp,.inl ⟨_,_,rfl,run_takeDeferred (by first | exact hD | (rw [<- hs1];exact hD)),?_⟩⟩
  refine ⟨.tuple #[],by simp [results,results197,go_sem],⟨_,rfl⟩,M,by omega,.inr ⟨q,hq,?_⟩⟩
  exact (hJx M).putObj _ hx (by omega) (by first | exact hD | (rw [<- hs1];exact hD)) rfl
end
section
open Go.RowKit Go.Shelf
theorem setSide_any (n₀ b n s:Nat) (l:List KV) (hs:s<256) (w:World) (hT:TxAt n₀ w b l) (hn:n<1024) (hL:l.length<8000) :
  Calls prog 105 #[.pointer (some ⟨b,0,none⟩),.int .i64 n,.int .i64 s] w (PutEnds b 147 (insK l (boxK n) ⟨#[UInt8.ofNat s]⟩) w):=by
 have hcv:=conv_new w.drew [UInt8.ofNat s] #[.int .u8 s] (by simp only [byteCells,List.map];rw [ofNat_lt hs])
 have hwr:IntKind.u8.wrap (s:Int)=s:=by simp only [IntKind.wrap,IntKind.bits,IntKind.signed];simp;omega
 have hcv':(convert 51 9 (.slice (some ⟨w.heap.size,0,none⟩) 1 1)).run prog (w.alloc (.cells #[.int .u8 (IntKind.u8.wrap s)] 5)).drew=.ok (.string ⟨#[UInt8.ofNat s]⟩) (w.alloc (.cells #[.int .u8 (IntKind.u8.wrap s)] 5)).drew:=by rw [hwr];exact hcv
 have hkey:=boxKey_any n hn
 have hs':(s:Int)<256:=by omega
 have hB2:Below w.heap.size w (w.alloc (.cells #[.int .u8 (IntKind.u8.wrap s)] 5)).drew:=(bal).drew
 have HPut:=hid (treePut_any n₀ b 147 l (boxK n) ⟨#[UInt8.ofNat s]⟩ _ (hT.below hB2) hL)
 have HB2:=hid hB2
 clear hcv hT hB2 hwr hs'
 generalize (⟨#[UInt8.ofNat s]⟩:ByteArray)=tx at *
 go_enter func105,ntmps105
 go_wp2_with fail
 go_region_with (first
  | (go_at_call 150;refine (hkey _).mono ?_;clear hkey;rintro e w' ⟨rfl,rfl⟩)
  | (go_at_call 135;refine HPut.out.mono ?_;clear HPut;intro e w3 hP;have he:=hP.1;subst he))
 all_goals go_wp2_with fail
 all_goals go_end0
 all_goals exact hP.from HB2.out
end
end Go.Proofs.YtalncjhldkcmaaaGreat
