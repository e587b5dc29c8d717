import Derived.Test.YtalncjhldkcmaaaGreatFb16
import Derived.Test.YtalncjhldkcmaaaGreatFb20
import Derived.Test.YtalncjhldkcmaaaGreatFb22
import Derived.Test.YtalncjhldkcmaaaGreatFb07
import Derived.Test.YtalncjhldkcmaaaGreatFb02
import Derived.Test.YtalncjhldkcmaaaGreatFb12
import Derived.Test.YtalncjhldkcmaaaGreatFb13
import Derived.Test.YtalncjhldkcmaaaGreatFb09
import Derived.Deep.RegionHeld3
import Derived.Test.YtalncjhldkcmaaaGreatFb19
namespace Go.Proofs.YtalncjhldkcmaaaGreat
open _root_.Go.Proofs.Tryz
set_option maxHeartbeats 16000000
set_option maxRecDepth 8000
section
open Go.RowKit Go.Shelf
attribute [local go_sem] Oper.semAt_some
theorem own_blk {W W':World} {row:Option Nat} {B k:Nat} {c:Array Value} {t:TypeId} {f:Nat×Nat} (h:W.heap[k]? = some (.cells c t f)) (hg:W.grownBy W' row) (hr:∀ r,row=some r->B<=r/\∃ o:Obj,W.heap[r]? = some o/\o.isCells=false):W'.heap[k]? = some (.cells c t f):=by
 refine (hg.block k (Array.getElem?_eq_some_iff.1 h).1 (fun e => ?_)).trans h
 obtain ⟨o,ho,hc⟩:=(hr k e.symm).2
 rw [h] at ho;cases ho;cases hc
theorem own_keeps {S:Nat->Prop} {w W W':World} {row:Option Nat} {B:Nat} (h:Keeps S w W) (hB:w.heap.size<=B) (hg:W.grownBy W' row) (hr:∀ r,row=some r->B<=r/\∃ o:Obj,W.heap[r]? = some o/\o.isCells=false):Keeps S w W' :=
 h.grown hg (fun k e=>.inr (by have:=(hr k e).1;omega))
def downF (S:Nat->Bool) (p:PN):Nat->Bool:=if S p.1 then orL S [p.2.1] else S
def downS (S:Nat->Bool) (ps:List PN):Nat->Bool:=ps.foldl downF S
theorem downS_step (S:Nat->Bool) (ps:List PN) (p:PN):downS S (ps++[p])=downF (downS S ps) p:=by simp [downS]
theorem none_end {P:Program} {F:Func} {V:World} {D:Nat} {tmps:Array Value} {R:Ending->World->Prop} (hres:F.results=#[]) (hD:V.heap[D]? = some (.deferred (some []))) (h:R (.returned (.tuple #[])) (V.putObj D (.deferred none))) :
  bodyPostM Fence.wide 0 P F R .normal { tmps:=tmps,defers:=[{ target:=.collected D,args:=#[] }] } V:=by
 refine ⟨by simp,.inl ⟨_,_,rfl,run_takeDeferred hD,?_⟩⟩
 refine ⟨.tuple #[],by simp [results,hres,go_sem],h⟩
theorem addBelow_any (n₀ b g:Nat) (S:Nat->Bool) (l:List KV) (ps:List PN) (hok:∀ t∈ps,t.1<1000/\t.2.1<1000) (hps:sel (pourK 1 1) (pourK 999 999) l=ps.map kvP) (w:World) (hT:TxAt n₀ w b l) (hG:GroupAt w g S) (hg:n₀<=g) :
  Calls prog 121 #[.pointer (some ⟨b,0,none⟩),.pointer (some ⟨g,0,none⟩)] w fun e w'=>e=.returned (.tuple #[])/\GroupAt w' g (downS S ps)/\Keeps (fun k=>k=g) w w':=by
 have hn0:n₀<=w.heap.size:=by obtain ⟨⟨r,hB,hI⟩,hf⟩:=hT;exact hI.2.1
 have hgl:=hG.lt
 have hb1:Below w.heap.size w (w.alloc (.cells #[.pointer (some ⟨g,0,none⟩)] 231)):=(Below.refl _ w).alloc nlr _
 have HTu:=hid (pairs_any n₀ b l ps (fun t ht=>by have:=hok t ht;omega) hps _ (hT.below hb1))
 have HB:=hid (Boxed.new w 231 (.pointer (some ⟨g,0,none⟩)))
 have Hs:=hid (show (w.alloc (.cells #[.pointer (some ⟨g,0,none⟩)] 231)).heap.size=w.heap.size+1 by simp)
 have Hb1:=hid hb1
 have HG:=hid hG
 clear hb1 hT hG
 refine calls_marks func121 rfl ?_
 simp only [ntmps121,List.size_toArray,List.length_cons,List.length_nil,Nat.reduceAdd,Nat.reduceSub,Array.replicate_succ,Array.replicate_zero,List.push_toArray,List.append_toArray,List.nil_append,List.cons_append]
 go_wp2_with (go_at_call 174;refine HTu.out.mono ?_;clear HTu;rintro e w2 ⟨bx,rfl,hGv,hb2⟩)
 have hb1:=Hb1.out
 have hbx:=HB.out
 have hs:=Hs.out
 have hG:=HG.out
 clear Hb1 HB Hs HG
 generalize w.alloc (.cells #[.pointer (some ⟨g,0,none⟩)] 231)=w1 at *
 have hb12:Below w.heap.size w w2:=hb1.trans (hb2.mono hb1.size)
 have h2:=hb2.size
 have hbx2:=boxed_below hbx hb2
 have hG2:=hG.below hb12
 have hk2:Keeps (fun k=>k=g) w w2:=below_toKeeps hb12 _
 refine (wpIn_wide (n:=0)).1 ?_
 refine rangeM_law (gf:=199) (lb:=#[.pointer (some ⟨bx,0,none⟩)]) rfl (enters_of func199 (by kernel_rfl) rfl) (hGv (fun _=>False) w2 (fun k=>k=g) (Keeps.refl _ _) (fun _ h=>h.elim) (fun k h=>by omega)) (Below.refl _ _) (fun k h=>by omega) (fun _=>rfl)
  (fun M pre V=>Boxed V w.heap.size 231 (.pointer (some ⟨g,0,none⟩))/\GroupAt V g (downS S pre)/\Keeps (fun k=>k=g) w V)
  (fun _ _ _ _=>False)
  (fun _ s A B row hs hg hr=>by
   obtain ⟨h1,h2,h3⟩:=hs
   exact ⟨own_boxed h1 hg hr,own_blk h2 hg hr,own_keeps h3 hk2.size hg hr⟩)
  (fun _ c s A B row hs hg hr=>hs.elim)
  (fun _ _=>⟨hbx2,hG2,hk2⟩)
  (fun x a' V=>a'={ tmps:=#[.pointer (some ⟨b,0,none⟩),.pointer (some ⟨g,0,none⟩),undef,.pointer (some ⟨w.heap.size,0,none⟩),.int .i64 x.1,.int .i64 x.2.1,.pointer (some ⟨b,0,none⟩),.func (.func 199) #[] #[.pointer (some ⟨bx,0,none⟩)],.int .i64 x.1,.int .i64 x.2.1,undef,undef,undef,undef,undef,undef,undef,undef,undef],defers:=[] })
  (fun x a' _ A B row hs hg hr=>hs) ?assign ?body ?done ?stop
 case assign =>
  intro y M pre x V K hM1 hM2 _ hi hK
  simp only [encP]
  gi_wp2
  exact hK _ _ (Keeps.refl _ _) hi rfl
 case body =>
  rintro y M pre x a' V hy1 hy2 hM1 hM2 hp ⟨hbox,hgr,hk⟩ rfl
  have hxm:x∈ps:=hp.subset (by simp)
  have hx1:=(hok x hxm).1
  have hx2:=(hok x hxm).2
  have hc2:=hbox.cell
  have hc3:=hgr.cell hx1
  have HS:=hid (downS_step S pre x)
  cases hb:downS S pre x.1 with
  | false =>
   rw [hb] at hc3
   gi_wp2
   exact ⟨Keeps.refl _ _,hbox,by rw [HS.out,downF,hb];exact hgr,hk⟩
  | true =>
   rw [hb] at hc3
   have hba:Below V.heap.size V (V.alloc (.cells #[.int .i64 x.2.1] 3)):=bal
   have hgrl:=hgr.lt
   have HA:=hid (add_any g (downS S pre) (.slice (some ⟨V.heap.size,0,none⟩) 1 1) [x.2.1] (fun z hz=>by simp at hz;omega) (by simp) _ (hgr.below hba) (one_ints V x.2.1) (fun k hk=>by simp [Value.ownBlock] at hk;omega))
   have Hba:=hid hba
   clear hba
   gi_wp2
   refine ⟨trivial,rfl,(CallsIn.inRound _ (callsIn_wide.2 HA.out)).mono ?_⟩
   rintro e w3 ⟨rfl,hg3,hk3⟩
   gi_wp2
   have hka:Keeps (fun k=>k=g) V w3:=(below_toKeeps Hba.out _).trans hk3
   exact ⟨hka.mono (fun k _ h=>.inl h),hka.block _ hbox.lt (by omega) |>.trans hbox,by rw [HS.out,downF,hb];exact hg3,hk.trans hka⟩
 case done =>
  rintro M V hM ⟨hbox,hgr,hk⟩ hD
  go_wp2_with fail
  refine none_end (by kernel_rfl) hD ⟨rfl,?_,?_⟩
  ·exact own_blk (B:=0) hgr (grownBy_putObj' V _ _) (fun r e=>by cases e;exact ⟨Nat.zero_le _,_,hD,rfl⟩)
  ·exact own_keeps hk hk2.size (grownBy_putObj' V _ _) (fun r e=>by cases e;exact ⟨Nat.le_refl _,_,hD,rfl⟩)
 case stop =>
  rintro M c pre V hM hp h hD
  exact h.elim
end
section
open Go.RowKit Go.Shelf
attribute [local go_sem] Oper.semAt_some
def upF (S:Nat->Bool) (p:PN):Nat->Bool:=if S p.2.1 then orL S [p.1] else S
def upB (S:Nat->Bool) (l:List (Nat×PN)):Nat->Bool:=(l.map Prod.snd).foldl upF S
def upS (S:Nat->Bool) (ps:List PN):Nat->Bool:=ps.reverse.foldl upF S
theorem upB_step (S:Nat->Bool) (l:List (Nat×PN)) (x:Nat×PN):upB S (l++[x])=upF (upB S l) x.2:=by simp [upB]
theorem upB_all (S:Nat->Bool) (ps:List PN):upB S (backs ps)=upS S ps:=by simp only [upB,upS,backs_map]
theorem two_end {P:Program} {F:Func} {V:World} {D1 D2:Nat} {tmps:Array Value} {R:Ending->World->Prop} (hres:F.results=#[]) (hD2:V.heap[D2]? = some (.deferred (some []))) (hD1:V.heap[D1]? = some (.deferred (some []))) (hne:D1≠D2) (h:R (.returned (.tuple #[])) ((V.putObj D2 (.deferred none)).putObj D1 (.deferred none))) :
  bodyPostM Fence.wide 0 P F R .normal { tmps:=tmps,defers:=[{ target:=.collected D2,args:=#[] },{ target:=.collected D1,args:=#[] }] } V:=by
 refine ⟨by simp,.inl ⟨_,_,rfl,run_takeDeferred hD2,?_⟩⟩
 refine ⟨by simp,.inl ⟨_,_,rfl,run_takeDeferred ((World.putObj_heap_other hne).trans hD1),?_⟩⟩
 exact ⟨.tuple #[],by simp [results,hres,go_sem],h⟩
theorem Tryz.infoPair:(prog.info? 241).map (fun i=>(i.zero,i.size,i.bytes))=some (some (.agg #[.int .i64 0,.int .i64 0]),2,16):=by kernel_rfl
theorem app_pair (w:World) (a b:Int):∀ j u,[Value.int .i64 a,Value.int .i64 b][j]? = some u->(w.alloc (.cells #[.int .i64 a,.int .i64 b] 241)).cell? ((⟨w.heap.size,0,none⟩:Addr).add j)=some u:=by
 intro j u hj
 match j,hj with
 | 0,hj=>simp at hj;subst hj;simp [Addr.add]
 | 1,hj=>simp at hj;subst hj;rw [addr_add];simp
theorem addAbove_any (n₀ b g:Nat) (S:Nat->Bool) (l:List KV) (ps:List PN) (hok:∀ t∈ps,t.1<1000/\t.2.1<1000) (hl:ps.length<9000) (hps:sel (pourK 1 1) (pourK 999 999) l=ps.map kvP) (w:World) (hT:TxAt n₀ w b l) (hG:GroupAt w g S) (hg:n₀<=g) :
  Calls prog 120 #[.pointer (some ⟨b,0,none⟩),.pointer (some ⟨g,0,none⟩)] w fun e w'=>e=.returned (.tuple #[])/\GroupAt w' g (upS S ps)/\Keeps (fun k=>k=g) w w':=by
 obtain ⟨i0,hi,hz0,hz1,hz2⟩:=info_parts Tryz.infoPair
 have hn0:n₀<=w.heap.size:=by obtain ⟨⟨r,hB,hI⟩,hf⟩:=hT;exact hI.2.1
 have hgl:=hG.lt
 have hb1:Below w.heap.size w ((w.alloc (.cells #[.pointer (some ⟨g,0,none⟩)] 231)).alloc (.cells #[.slice none 0 0] 237)):=((Below.refl _ w).alloc nlr _).alloc (by simp) _
 have HTu:=hid (pairs_any n₀ b l ps (fun t ht=>by have:=hok t ht;omega) hps _ (hT.below hb1))
 have HB:=hid ((Boxed.new w 231 (.pointer (some ⟨g,0,none⟩))).alloc (.cells #[.slice none 0 0] 237))
 have HB2:=hid (Boxed.new (w.alloc (.cells #[.pointer (some ⟨g,0,none⟩)] 231)) 237 (.slice none 0 0))
 have Hs:=hid (show ((w.alloc (.cells #[.pointer (some ⟨g,0,none⟩)] 231)).alloc (.cells #[.slice none 0 0] 237)).heap.size=w.heap.size+2 by simp)
 have Hb1:=hid hb1
 have HG:=hid hG
 clear hb1 hT hG
 refine calls_marks func120 rfl ?_
 simp only [ntmps120,List.size_toArray,List.length_cons,List.length_nil,Nat.reduceAdd,Nat.reduceSub,Array.replicate_succ,Array.replicate_zero,List.push_toArray,List.append_toArray,List.nil_append,List.cons_append]
 go_wp2_with (go_at_call 174;refine HTu.out.mono ?_;clear HTu;rintro e w2 ⟨bx,rfl,hGv,hb2⟩)
 have hb1:=Hb1.out
 have hbx:=HB.out
 have hbr:=HB2.out
 have hs:=Hs.out
 have hG:=HG.out
 have hsa:(w.alloc (.cells #[.pointer (some ⟨g,0,none⟩)] 231)).heap.size=w.heap.size+1:=by simp
 rw [hsa] at hbr
 clear Hb1 HB Hs HG HB2
 generalize (w.alloc (.cells #[.pointer (some ⟨g,0,none⟩)] 231)).alloc (.cells #[.slice none 0 0] 237)=w1 at *
 have hb12:Below w.heap.size w w2:=hb1.trans (hb2.mono hb1.size)
 have h2:=hb2.size
 have hbx2:=boxed_below hbx hb2
 have hbr2:=boxed_below hbr hb2
 refine (wpIn_wide (n:=0)).1 ?_
 refine rangeM_law (gf:=199) (lb:=#[.pointer (some ⟨bx,0,none⟩)]) rfl (enters_of func199 (by kernel_rfl) rfl) (hGv (fun _=>False) w2 (fun k=>k=w.heap.size+1) (Keeps.refl _ _) (fun _ h=>h.elim) (fun k h=>by omega)) (Below.refl _ _) (fun k h=>by omega) (fun _=>rfl)
  (fun M pre V=>Boxed V w.heap.size 231 (.pointer (some ⟨g,0,none⟩))/\(∃ v,Boxed V (w.heap.size+1) 237 v/\V.ownsRow M 241 2 v pre.length (pairCells pre))/\Below w.heap.size w V)
  (fun _ _ _ _=>False)
  (fun _ s A B row hs hg hr=>by
   obtain ⟨h1,⟨v,h2,h3⟩,h4⟩:=hs
   exact ⟨own_boxed h1 hg hr,⟨v,own_boxed h2 hg hr,own_row h3 hg hr⟩,own_below h4 nlr hb12.size hg hr⟩)
  (fun _ c s A B row hs hg hr=>hs.elim)
  (fun _ _=>⟨hbx2,⟨_,hbr2,World.ownsRow_nil _ _ _ _⟩,hb12⟩)
  (fun x a' V=>a'={ tmps:=#[.pointer (some ⟨b,0,none⟩),.pointer (some ⟨g,0,none⟩),undef,.pointer (some ⟨w.heap.size,0,none⟩),.pointer (some ⟨w.heap.size+1,0,none⟩),.int .i64 x.1,.int .i64 x.2.1,undef,undef,.pointer (some ⟨b,0,none⟩),.func (.func 199) #[] #[.pointer (some ⟨bx,0,none⟩)],.int .i64 x.1,.int .i64 x.2.1,undef,undef,undef,undef,undef,undef,undef,undef,undef,undef,undef,undef,undef,undef,undef,undef,undef,undef,undef,undef,undef],defers:=[] })
  (fun x a' _ A B row hs hg hr=>hs) ?assign ?body ?done ?stop
 case assign =>
  intro y M pre x V K hM1 hM2 _ hi hK
  simp only [encP]
  gi_wp2
  exact hK _ _ (Keeps.refl _ _) hi rfl
 case body =>
  rintro y M pre x a' V hy1 hy2 hM1 hM2 hp ⟨hdon,⟨v,hres,hrow⟩,hbel⟩ rfl
  have hc3:=hres.cell
  have hlp:pre.length+1<=ps.length:=by have:=hp.length_le;simpa using this
  have hb3:∀ w3,(V.alloc (.cells #[.int .i64 x.1,.int .i64 x.2.1] 241)).grownBy w3 v.ownBlock->Boxed w3 (w.heap.size+1) 237 v:=fun w3 hg =>
   (hg.block _ (by have:=hres.lt;simp;omega) (fun e=>by have:=(hrow.lt _ e.symm).1;omega)).trans (boxed_below hres (bal))
  have HB3:=hid hb3
  clear hb3
  gi_wp2_with (gi_at_builtin;refine wpListIn_append_own _ rfl _ _ 237 rfl M 241 i0 (.agg #[.int .i64 0,.int .i64 0]) 2 16 underlying237 hi hz0 hz1 hz2 rfl (by decide) _ _ _ rfl (hrow.alloc _) ⟨V.heap.size,0,none⟩ 1 1 [.int .i64 x.1,.int .i64 x.2.1] rfl rfl (app_pair V _ _) (by intro u hu;simp at hu;rcases hu with rfl | rfl <;> rfl) (by unfold maxLen;omega) (by omega) (by simp;omega) ?_;intro v' w3 hown' hgrow' _;obtain ⟨g3,cap3,rfl⟩:=own_form hown';have hb3:=HB3.out w3 hgrow';have hc4:=hb3.cell;have hf4:=hb3.frozen)
  have hk3:Keeps (fun k=>k=w.heap.size+1\/M<=k) V (w3.setCell ⟨w.heap.size+1,0,none⟩ (.slice (some ⟨g3,0,none⟩) (pre.length+1) cap3)):=(((Keeps.refl _ V).alloc _).grown hgrow' (fun k e=>.inl (.inr (hrow.lt k e).1))).setCell (p:=⟨w.heap.size+1,0,none⟩) (.inl (.inl rfl)) _
  refine ⟨hk3,keeps_same hk3 (by omega) hdon,⟨_,hb3.set _,?_⟩,hbel.trans (hk3.toBelow (fun k h=>by omega) hbel.size)⟩
  refine ownsRow_block (w:=w3) ?_ (fun g hg=>Below.heap_setCell w3 _ _ g (by have:=(hown'.lt g hg).1;show g≠w.heap.size+1;omega))
  rw [pairCells_append,List.length_append]
  exact hown'
 case done =>
  rintro M V hM ⟨hdon,⟨v,hres,hrow⟩,hbel⟩ hD
  have hc3:=hres.cell
  have hsV:=hbel.size
  have hDl:=(Array.getElem?_eq_some_iff.1 hD).1
  obtain ⟨oa,cap,rfl⟩:∃ oa cap,v=.slice oa ps.length cap:=by
   rcases hrow.2 with ⟨hv,h0⟩ | ⟨g',cap',cur',rfl,_⟩
   ·exact ⟨none,0,by rw [hv,h0]⟩
   ·exact ⟨_,_,rfl⟩
  have HBw:=hid (backward_any oa ps.length cap V)
  go_wp2_with (go_at_call 175;refine HBw.out.mono ?_;clear HBw;rintro e w4 ⟨rfl,rfl⟩)
  have hb4:Below V.heap.size V (V.alloc (.cells #[.slice oa ps.length cap] 237)):=(Below.refl _ V).alloc nlr _
  have hB4:Boxed (V.alloc (.cells #[.slice oa ps.length cap] 237)) V.heap.size 237 (.slice oa ps.length cap):=Boxed.new V _ _
  have hs4:(V.alloc (.cells #[.slice oa ps.length cap] 237)).heap.size=V.heap.size+1:=by simp
  generalize V.alloc (.cells #[.slice oa ps.length cap] 237)=w4 at *
  have hrow4:w4.ownsRow M 241 2 (.slice oa ps.length cap) ps.length (pairCells ps):=ownsRow_block hrow (fun g' hg'=>hb4.block g' (hrow.lt g' hg').2)
  have hdon4:=boxed_below hdon hb4
  have hD4:=(hb4.block _ hDl).trans hD
  have hBel4:Below w.heap.size w w4:=hbel.trans (hb4.mono hsV)
  have hG4:=hG.below hBel4
  have hk4:Keeps (fun k=>k=g) w w4:=below_toKeeps hBel4 _
  have hgv:=back1_givesM (fun k=>k=g) V.heap.size (.slice oa ps.length cap) ps hl w4 (by omega) hB4.cell (row_base hrow4 (Nat.zero_le _)) (by show V.heap.size≠g;omega) (fun g' hg'=>by have:=(hrow4.lt g' hg').1;show g'≠g;omega)
  refine (wpIn_wide (n:=0)).1 ?_
  refine rangeM_law (gf:=200) (lb:=#[.pointer (some ⟨V.heap.size,0,none⟩)]) rfl (enters_of func200 (by kernel_rfl) rfl) hgv (Below.refl _ _) (fun k h=>by omega) (fun _=>rfl)
   (fun M2 pre V2=>Boxed V2 w.heap.size 231 (.pointer (some ⟨g,0,none⟩))/\GroupAt V2 g (upB S pre)/\V2.heap[w2.heap.size]? = some (.deferred (some []))/\Keeps (fun k=>k=g) w V2)
   (fun _ _ _ _=>False)
   (fun _ s A B row hs hg hr=>by
    obtain ⟨h1,h2,h3,h4⟩:=hs
    exact ⟨own_boxed h1 hg hr,own_blk h2 hg hr,(hg.block _ (Array.getElem?_eq_some_iff.1 h3).1 (fun e=>by have:=(hr _ e.symm).1;omega)).trans h3,own_keeps h4 hk4.size hg hr⟩)
   (fun _ c s A B row hs hg hr=>hs.elim)
   (fun _ _=>⟨hdon4,hG4,hD4,hk4⟩)
   (fun x a' V2=>∃ r,V2.heap[r]? = some (.cells #[.int .i64 x.2.1,.int .i64 x.2.2.1] 241 (0,0))/\a'={ tmps:=#[.pointer (some ⟨b,0,none⟩),.pointer (some ⟨g,0,none⟩),undef,.pointer (some ⟨w.heap.size,0,none⟩),.pointer (some ⟨w.heap.size+1,0,none⟩),undef,undef,undef,.pointer (some ⟨r,0,none⟩),.pointer (some ⟨b,0,none⟩),.func (.func 199) #[] #[.pointer (some ⟨bx,0,none⟩)],undef,undef,undef,undef,undef,undef,undef,undef,.slice oa ps.length cap,.func (.func 200) #[] #[.pointer (some ⟨V.heap.size,0,none⟩)],.int .i64 x.1,.agg #[.int .i64 x.2.1,.int .i64 x.2.2.1],undef,undef,undef,undef,undef,undef,undef,undef,undef,undef,undef],defers:=[] })
   (fun x a' _ A B row hs hg hr=>by
    obtain ⟨r,h2,h3⟩:=hs
    exact ⟨r,own_blk h2 hg hr,h3⟩) ?assign2 ?body2 ?done2 ?stop2
  case assign2 =>
   intro y M pre x V K hM1 hM2 _ hi hK
   simp only [encBk,pairV]
   gi_wp2
   have hbV:Below V.heap.size V (V.alloc (.cells #[.int .i64 x.2.1,.int .i64 x.2.2.1] 241)):=bal
   obtain ⟨i1,i2,i3,i4⟩:=hi
   exact hK _ _ ((Keeps.refl _ V).below hbV nlr) ⟨boxed_below i1 hbV,i2.below hbV,(hbV.block _ (Array.getElem?_eq_some_iff.1 i3).1).trans i3,i4.below hbV i4.size⟩ ⟨V.heap.size,World.alloc_heap_new V _,rfl⟩
  case body2 =>
   rintro y M pre x a' V hy1 hy2 hM1 hM2 hp ⟨hbox,hgr,hD1,hk⟩ ⟨r,hr,rfl⟩
   have hxm:x.2∈ps:=by
    have:x.2∈(backs ps).map Prod.snd:=List.mem_map_of_mem (hp.subset (by simp))
    rw [backs_map] at this;simpa using this
   have hx1:=(hok x.2 hxm).1
   have hx2:=(hok x.2 hxm).2
   have hrg:r≠g:=by
    rintro rfl
    have h1:V.heap[r]? = some (.cells (boolsN 1000 (upB S pre)) 229 (0,0)):=hgr
    rw [hr] at h1;cases h1
   have hc2:=hbox.cell
   have hc3:=hgr.cell hx2
   have hr0:V.cell? ⟨r,0,none⟩=some (.int .i64 x.2.1):=by simp only [World.cell?,hr];rfl
   have hr1:V.cell? ⟨r,1,none⟩=some (.int .i64 x.2.2.1):=by simp only [World.cell?,hr];rfl
   have hx2':(x.2.2.1:Int)<1000:=by omega
   have HS:=hid (upB_step S pre x)
   have HR:=hid hr
   clear hr
   cases hb:upB S pre x.2.2.1 with
   | false =>
    rw [hb] at hc3
    gi_wp2
    gi_region
    all_goals gi_wp2
    all_goals exact ⟨(Keeps.refl _ V).drew,hbox,by rw [HS.out,upF,hb];exact hgr,hD1,hk.drew⟩
   | true =>
    rw [hb] at hc3
    have hba:Below V.heap.size V (V.alloc (.cells #[.int .i64 x.2.1] 3)).drew:=(bal).drew
    have hgrl:=hgr.lt
    have HA:=hid (add_any g (upB S pre) (.slice (some ⟨V.heap.size,0,none⟩) 1 1) [x.2.1] (fun z hz=>by simp at hz;omega) (by simp) (V.alloc (.cells #[.int .i64 x.2.1] 3)).drew (hgr.below hba) (one_ints V x.2.1) (fun k hk=>by simp [Value.ownBlock] at hk;omega))
    have Hba:=hid hba
    clear hba
    gi_wp2
    gi_region
    all_goals gi_wp2
    all_goals
     refine ⟨trivial,rfl,(CallsIn.inRound _ (callsIn_wide.2 HA.out)).mono ?_⟩
     rintro e w3 ⟨rfl,hg3,hk3⟩
     gi_wp2
     have hka:Keeps (fun k=>k=g) V w3:=(below_toKeeps Hba.out _).trans hk3
     exact ⟨hka.mono (fun k _ h=>.inl h),hka.block _ hbox.lt (by omega) |>.trans hbox,by rw [HS.out,upF,hb];exact hg3,keeps_same hka (by omega) hD1,hk.trans hka⟩
  case done2 =>
   rintro M2 V2 hM2 ⟨hbox,hgr,hD1,hk⟩ hD2
   go_wp2_with fail
   have hsk:=hk.size
   refine two_end (by kernel_rfl) hD2 hD1 (by omega) ⟨rfl,?_,?_⟩
   ·rw [upB_all] at hgr
    exact own_blk (B:=0) (own_blk (B:=0) hgr (grownBy_putObj' V2 _ _) (fun r e=>by cases e;exact ⟨Nat.zero_le _,_,hD2,rfl⟩)) (grownBy_putObj' _ _ _) (fun r e=>by cases e;exact ⟨Nat.zero_le _,_,(World.putObj_heap_other (by omega)).trans hD1,rfl⟩)
   ·exact own_keeps (own_keeps hk hk4.size (grownBy_putObj' V2 _ _) (fun r e=>by cases e;exact ⟨Nat.le_refl _,_,hD2,rfl⟩)) hb12.size (grownBy_putObj' _ _ _) (fun r e=>by cases e;exact ⟨Nat.le_refl _,_,(World.putObj_heap_other (by omega)).trans hD1,rfl⟩)
  case stop2 =>
   rintro M c pre V hM hp h hD
   exact h.elim
 case stop =>
  rintro M c pre V hM hp h hD
  exact h.elim
end
section
open Go.RowKit Go.Shelf
abbrev Asks:=List (Int×Bool)
def askAll (r:Int) (l:Asks):Int:=l.foldl (fun r p=>askI r p.1 p.2) r
theorem askAll_append (r:Int) (a b:Asks):askAll r (a++b)=askAll (askAll r a) b:=by simp [askAll]
def PT.less (q:PT) (v:Nat):PT:={ q with left:=q.left - v }
def PT.more (q:PT) (v:Nat):PT:={ q with left:=q.left+v }
def PT.usedBy (q:PT) (v:Nat):PT:={ q with left:=q.left - v,used:=q.used+v }
def PT.flippedIn (q:PT) (s:Nat):PT:={ q with x:=s - 1 - q.x }
namespace Led
variable (L:Led) (m:Cm)
def asksT:Asks :=
 if m.k=4\/m.k=5 then [(6,decide (m.o<=m.t)),(8,decide ((L.tubeD m.t).left<m.v)),(7,((L.tubeD m.t).status:Int) != 1),(4,!(L.tube m.t).isSome)]
 else if m.k=3\/m.k=7 then [(7,((L.tubeD m.t).status:Int) != 1),(4,!(L.tube m.t).isSome)]
 else if m.k=12\/m.k=15\/m.k=16 then [(4,!(L.tube m.t).isSome)]
 else if m.k=6 then [(8,decide ((L.tubeD m.t).left<m.v)||decide (1000000<((L.tubeD m.t).used:Int)+m.v)),(7,((L.tubeD m.t).status:Int) == 3),(4,!(L.tube m.t).isSome)]
 else if m.k=8 then [(7,((L.tubeD m.t).status:Int) != 2),(4,!(L.tube m.t).isSome)]
 else if m.k=2 then [(4,(L.tube m.t).isSome)]
 else []
def asksO:Asks :=
 if m.k=4 then [(4,(L.tube m.o).isSome)]
 else if m.k=5 then [(8,decide (1000000<((L.tubeD m.o).left:Int)+m.v)),(8,decide (1000000<(L.pouredN m.t m.o:Int)+m.v)),(7,((L.tubeD m.o).status:Int) != 1),(4,!(L.tube m.o).isSome)]
 else []
def asksD:Asks:=if m.k=9\/m.k=14 then [(5,((ofN m.d L.ts).length:Int) == 0)] else []
def occ:Nat:=occN m.x m.y (L.ts.filter (inBox m.b))
def asksB:Asks :=
 if m.k=2\/m.k=3\/m.k=4\/m.k=8 then
  [(10,!(decide ((m.x:Int)<L.sideN m.b)&&decide ((m.y:Int)<L.sideN m.b))||(((L.occ m:Nat):Int) != 0&&!((m.k:Int) == 3&&((L.occ m:Nat):Int) == m.t))),(9,(L.sideN m.b:Int) == 0)]
 else if m.k=10\/m.k=11\/m.k=13 then [(9,(L.sideN m.b:Int) == 0)]
 else if m.k=1 then [(9,(L.sideN m.b:Int) != 0)]
 else []
def err:Int:=askAll 0 (L.asksT m++L.asksO m++L.asksD m++L.asksB m)
def goneS (d:Nat):Nat->Bool:=downS (orL (fun _=>false) (((L.ts.filter fun t=>decide ((t.2.donor:Int)=d)).map Prod.fst))) L.ps
def hits (d:Nat):List TN:=L.ts.filter fun t=>L.goneS d t.1&&!decide (t.2.status=3)
def putT (n:Nat) (q:PT):Led:={ L with ts:=insT L.ts n q }
def pourL:Led :=
 let L1:=L.putT m.t ((L.tubeD m.t).less m.v)
 let L2:=L1.putT m.o ((L1.tubeD m.o).more m.v)
 { L2 with ps:=insP L2.ps m.t m.o (L2.pouredN m.t m.o+m.v) }
def chg (f:PT->PT) (l:List TN):Led:=l.foldl (fun L t=>L.putT t.1 (f t.2)) L
def act:Led :=
 if m.k=1 then { L with bs:=insB L.bs m.b m.n }
 else if m.k=2 then L.putT m.t ⟨m.x,m.y,m.b,m.d,1,0,m.v,m.v,0,0⟩
 else if m.k=3 then L.putT m.t ((L.tubeD m.t).stored m.b m.x m.y)
 else if m.k=4 then (L.putT m.o ⟨m.x,m.y,m.b,(L.tubeD m.t).donor,1,0,0,0,0,0⟩).pourL m
 else if m.k=5 then L.pourL m
 else if m.k=6 then L.putT m.t ((L.tubeD m.t).usedBy m.v)
 else if m.k=7 then L.putT m.t ((L.tubeD m.t).gone 2)
 else if m.k=8 then L.putT m.t ((L.tubeD m.t).backAt m.b m.x m.y)
 else if m.k=9 then L.chg PT.lostAll (L.hits m.d)
 else if m.k=10 then L.chg (fun q=>q.turnedBy (L.sideN m.b) m.n) (L.ts.filter (inBox m.b))
 else if m.k=11 then L.chg (fun q=>q.flippedIn (L.sideN m.b)) (L.ts.filter (inBox m.b))
 else L
def contQ (l:List TN):List Int:=l.flatMap fun t=>[(t.1:Int),(t.2.x:Int),(t.2.y:Int)]
def tell:List Int :=
 if m.k=9 then [((L.hits m.d).length:Int)]
 else if m.k=12 then showQ (L.tubeD m.t)
 else if m.k=13 then contQ (L.ts.filter (inBox m.b))
 else if m.k=14 then ofN m.d L.ts
 else if m.k=15 then natsI (memG (kinS (upS (single m.t) L.ps) m.t))
 else if m.k=16 then natsI (memG (kinS (downS (single m.t) L.ps) m.t))
 else []
end Led
end
section
open Go.RowKit Go.Shelf
theorem has_new_lt (w:World) (m:Cm):w.heap.size<(w.alloc (.cells #[.int .i64 m.k,.int .i64 m.t,.int .i64 m.o,.int .i64 m.d,.int .i64 m.v,.int .i64 m.b,.int .i64 m.x,.int .i64 m.y,.int .i64 m.n] 31)).heap.size:=by simp
theorem Run.makeFunc (fn:Fn) (first cap:Array Value) (w:World):(Instr.makeFunc fn first cap).run prog w=.ok (.func fn first cap) w:=rfl
theorem move_any (n₀ b:Nat) (m:Cm) (hm:m.Ok) (ht:1<=m.t) (L:Led) (w:World) (hT:TxL n₀ w b L) (hf:L.kvs.length+1<7000) (q:PT) (hq:L.tube m.t=some q) (hg:(q.stored m.b m.x m.y).Good) :
  Calls prog 107 #[.pointer (some ⟨b,0,none⟩),m.val] w (PutL b (L.putT m.t (q.stored m.b m.x m.y)) w):=by
 have hmf:=Run.makeFunc
 have hC0:=Cm.has_new w 31 m
 have hl0:=has_new_lt w m
 have hb0:=Cm.hb w m
 have HC:=hid (change_led n₀ b m.t 154 #[.pointer (some ⟨w.heap.size,0,none⟩)] q _ hg L _ (hT.below hb0) ⟨ht,hm.t⟩ hf hq (enters_of func154 (by kernel_rfl) rfl) (move_turns hC0 hl0 rfl rfl rfl (by have:=hm.x;omega) (by have:=hm.y;omega)))
 have HB:=hid hb0
 unfold Cm.val
 clear hT hC0 hb0 hl0
 go_enter func107,ntmps107
 go_wp2_with (go_at_call 153;refine HC.out.mono ?_;clear HC;intro e w2 hP;have he:=hP.1;subst he)
 go_end0
 exact hP.from HB.out
theorem use_any (n₀ b:Nat) (m:Cm) (hm:m.Ok) (ht:1<=m.t) (L:Led) (w:World) (hT:TxL n₀ w b L) (hf:L.kvs.length+1<7000) (q:PT) (hq:L.tube m.t=some q) (hv:m.v<=q.left) (hg:(q.usedBy m.v).Good) :
  Calls prog 110 #[.pointer (some ⟨b,0,none⟩),m.val] w (PutL b (L.putT m.t (q.usedBy m.v)) w):=by
 have hmf:=Run.makeFunc
 have hC0:=Cm.has_new w 31 m
 have hl0:=has_new_lt w m
 have hb0:=Cm.hb w m
 have HC:=hid (change_led n₀ b m.t 158 #[.pointer (some ⟨w.heap.size,0,none⟩)] q _ hg L _ (hT.below hb0) ⟨ht,hm.t⟩ hf hq (enters_of func158 (by kernel_rfl) rfl) (use_turns hC0 hl0 rfl hv ((hT.ok.t1 _ ((Led.tube_mem hT.ok).1 hq)).2.2.ok)))
 have HB:=hid hb0
 unfold Cm.val
 clear hT hC0 hb0 hl0
 go_enter func110,ntmps110
 go_wp2_with (go_at_call 153;refine HC.out.mono ?_;clear HC;intro e w2 hP;have he:=hP.1;subst he)
 go_end0
 exact hP.from HB.out
theorem take_any (n₀ b:Nat) (m:Cm) (hm:m.Ok) (ht:1<=m.t) (L:Led) (w:World) (hT:TxL n₀ w b L) (hf:L.kvs.length+1<7000) (q:PT) (hq:L.tube m.t=some q) (hg:(q.gone 2).Good) :
  Calls prog 111 #[.pointer (some ⟨b,0,none⟩),m.val] w (PutL b (L.putT m.t (q.gone 2)) w):=by
 have hmf:=Run.makeFunc
 have hb0:=Cm.hb w m
 have HC:=hid (change_led n₀ b m.t 159 #[] q _ hg L _ (hT.below hb0) ⟨ht,hm.t⟩ hf hq (enters_of func159 (by kernel_rfl) rfl) take_turns)
 have HB:=hid hb0
 unfold Cm.val
 clear hT hb0
 go_enter func111,ntmps111
 go_wp2_with (go_at_call 153;refine HC.out.mono ?_;clear HC;intro e w2 hP;have he:=hP.1;subst he)
 go_end0
 exact hP.from HB.out
theorem give_any (n₀ b:Nat) (m:Cm) (hm:m.Ok) (ht:1<=m.t) (L:Led) (w:World) (hT:TxL n₀ w b L) (hf:L.kvs.length+1<7000) (q:PT) (hq:L.tube m.t=some q) (hg:(q.backAt m.b m.x m.y).Good) :
  Calls prog 112 #[.pointer (some ⟨b,0,none⟩),m.val] w (PutL b (L.putT m.t (q.backAt m.b m.x m.y)) w):=by
 have hmf:=Run.makeFunc
 have hC0:=Cm.has_new w 31 m
 have hl0:=has_new_lt w m
 have hb0:=Cm.hb w m
 have HC:=hid (change_led n₀ b m.t 161 #[.pointer (some ⟨w.heap.size,0,none⟩)] q _ hg L _ (hT.below hb0) ⟨ht,hm.t⟩ hf hq (enters_of func161 (by kernel_rfl) rfl) (give_turns ((hT.ok.t1 _ ((Led.tube_mem hT.ok).1 hq)).2.2.ok) hC0 hl0 rfl rfl rfl (by have:=hm.x;omega) (by have:=hm.y;omega)))
 have HB:=hid hb0
 unfold Cm.val
 clear hT hC0 hb0 hl0
 go_enter func112,ntmps112
 go_wp2_with (go_at_call 153;refine HC.out.mono ?_;clear HC;intro e w2 hP;have he:=hP.1;subst he)
 go_end0
 exact hP.from HB.out
end
section
open Go.RowKit Go.Shelf
theorem Led.putT_tube (L:Led) (n k:Nat) (q:PT):(L.putT n q).tube k=if k=n then some q else L.tube k:=Led.tube_insT L n k q
theorem Led.putT_len (L:Led) (n:Nat) (q:PT):(L.putT n q).kvs.length<=L.kvs.length+1:=by
 have:=insT_len L.ts n q
 rw [Led.len,Led.len];simp only [Led.putT];omega
theorem pour_any (n₀ b:Nat) (m:Cm) (hm:m.Ok) (ht:1<=m.t/\m.t<m.o) (hv1:1<=m.v) (L:Led) (w:World) (hT:TxL n₀ w b L) (hf:L.kvs.length+3<7000) (q q2:PT) (hq:L.tube m.t=some q) (hq2:L.tube m.o=some q2)
  (hv:m.v<=q.left) (hg2:q2.left+m.v<=1000000) (hp:L.pouredN m.t m.o+m.v<=1000000) :
  Calls prog 109 #[.pointer (some ⟨b,0,none⟩),m.val] w (PutL b (L.pourL m) w):=by
 have hmf:=Run.makeFunc
 have hC0:=Cm.has_new w 31 m
 have hl0:=has_new_lt w m
 have hb0:=Cm.hb w m
 have hbl:b<w.heap.size:=by obtain ⟨⟨⟨r,hB,hI⟩,hf⟩,_,_⟩:=hT;exact hB.lt
 have hGq:q.Good:=(hT.ok.t1 _ ((Led.tube_mem hT.ok).1 hq)).2.2
 have hGq2:q2.Good:=(hT.ok.t1 _ ((Led.tube_mem hT.ok).1 hq2)).2.2
 have hG1:(q.less m.v).Good:=⟨hGq.x,hGq.y,hGq.box,hGq.donor,hGq.status,hGq.thaws,hGq.began,by have:=hGq.left;show q.left - m.v<=1000000;omega,hGq.used,hGq.lost⟩
 have hG2:(q2.more m.v).Good:=⟨hGq2.x,hGq2.y,hGq2.box,hGq2.donor,hGq2.status,hGq2.thaws,hGq2.began,hg2,hGq2.used,hGq2.lost⟩
 have hmt:=hm.t
 have hmo:=hm.o
 have hmv:=hm.v
 have eD:L.tubeD m.t=q:=by unfold Led.tubeD;rw [hq];rfl
 have e1:(L.putT m.t (q.less m.v)).tube m.o=some q2:=by rw [Led.putT_tube,if_neg (by omega)];exact hq2
 have eD1:(L.putT m.t (q.less m.v)).tubeD m.o=q2:=by unfold Led.tubeD;rw [e1];rfl
 have hlen1:=Led.putT_len L m.t (q.less m.v)
 have hlen2:=Led.putT_len (L.putT m.t (q.less m.v)) m.o (q2.more m.v)
 have HC1:=hid (change_led n₀ b m.t 155 #[.pointer (some ⟨w.heap.size,0,none⟩)] q (q.less m.v) hG1 L _ (hT.below hb0) ⟨ht.1,hmt⟩ (by omega) hq (enters_of func155 (by kernel_rfl) rfl) (pour1_turns hC0 hl0 rfl hv hGq.ok))
 have HC2:=hid (fun u (hu:TxL u.heap.size u b (L.putT m.t (q.less m.v))) (hc:Has u w.heap.size m.ints) (hl:w.heap.size<u.heap.size)=>change_led u.heap.size b m.o 156 #[.pointer (some ⟨w.heap.size,0,none⟩)] q2 (q2.more m.v) hG2 (L.putT m.t (q.less m.v)) u hu ⟨by omega,hmo⟩ (by omega) e1 (enters_of func156 (by kernel_rfl) rfl) (pour2_turns hc hl rfl (by omega) hGq2.ok))
 have HP:=hid (fun n₁ u (hu:TxL n₁ u b ((L.putT m.t (q.less m.v)).putT m.o (q2.more m.v)))=>poured_led n₁ b m.t m.o _ u hu (by omega) (by omega))
 have HS:=hid (fun n₁ u (hu:TxL n₁ u b ((L.putT m.t (q.less m.v)).putT m.o (q2.more m.v)))=>setPoured_led n₁ b m.t m.o (L.pouredN m.t m.o+m.v) _ u hu ⟨ht.1,ht.2,hmo⟩ ⟨by omega,hp⟩ (by omega))
 have HE:=hid (show L.pourL m={ ((L.putT m.t (q.less m.v)).putT m.o (q2.more m.v)) with ps:=insP ((L.putT m.t (q.less m.v)).putT m.o (q2.more m.v)).ps m.t m.o (L.pouredN m.t m.o+m.v) } by
  show ({ ((L.putT m.t ((L.tubeD m.t).less m.v)).putT m.o (((L.putT m.t ((L.tubeD m.t).less m.v)).tubeD m.o).more m.v)) with ps:=_ }:Led)=_
  rw [eD,eD1];rfl)
 have hpn:((L.putT m.t (q.less m.v)).putT m.o (q2.more m.v)).pouredN m.t m.o=L.pouredN m.t m.o:=rfl
 have HPn:=hid hpn
 have HB:=hid hb0
 have HCm:=hid hC0
 have hwr:IntKind.i64.wrap ((L.pouredN m.t m.o:Int)+(m.v:Int))=((L.pouredN m.t m.o+m.v:Nat):Int):=by rw [wraps63 _ (by omega) (by omega)];omega
 clear hT hC0 hb0 hGq hGq2 hG1 hG2 eD e1 eD1 hpn hlen1 hlen2 hq hq2
 generalize L.pouredN m.t m.o=pd at *
 obtain ⟨L2,hL2⟩:∃ L2,L2=(L.putT m.t (q.less m.v)).putT m.o (q2.more m.v):=⟨_,rfl⟩
 rw [<- hL2] at HP HS HE HPn
 have HL2:=hid hL2
 clear hL2
 unfold Cm.val
 go_enter func109,ntmps109
 go_wp2_with fail
 refine HC1.out.mono ?_
 clear HC1
 rintro e w1 ⟨rfl,hT1,hk1⟩
 have hc1:=has_keeps HCm.out hk1 hl0 (by show w.heap.size≠b;omega)
 have hl1:w.heap.size<w1.heap.size:=Nat.lt_of_lt_of_le hl0 hk1.size
 have c2:=hc1.1 2 (by omega)
 simp only [Cm.ints] at c2
 have HK1:=hid ((below_toKeeps HB.out (fun g=>g=b)).trans hk1)
 have HH1:=hid hc1
 clear hk1 HB HCm hc1
 go_wp2_with fail
 refine (HC2.out w1 hT1 HH1.out hl1).mono ?_
 clear HC2 hT1 c2
 rintro e w2 ⟨rfl,hT2,hk2⟩
 have hc2:=has_keeps HH1.out hk2 hl1 (by show w.heap.size≠b;omega)
 have hl2:w.heap.size<w2.heap.size:=Nat.lt_of_lt_of_le hl1 hk2.size
 have c1:=hc2.1 1 (by omega)
 have c2:=hc2.1 2 (by omega)
 have c4:=hc2.1 4 (by omega)
 simp only [Cm.ints] at c1 c2 c4
 have HK2:=hid (HK1.out.trans hk2)
 have HT2:Hid (TxL w2.heap.size w2 b L2):=hid (by rw [HL2.out];exact hT2)
 have hPn:=HPn.out
 have hne:w.heap.size≠b:=by omega
 clear hk2 HK1 HH1 hc2 hT2 hl1 hl0 HPn
 go_wp2_with fail
 go_region_held3 (fun u=>u.cell? ⟨w.heap.size,1,none⟩=some (.int .i64 m.t)/\u.cell? ⟨w.heap.size,2,none⟩=some (.int .i64 m.o)/\u.cell? ⟨w.heap.size,4,none⟩=some (.int .i64 m.v)) (go_keep) (first
  | (go_at_call 145;refine (HP.out w2.heap.size w2.drew (HT2.out.below ((Below.refl _ _).drew))).mono ?_;rintro e w3 ⟨rfl,hb3⟩;rw [hPn];have c1:=(hb3.cell (p:=⟨w.heap.size,1,none⟩) hl2).trans c1;have c2:=(hb3.cell (p:=⟨w.heap.size,2,none⟩) hl2).trans c2;have c4:=(hb3.cell (p:=⟨w.heap.size,4,none⟩) hl2).trans c4;have hl3:w.heap.size<w3.heap.size:=Nat.lt_of_lt_of_le hl2 hb3.size;have HT3:=hid (TxL.below (HT2.out.below ((Below.refl _ _).drew)) hb3);have HK3:=hid ((HK2.out.drew).trans (below_toKeeps hb3 (fun g=>g=b)));clear hb3)
  | (go_at_call 157;refine (HS.out _ _ HT3.out).mono ?_;rintro e w4 ⟨rfl,hT4,hk4⟩;have c1:=(hk4.cell (p:=⟨w.heap.size,1,none⟩) hl3 hne).trans c1;have c2:=(hk4.cell (p:=⟨w.heap.size,2,none⟩) hl3 hne).trans c2;have c4:=(hk4.cell (p:=⟨w.heap.size,4,none⟩) hl3 hne).trans c4;have HT4:=hid hT4;have HK4:=hid hk4;clear hT4 hk4))
 all_goals
  go_end0
  exact ⟨rfl,by rw [HE.out];exact HT4.out,HK3.out.trans HK4.out⟩
end
section
open Go.RowKit Go.Shelf
attribute [local go_sem] run_store_cplx
theorem register_any (n₀ b:Nat) (m:Cm) (hm:m.Ok) (ht:1<=m.t) (hd:1<=m.d) (L:Led) (w:World) (hT:TxL n₀ w b L) (hf:L.kvs.length+1<7000) :
  Calls prog 106 #[.pointer (some ⟨b,0,none⟩),m.val] w (PutL b (L.putT m.t ⟨m.x,m.y,m.b,m.d,1,0,m.v,m.v,0,0⟩) w):=by
 have hbl:b<w.heap.size:=by obtain ⟨⟨⟨r,hB,hI⟩,hf⟩,_,_⟩:=hT;exact hB.lt
 have hmx:=hm.x
 have hmy:=hm.y
 have hC0:=Cm.has_new w 31 m
 have hl0:=has_new_lt w m
 have hs0:=Cm.hs w m
 have hb0:=Cm.hb w m
 have hpl:=@placeAt_any m.x m.y (by omega) (by omega)
 have hC1:=hC0.alloc hl0 (.cells #[.complex .f64 0 0,.int .i64 0,.int .i64 m.d,.int .i64 0,.int .i64 0,.int .i64 m.v,.int .i64 m.v,.int .i64 0,.int .i64 0] 216)
 have hb1:=hb0.alloc (by omega) (.cells #[.complex .f64 0 0,.int .i64 0,.int .i64 m.d,.int .i64 0,.int .i64 0,.int .i64 m.v,.int .i64 m.v,.int .i64 0,.int .i64 0] 216)
 have hX:=World.alloc_heap_new (w.alloc (.cells #[.int .i64 m.k,.int .i64 m.t,.int .i64 m.o,.int .i64 m.d,.int .i64 m.v,.int .i64 m.b,.int .i64 m.x,.int .i64 m.y,.int .i64 m.n] 31)) (.cells #[.complex .f64 0 0,.int .i64 0,.int .i64 m.d,.int .i64 0,.int .i64 0,.int .i64 m.v,.int .i64 m.v,.int .i64 0,.int .i64 0] 216)
 rw [hs0] at hX
 have hX':RecBox ((w.alloc (.cells #[.int .i64 m.k,.int .i64 m.t,.int .i64 m.o,.int .i64 m.d,.int .i64 m.v,.int .i64 m.b,.int .i64 m.x,.int .i64 m.y,.int .i64 m.n] 31)).alloc (.cells #[.complex .f64 0 0,.int .i64 0,.int .i64 m.d,.int .i64 0,.int .i64 0,.int .i64 m.v,.int .i64 m.v,.int .i64 0,.int .i64 0] 216)) (w.heap.size+1) (⟨0,0,0,m.d,0,0,m.v,m.v,0,0⟩:PT).cells:=hX
 have hl1:w.heap.size+1<((w.alloc (.cells #[.int .i64 m.k,.int .i64 m.t,.int .i64 m.o,.int .i64 m.d,.int .i64 m.v,.int .i64 m.b,.int .i64 m.x,.int .i64 m.y,.int .i64 m.n] 31)).alloc (.cells #[.complex .f64 0 0,.int .i64 0,.int .i64 m.d,.int .i64 0,.int .i64 0,.int .i64 m.v,.int .i64 m.v,.int .i64 0,.int .i64 0] 216)).heap.size:=by simp
 have hG:(⟨m.x,m.y,m.b,m.d,1,0,m.v,m.v,0,0⟩:PT).Good:=by
  have h1:=hm.b;have h2:=hm.d;have h3:=hm.v
  constructor <;> simp only <;> omega
 have HSt:Hid (∀ u,Below w.heap.size w u->Calls prog 152 #[.pointer (some ⟨b,0,none⟩),.int .i64 m.t,.agg #[.complex .f64 (fl m.x) (fl m.y),.int .i64 m.b,.int .i64 m.d,.int .i64 1,.int .i64 0,.int .i64 m.v,.int .i64 m.v,.int .i64 0,.int .i64 0]] u (PutL b (L.putT m.t ⟨m.x,m.y,m.b,m.d,1,0,m.v,m.v,0,0⟩) u)) :=
  hid (fun u hu=>setTube_led n₀ b m.t ⟨m.x,m.y,m.b,m.d,1,0,m.v,m.v,0,0⟩ hG L u (hT.below hu) ⟨ht,hm.t⟩ hf)
 simp only [pl] at hpl
 unfold Cm.val
 go_enter func106,ntmps106
 go_upto_region 2 with fail
 generalize ((w.alloc (.cells #[.int .i64 m.k,.int .i64 m.t,.int .i64 m.o,.int .i64 m.d,.int .i64 m.v,.int .i64 m.b,.int .i64 m.x,.int .i64 m.y,.int .i64 m.n] 31)).alloc (.cells #[.complex .f64 0 0,.int .i64 0,.int .i64 m.d,.int .i64 0,.int .i64 0,.int .i64 m.v,.int .i64 m.v,.int .i64 0,.int .i64 0] 216))=w1 at *
 have c1:=hC1.1 1 (by omega)
 have c5:=hC1.1 5 (by omega)
 have c6:=hC1.1 6 (by omega)
 have c7:=hC1.1 7 (by omega)
 simp only [Cm.ints] at c1 c5 c6 c7
 have HS:=hid (store_any (w.heap.size+1) _ m.b m.x m.y w1.drew hX')
 simp only [pl] at HS
 have HB1:=hid hb1
 clear hX hX' hC1 hC0 hb0 hb1 hs0 hT
 go_region_held3 (fun u=>u.cell? ⟨w.heap.size,1,none⟩=some (.int .i64 m.t)/\u.cell? ⟨w.heap.size,5,none⟩=some (.int .i64 m.b)/\u.cell? ⟨w.heap.size,6,none⟩=some (.int .i64 m.x)/\u.cell? ⟨w.heap.size,7,none⟩=some (.int .i64 m.y)) (go_keep) (first
  | (go_at_call 147;refine (hpl _).mono ?_;rintro e w' ⟨rfl,rfl⟩)
  | (go_at_call 151;refine HS.out.mono ?_;rintro e w2 ⟨rfl,hr2,hk2⟩;have c1:=(hk2.cell (p:=⟨w.heap.size,1,none⟩) (by show w.heap.size<w1.heap.size;omega) (by show w.heap.size≠w.heap.size+1;omega)).trans c1;have c5:=(hk2.cell (p:=⟨w.heap.size,5,none⟩) (by show w.heap.size<w1.heap.size;omega) (by show w.heap.size≠w.heap.size+1;omega)).trans c5;have c6:=(hk2.cell (p:=⟨w.heap.size,6,none⟩) (by show w.heap.size<w1.heap.size;omega) (by show w.heap.size≠w.heap.size+1;omega)).trans c6;have c7:=(hk2.cell (p:=⟨w.heap.size,7,none⟩) (by show w.heap.size<w1.heap.size;omega) (by show w.heap.size≠w.heap.size+1;omega)).trans c7;have HR2:=hid hr2;have HK2:=hid hk2;clear hr2 hk2))
 all_goals
  obtain ⟨d0,d1,d2,d3,d4,d5,d6,d7,d8⟩:=HR2.out.cells
  simp only [PT.stored] at d0 d1 d2 d3 d4 d5 d6 d7 d8
  have HB2:=hid (HB1.out.drew.trans (HK2.out.toBelow (fun k h=>by omega) (by have:=HB1.out.size;exact this)))
  clear HR2 HK2 HS HB1
  go_wp2_with (go_at_call 152;refine (HSt.out _ HB2.out).mono ?_;clear HSt;intro e w4 hP;have he:=hP.1;subst he)
  go_end0
  exact hP.from HB2.out
end
section
open Go.RowKit Go.Shelf
attribute [local go_sem] run_store_cplx
theorem aliquot_any (n₀ b:Nat) (m:Cm) (hm:m.Ok) (ht:1<=m.t/\m.t<m.o) (hv1:1<=m.v) (L:Led) (w:World) (hT:TxL n₀ w b L) (hf:L.kvs.length+4<7000) (q:PT) (hq:L.tube m.t=some q) (hv:m.v<=q.left) (hp:L.pouredN m.t m.o+m.v<=1000000) :
  Calls prog 108 #[.pointer (some ⟨b,0,none⟩),m.val] w (PutL b ((L.putT m.o ⟨m.x,m.y,m.b,q.donor,1,0,0,0,0,0⟩).pourL m) w):=by
 have hbl:b<w.heap.size:=by obtain ⟨⟨⟨r,hB,hI⟩,hf⟩,_,_⟩:=hT;exact hB.lt
 have hmx:=hm.x
 have hmy:=hm.y
 have hmo:=hm.o
 have hmv:=hm.v
 have hC0:=Cm.has_new w 31 m
 have hl0:=has_new_lt w m
 have hb0:=Cm.hb w m
 have hpl:=@placeAt_any m.x m.y (by omega) (by omega)
 have hqG:q.Good:=(hT.ok.t1 _ ((Led.tube_mem hT.ok).1 hq)).2.2
 have hqD:L.tubeD m.t=q:=by unfold Led.tubeD;rw [hq];rfl
 have HTu:=hid (tube_led n₀ b m.t L _ (hT.below hb0) (by have:=hm.t;omega))
 rw [hqD,hq] at HTu
 have hG:(⟨m.x,m.y,m.b,q.donor,1,0,0,0,0,0⟩:PT).Good:=by
  have h1:=hm.b;have h2:=hqG.donor
  constructor <;> simp only <;> omega
 have HSt:Hid (∀ u,Below w.heap.size w u->Calls prog 152 #[.pointer (some ⟨b,0,none⟩),.int .i64 m.o,.agg #[.complex .f64 (fl m.x) (fl m.y),.int .i64 m.b,.int .i64 q.donor,.int .i64 1,.int .i64 0,.int .i64 0,.int .i64 0,.int .i64 0,.int .i64 0]] u (PutL b (L.putT m.o ⟨m.x,m.y,m.b,q.donor,1,0,0,0,0,0⟩) u)) :=
  hid (fun u hu=>setTube_led n₀ b m.o ⟨m.x,m.y,m.b,q.donor,1,0,0,0,0,0⟩ hG L u (hT.below hu) ⟨by omega,hmo⟩ (by omega))
 have hlen:=Led.putT_len L m.o ⟨m.x,m.y,m.b,q.donor,1,0,0,0,0,0⟩
 have HPo:=hid (fun n₁ u (hu:TxL n₁ u b (L.putT m.o ⟨m.x,m.y,m.b,q.donor,1,0,0,0,0,0⟩))=>pour_any n₁ b m hm ht hv1 _ u hu (by omega) q ⟨m.x,m.y,m.b,q.donor,1,0,0,0,0,0⟩ (by rw [Led.putT_tube,if_neg (by omega)];exact hq) (by rw [Led.putT_tube,if_pos rfl]) hv (by simp only;omega) (by exact hp))
 simp only [pl,PT.val,PT.cells,Option.isSome_some] at hpl HTu
 unfold Cm.val at *
 have HC0:=hid hC0
 have HB0:=hid hb0
 clear hT hC0 hb0 hG hqG hqD hlen hq
 go_enter func108,ntmps108
 go_wp2_with fail
 refine HTu.out.mono ?_
 clear HTu
 rintro e w1 ⟨rfl,hb1⟩
 have hs1:w.heap.size+1<=w1.heap.size:=by have:=hb1.size;simp at this;exact this
 have hC1:=HC0.out.below hb1 hl0
 have hB1:Below w.heap.size w w1:=HB0.out.trans (hb1.mono (by omega))
 have hbA:Below w1.heap.size w1 (w1.alloc (.cells #[.complex .f64 (fl q.x) (fl q.y),.int .i64 q.box,.int .i64 q.donor,.int .i64 q.status,.int .i64 q.thaws,.int .i64 q.began,.int .i64 q.left,.int .i64 q.used,.int .i64 q.lost] 216)):=(Below.refl _ w1).alloc nlr _
 have hsA:(w1.alloc (.cells #[.complex .f64 (fl q.x) (fl q.y),.int .i64 q.box,.int .i64 q.donor,.int .i64 q.status,.int .i64 q.thaws,.int .i64 q.began,.int .i64 q.left,.int .i64 q.used,.int .i64 q.lost] 216)).heap.size=w1.heap.size+1:=by simp
 have hbB:Below w1.heap.size w1 ((w1.alloc (.cells #[.complex .f64 (fl q.x) (fl q.y),.int .i64 q.box,.int .i64 q.donor,.int .i64 q.status,.int .i64 q.thaws,.int .i64 q.began,.int .i64 q.left,.int .i64 q.used,.int .i64 q.lost] 216)).alloc (.cells #[.complex .f64 0 0,.int .i64 0,.int .i64 q.donor,.int .i64 0,.int .i64 0,.int .i64 0,.int .i64 0,.int .i64 0,.int .i64 0] 216)):=hbA.alloc (by omega) _
 have hX:=World.alloc_heap_new (w1.alloc (.cells #[.complex .f64 (fl q.x) (fl q.y),.int .i64 q.box,.int .i64 q.donor,.int .i64 q.status,.int .i64 q.thaws,.int .i64 q.began,.int .i64 q.left,.int .i64 q.used,.int .i64 q.lost] 216)) (.cells #[.complex .f64 0 0,.int .i64 0,.int .i64 q.donor,.int .i64 0,.int .i64 0,.int .i64 0,.int .i64 0,.int .i64 0,.int .i64 0] 216)
 rw [hsA] at hX
 have hX':RecBox ((w1.alloc (.cells #[.complex .f64 (fl q.x) (fl q.y),.int .i64 q.box,.int .i64 q.donor,.int .i64 q.status,.int .i64 q.thaws,.int .i64 q.began,.int .i64 q.left,.int .i64 q.used,.int .i64 q.lost] 216)).alloc (.cells #[.complex .f64 0 0,.int .i64 0,.int .i64 q.donor,.int .i64 0,.int .i64 0,.int .i64 0,.int .i64 0,.int .i64 0,.int .i64 0] 216)) (w1.heap.size+1) (⟨0,0,0,q.donor,0,0,0,0,0,0⟩:PT).cells:=hX
 have hl1:w1.heap.size+1<((w1.alloc (.cells #[.complex .f64 (fl q.x) (fl q.y),.int .i64 q.box,.int .i64 q.donor,.int .i64 q.status,.int .i64 q.thaws,.int .i64 q.began,.int .i64 q.left,.int .i64 q.used,.int .i64 q.lost] 216)).alloc (.cells #[.complex .f64 0 0,.int .i64 0,.int .i64 q.donor,.int .i64 0,.int .i64 0,.int .i64 0,.int .i64 0,.int .i64 0,.int .i64 0] 216)).heap.size:=by simp
 have hC2:=hC1.below hbB (by omega)
 have hB2:=hB1.trans (hbB.mono (by omega))
 have HB2:=hid hB2
 have HC2:=hid hC2
 have HX:=hid hX'
 clear hX hX' hC2 hB2 hbB hsA hbA hB1 hC1 hb1 HB0 HC0
 go_upto_region 3 with fail
 generalize ((w1.alloc (.cells #[.complex .f64 (fl q.x) (fl q.y),.int .i64 q.box,.int .i64 q.donor,.int .i64 q.status,.int .i64 q.thaws,.int .i64 q.began,.int .i64 q.left,.int .i64 q.used,.int .i64 q.lost] 216)).alloc (.cells #[.complex .f64 0 0,.int .i64 0,.int .i64 q.donor,.int .i64 0,.int .i64 0,.int .i64 0,.int .i64 0,.int .i64 0,.int .i64 0] 216))=w2 at *
 obtain ⟨c0,c1,c2,c3,c4,c5,c6,c7,c8⟩:=all9.1 HC2.out.1
 simp only [Cm.ints] at c0 c1 c2 c3 c4 c5 c6 c7 c8
 have HS:=hid (store_any (w1.heap.size+1) _ m.b m.x m.y w2.drew HX.out)
 simp only [pl] at HS
 clear HX
 have hlt:w.heap.size<w2.heap.size:=by omega
 have hne:w.heap.size≠w1.heap.size+1:=by omega
 go_region_held3 (fun u=>u.cell? ⟨w.heap.size,5,none⟩=some (.int .i64 m.b)/\u.cell? ⟨w.heap.size,6,none⟩=some (.int .i64 m.x)/\u.cell? ⟨w.heap.size,7,none⟩=some (.int .i64 m.y)) (go_keep) (first
  | (go_at_call 147;refine (hpl _).mono ?_;rintro e w' ⟨rfl,rfl⟩)
  | (go_at_call 151;refine HS.out.mono ?_;rintro e w3 ⟨rfl,hr2,hk2⟩;have c5:=(hk2.cell (p:=⟨w.heap.size,5,none⟩) hlt hne).trans c5;have c6:=(hk2.cell (p:=⟨w.heap.size,6,none⟩) hlt hne).trans c6;have c7:=(hk2.cell (p:=⟨w.heap.size,7,none⟩) hlt hne).trans c7;have HR2:=hid hr2;have HK2:=hid hk2;clear hr2 hk2))
 all_goals
  obtain ⟨d0,d1,d2,d3,d4,d5,d6,d7,d8⟩:=HR2.out.cells
  simp only [PT.stored] at d0 d1 d2 d3 d4 d5 d6 d7 d8
  have HB3:=hid (HB2.out.drew.trans (HK2.out.toBelow (fun k h=>by omega) (by have:=HB2.out.size;exact this)))
  have HC3:=hid (has_keeps (w:=w2.drew) HC2.out HK2.out hlt hne)
  have hlt3:w.heap.size<w3.heap.size:=Nat.lt_of_lt_of_le hlt HK2.out.size
  clear HR2 HK2 HS HB2 HC2 c0 c1 c2 c3 c4 c5 c6 c7 c8
  have c2:=HC3.out.1 2 (by omega)
  simp only [Cm.ints] at c2
  go_wp2_with fail
  refine (HSt.out _ HB3.out).mono ?_
  clear HSt d0 d1 d2 d3 d4 d5 d6 d7 d8 c2
  rintro e w4 ⟨rfl,hT4,hk4⟩
  have HC4:=hid (has_keeps HC3.out hk4 hlt3 (by show w.heap.size≠b;omega))
  have HK4:=hid ((below_toKeeps HB3.out (fun g=>g=b)).trans hk4)
  obtain ⟨c0,c1,c2,c3,c4,c5,c6,c7,c8⟩:=all9.1 HC4.out.1
  simp only [Cm.ints] at c0 c1 c2 c3 c4 c5 c6 c7 c8
  clear HC4 HC3 HB3 hk4
  go_wp2_with fail
  refine (HPo.out _ _ hT4).mono ?_
  clear HPo c0 c1 c2 c3 c4 c5 c6 c7 c8
  rintro e w5 ⟨rfl,hT5,hk5⟩
  go_wp2_with fail
  go_end0
  exact ⟨rfl,hT5,HK4.out.trans hk5⟩
end
section
open Go.RowKit Go.Shelf
namespace Led
theorem chg_append (L:Led) (f:PT->PT) (pre:List TN) (x:TN):L.chg f (pre++[x])=(L.chg f pre).putT x.1 (f x.2):=by simp [chg]
theorem chg_cons (L:Led) (f:PT->PT) (pre:List TN) (x:TN):L.chg f (x::pre)=(L.putT x.1 (f x.2)).chg f pre:=by simp [chg]
theorem chg_out (f:PT->PT) (n:Nat):∀ (pre:List TN) (L:Led),(∀ t∈pre,t.1≠n)->(L.chg f pre).tube n=L.tube n
 | [],_,_=>rfl
 | x::pre,L,h=>by
  rw [chg_cons,chg_out f n pre _ (fun t ht=>h t (List.mem_cons_of_mem _ ht)),putT_tube,if_neg (fun e=>h x (List.mem_cons_self ..) e.symm)]
theorem chg_ok (f:PT->PT):∀ (pre:List TN) (L:Led),L.Ok->(∀ t∈pre,1<=t.1/\t.1<=999/\(f t.2).Good)->(L.chg f pre).Ok
 | [],_,h,_=>h
 | x::pre,L,h,hp=>by
  rw [chg_cons]
  have hx:=hp x (List.mem_cons_self ..)
  exact chg_ok f pre _ (h.insT ⟨hx.1,hx.2.1⟩ hx.2.2) (fun t ht=>hp t (List.mem_cons_of_mem _ ht))
theorem chg_len (f:PT->PT):∀ (pre:List TN) (L:Led),(L.chg f pre).kvs.length<=L.kvs.length+pre.length
 | [],_=>Nat.le_refl _
 | x::pre,L=>by
  rw [chg_cons]
  have h1:=chg_len f pre (L.putT x.1 (f x.2))
  have h2:=putT_len L x.1 (f x.2)
  simp only [List.length_cons];omega
end Led
theorem noNode_of {W:World} {g:Nat} {o:Obj} (h:W.heap[g]? = some o) (hc:o.isCells=false):NoNode W g:=by
 have e:∀ i,W.cell? ⟨g,i,none⟩=none:=fun i=>by
  simp only [World.cell?,h]
  cases o <;> first | rfl | cases hc
 refine ⟨fun s l c h => ?_,fun o k h => ?_⟩
 ·rw [e] at h;cases h
 ·rw [e] at h;cases h
theorem own_txl {n₁ b:Nat} {L:Led} {W W':World} {row:Option Nat} {B:Nat} (h:TxL n₁ W b L) (hg:W.grownBy W' row) (hr:∀ r,row=some r->B<=r/\∃ o:Obj,W.heap[r]? = some o/\o.isCells=false):TxL n₁ W' b L:=by
 obtain ⟨⟨⟨rt,h1,h2⟩,h3⟩,h4,h5⟩:=h
 refine ⟨⟨⟨rt,own_blk h1 hg hr,?_⟩,h3⟩,h4,h5⟩
 refine h2.keptX (X:=fun g=>row=some g) hg.size (fun g o v hX hc => ?_) (fun g hX => ?_)
 ·have hl:g<W.heap.size:=by
   rcases Nat.lt_or_ge g W.heap.size with h | h
   ·exact h
   ·simp only [World.cell?,Array.getElem?_eq_none h] at hc;cases hc
  rw [World.cell?_of_block (w:=W) (hg.block g hl (fun e=>hX e.symm))];exact hc
 ·obtain ⟨_,o,ho,hc⟩:=hr g hX
  exact noNode_of ho hc
structure Sel (L:Led) (l:List TN):Prop where
 mem:∀ t∈l,t∈L.ts
 pw:l.Pairwise fun a b=>a.1<b.1
theorem Sel.filter {L:Led} (h:L.Ok) (p:TN->Bool):Sel L (L.ts.filter p):=⟨fun _ ht=>(List.mem_filter.1 ht).1,h.ts.filter p⟩
theorem Sel.next {L:Led} (hL:L.Ok) {l pre:List TN} {x:TN} (h:Sel L l) (hp:(pre++[x]) <+: l) (f:PT->PT):(L.chg f pre).tube x.1=some x.2:=by
 have hpw:(pre++[x]).Pairwise fun a b:TN=>a.1<b.1:=h.pw.sublist hp.sublist
 rw [Led.chg_out f x.1 pre L (fun t ht=>by
  have:=(List.pairwise_append.1 hpw).2.2 t ht x (by simp);omega)]
 exact (Led.tube_mem hL).2 (h.mem x (hp.subset (by simp)))
end
section
open Go.RowKit Go.Shelf
attribute [local go_sem] Oper.semAt_some
theorem turn_any (n₀ b:Nat) (m:Cm) (hm:m.Ok) (L:Led) (w:World) (hT:TxL n₀ w b L) (hnb:n₀<=b) (hf:L.kvs.length<3000) (hin:∀ t∈L.ts.filter (inBox m.b),t.2.x<L.sideN m.b/\t.2.y<L.sideN m.b) :
  Calls prog 114 #[.pointer (some ⟨b,0,none⟩),m.val] w fun e w'=>e=.returned (.tuple #[])/\(∃ n₁,TxL n₁ w' b (L.chg (fun q:PT=>q.turnedBy (L.sideN m.b) m.n) (L.ts.filter (inBox m.b))))/\Keeps (fun k=>k=b) w w':=by
 have hmf:=Run.makeFunc
 have hbl:b<w.heap.size:=by obtain ⟨⟨⟨r,hB,hI⟩,hf⟩,_,_⟩:=hT;exact hB.lt
 have hn0:n₀<=w.heap.size:=by obtain ⟨⟨⟨r,hB,hI⟩,hf⟩,_,_⟩:=hT;exact hI.2.1
 have hmb:=hm.b
 have hmn:=hm.n
 have hL:=hT.ok
 have hs5:=Led.sideN_lt hL m.b
 have hSel:=Sel.filter hL (inBox m.b)
 have hgood:∀ t∈L.ts.filter (inBox m.b),((fun q:PT=>q.turnedBy (L.sideN m.b) m.n) t.2).Good:=fun t ht=>by
  have h1:=(hL.t1 t (List.mem_filter.1 ht).1).2.2
  have h2:=hin t ht
  have h3:=turnXY_lt (p:=(t.2.x,t.2.y)) h2.1 h2.2 m.n
  exact ⟨by show (turnXY _ _ _).1<5;omega,by show (turnXY _ _ _).2<5;omega,h1.box,h1.donor,h1.status,h1.thaws,h1.began,h1.left,h1.used,h1.lost⟩
 have hbA:Below w.heap.size w (w.alloc (.cells #[.pointer (some ⟨b,0,none⟩)] 185)):=(Below.refl _ w).alloc nlr _
 have hsA:(w.alloc (.cells #[.pointer (some ⟨b,0,none⟩)] 185)).heap.size=w.heap.size+1:=by simp
 have hC0:=Cm.has_new (w.alloc (.cells #[.pointer (some ⟨b,0,none⟩)] 185)) 31 m
 have hb0:=hbA.alloc (by omega) (.cells #[.int .i64 m.k,.int .i64 m.t,.int .i64 m.o,.int .i64 m.d,.int .i64 m.v,.int .i64 m.b,.int .i64 m.x,.int .i64 m.y,.int .i64 m.n] 31)
 have hs0:((w.alloc (.cells #[.pointer (some ⟨b,0,none⟩)] 185)).alloc (.cells #[.int .i64 m.k,.int .i64 m.t,.int .i64 m.o,.int .i64 m.d,.int .i64 m.v,.int .i64 m.b,.int .i64 m.x,.int .i64 m.y,.int .i64 m.n] 31)).heap.size=w.heap.size+2:=by simp
 have hBx:=boxed_below (Boxed.new w 185 (.pointer (some ⟨b,0,none⟩))) ((Below.refl _ _).alloc nlr (.cells #[.int .i64 m.k,.int .i64 m.t,.int .i64 m.o,.int .i64 m.d,.int .i64 m.v,.int .i64 m.b,.int .i64 m.x,.int .i64 m.y,.int .i64 m.n] 31))
 rw [hsA] at hC0
 have HSi:=hid (side_led n₀ b m.b L _ (hT.below hb0) (by omega))
 have HB:=hid hb0
 have HC:=hid hC0
 have HBx:=hid hBx
 have HT:=hid hT
 clear hb0 hC0 hBx hbA hsA hT
 unfold Cm.val
 refine calls_marks func114 rfl ?_
 simp only [ntmps114,List.size_toArray,List.length_cons,List.length_nil,Nat.reduceAdd,Nat.reduceSub,Array.replicate_succ,Array.replicate_zero,List.push_toArray,List.append_toArray,List.nil_append,List.cons_append]
 go_wp2_with fail
 refine HSi.out.mono ?_
 clear HSi
 rintro e w1 ⟨rfl,hb1⟩
 have hB1:Below w.heap.size w w1:=HB.out.trans (hb1.mono (by omega))
 have hs1:w.heap.size+2<=w1.heap.size:=by have:=hb1.size;omega
 have hC1:=HC.out.below hb1 (by omega)
 have hBx1:=boxed_below HBx.out hb1
 have hbS:Below w1.heap.size w1 (w1.alloc (.cells #[.int .i64 (L.sideN m.b)] 3)):=bal
 have hSB:=Boxed.new w1 3 (.int .i64 (L.sideN m.b))
 have hsS:(w1.alloc (.cells #[.int .i64 (L.sideN m.b)] 3)).heap.size=w1.heap.size+1:=by simp
 have hC2:=hC1.below hbS (by omega)
 have hBx2:=boxed_below hBx1 hbS
 have hB2:=hB1.trans (hbS.mono (by omega))
 have c5:=hC1.1 5 (by omega)
 have c5':=hC2.1 5 (by omega)
 have x0:=hBx1.cell
 have x0':=hBx2.cell
 simp only [Cm.ints] at c5 c5'
 have HIn:=hid (in_any n₀ b m.b L.kvs L.ts HT.out.toks (Led.sel_ts hL) _ (HT.out.below hB2).tx)
 have HB2:=hid hB2
 have HC2:=hid hC2
 have HBx2:=hid hBx2
 have HSB:=hid hSB
 have HsS:=hid hsS
 clear hB2 hC2 hBx2 hSB hbS hC1 hBx1 hb1 hB1 HB HC HBx hsS hs0
 go_wp2_with (go_at_call 165;refine HIn.out.mono ?_;clear HIn;rintro e w3 ⟨lb,rfl,hG,hb3⟩)
 have hB2:=HB2.out
 have hC2:=HC2.out
 have hBx2:=HBx2.out
 have hSB2:=HSB.out
 have hs2:=HsS.out
 clear c5 c5' x0 x0' HB2 HC2 HBx2 HSB HsS
 generalize w1.alloc (.cells #[.int .i64 (L.sideN m.b)] 3)=w2 at *
 have hs3:=hb3.size
 have hB3:Below w.heap.size w w3:=hB2.trans (hb3.mono (by omega))
 have hC3:=hC2.below hb3 (by omega)
 have hBx3:=boxed_below hBx2 hb3
 have hSB3:=boxed_below hSB2 hb3
 have hT3:=HT.out.below hB3
 have hk3:Keeps (fun k=>k=b) w w3:=below_toKeeps hB3 _
 refine (wpIn_wide (n:=0)).1 ?_
 refine rangeM_law (gf:=197) (lb:=lb) rfl (enters_of func197 (by kernel_rfl) rfl) (hG (fun _=>False) w3 (fun k=>k=b) (Keeps.refl _ _) (fun _ h=>h.elim) (fun k h=>by omega)) (Below.refl _ _) (fun k h=>by omega) (fun _=>rfl)
  (fun M pre V=>pre <+: L.ts.filter (inBox m.b)/\Boxed V w.heap.size 185 (.pointer (some ⟨b,0,none⟩))/\Has V (w.heap.size+1) m.ints/\Boxed V w1.heap.size 3 (.int .i64 (L.sideN m.b))/\(∃ n₁,TxL n₁ V b (L.chg (fun q:PT=>q.turnedBy (L.sideN m.b) m.n) pre))/\Keeps (fun k=>k=b) w V/\w.heap.size+2<V.heap.size)
  (fun _ _ _ _=>False)
  (fun _ s A B row hs hg hr=>by
   obtain ⟨h0,h1,h2,h3,⟨n₁,h4⟩,h5,h6⟩:=hs
   refine ⟨h0,own_boxed h1 hg hr,?_,own_boxed h3 hg hr,⟨n₁,own_txl h4 hg hr⟩,own_keeps h5 hk3.size hg hr,by have:=hg.size;omega⟩
   have hb:B.heap[w.heap.size+1]? = A.heap[w.heap.size+1]?:=hg.block _ (by omega) (fun e=>by have:=(hr _ e.symm).1;omega)
   exact ⟨fun i hi=>(World.cell?_of_block (w:=A) (a:=⟨w.heap.size+1,i,none⟩) hb).trans (h2.1 i hi),fun i=>(World.frozen?_of_block (w:=A) (a:=⟨w.heap.size+1,i,none⟩) hb).trans (h2.2 i)⟩)
  (fun _ c s A B row hs hg hr=>hs.elim)
  (fun _ _=>⟨List.nil_prefix,hBx3,hC3,hSB3,⟨n₀,hT3⟩,hk3,by omega⟩)
  (fun x a' V=>∃ v15,a'={ tmps:=#[.pointer (some ⟨b,0,none⟩),.agg #[.int .i64 m.k,.int .i64 m.t,.int .i64 m.o,.int .i64 m.d,.int .i64 m.v,.int .i64 m.b,.int .i64 m.x,.int .i64 m.y,.int .i64 m.n],.pointer (some ⟨w.heap.size,0,none⟩),.pointer (some ⟨w.heap.size+1,0,none⟩),.pointer (some ⟨w1.heap.size,0,none⟩),.int .i64 x.1,.pointer (some ⟨b,0,none⟩),.pointer (some ⟨w.heap.size+1,5,none⟩),.int .i64 m.b,.int .i64 (L.sideN m.b),.pointer (some ⟨b,0,none⟩),.pointer (some ⟨w.heap.size+1,5,none⟩),.int .i64 m.b,.func (.func 197) #[] lb,.int .i64 x.1,v15,undef,undef,undef,undef],defers:=[] })
  (fun x a' _ A B row hs hg hr=>hs) ?assign ?body ?done ?stop
 case assign =>
  intro y M pre x V K hM1 hM2 _ hi hK
  simp only [encT]
  gi_wp2
  exact hK _ _ (Keeps.refl _ _) hi ⟨_,rfl⟩
 case body =>
  rintro y M pre x a' V hy1 hy2 hM1 hM2 hp ⟨hpre,hbox,hcm,hsd,⟨n₁,htx⟩,hk,hsz⟩ ⟨v15,rfl⟩
  have hxm:x∈L.ts.filter (inBox m.b):=hp.subset (by simp)
  have hxt:=hL.t1 x (List.mem_filter.1 hxm).1
  have hc2:=hbox.cell
  have hplen:pre.length<=L.kvs.length:=by
   have h1:=hpre.length_le
   have h2:=List.length_filter_le (inBox m.b) L.ts
   rw [Led.len];omega
  have HCh:=hid (change_led n₁ b x.1 166 #[.pointer (some ⟨w.heap.size+1,0,none⟩),.pointer (some ⟨w1.heap.size,0,none⟩)] x.2 ((fun q:PT=>q.turnedBy (L.sideN m.b) m.n) x.2) (hgood x hxm) _ V htx ⟨hxt.1,hxt.2.1⟩ (by have:=Led.chg_len (fun q:PT=>q.turnedBy (L.sideN m.b) m.n) pre L;omega) (hSel.next hL hp _) (enters_of func166 (by kernel_rfl) rfl) (turn_turns hcm (by omega) rfl (by omega) hsd.cell hsd.lt (hin x hxm).1 (hin x hxm).2 hs5))
  gi_wp2
  refine ⟨trivial,rfl,(CallsIn.inRound _ (callsIn_wide.2 HCh.out)).mono ?_⟩
  rintro e w5 ⟨rfl,hT5,hk5⟩
  gi_wp2
  refine ⟨hk5.mono (fun k _ h=>.inl h),hp,keeps_same hk5 (by omega) hbox,has_keeps hcm hk5 (by omega) (by omega),keeps_same hk5 (by omega) hsd,⟨w5.heap.size,?_⟩,hk.trans hk5,by have:=hk5.size;omega⟩
  rw [Led.chg_append];exact hT5
 case done =>
  rintro M V hM ⟨hpre,hbox,hcm,hsd,⟨n₁,htx⟩,hk,hsz⟩ hD
  go_wp2_with fail
  refine none_end (by kernel_rfl) hD ⟨rfl,⟨n₁,?_⟩,?_⟩
  ·exact own_txl (B:=0) htx (grownBy_putObj' V _ _) (fun r e=>by cases e;exact ⟨Nat.zero_le _,_,hD,rfl⟩)
  ·exact own_keeps hk hk3.size (grownBy_putObj' V _ _) (fun r e=>by cases e;exact ⟨Nat.le_refl _,_,hD,rfl⟩)
 case stop =>
  rintro M c pre V hM hp h hD
  exact h.elim
end
section
open Go.RowKit Go.Shelf
attribute [local go_sem] Oper.semAt_some
theorem flip_any (n₀ b:Nat) (m:Cm) (hm:m.Ok) (L:Led) (w:World) (hT:TxL n₀ w b L) (hnb:n₀<=b) (hf:L.kvs.length<3000) (hin:∀ t∈L.ts.filter (inBox m.b),t.2.x<L.sideN m.b/\t.2.y<L.sideN m.b) :
  Calls prog 115 #[.pointer (some ⟨b,0,none⟩),m.val] w fun e w'=>e=.returned (.tuple #[])/\(∃ n₁,TxL n₁ w' b (L.chg (fun q:PT=>q.flippedIn (L.sideN m.b)) (L.ts.filter (inBox m.b))))/\Keeps (fun k=>k=b) w w':=by
 have hmf:=Run.makeFunc
 have hbl:b<w.heap.size:=by obtain ⟨⟨⟨r,hB,hI⟩,hf⟩,_,_⟩:=hT;exact hB.lt
 have hn0:n₀<=w.heap.size:=by obtain ⟨⟨⟨r,hB,hI⟩,hf⟩,_,_⟩:=hT;exact hI.2.1
 have hmb:=hm.b
 have hmn:=hm.n
 have hL:=hT.ok
 have hs5:=Led.sideN_lt hL m.b
 have hSel:=Sel.filter hL (inBox m.b)
 have hgood:∀ t∈L.ts.filter (inBox m.b),((fun q:PT=>q.flippedIn (L.sideN m.b)) t.2).Good:=fun t ht=>by
  have h1:=(hL.t1 t (List.mem_filter.1 ht).1).2.2
  have h2:=hin t ht
  exact ⟨by show L.sideN m.b - 1 - t.2.x<5;omega,h1.y,h1.box,h1.donor,h1.status,h1.thaws,h1.began,h1.left,h1.used,h1.lost⟩
 have hbA:Below w.heap.size w (w.alloc (.cells #[.pointer (some ⟨b,0,none⟩)] 185)):=(Below.refl _ w).alloc nlr _
 have hsA:(w.alloc (.cells #[.pointer (some ⟨b,0,none⟩)] 185)).heap.size=w.heap.size+1:=by simp
 have hC0:=Cm.has_new (w.alloc (.cells #[.pointer (some ⟨b,0,none⟩)] 185)) 31 m
 have hb0:=hbA.alloc (by omega) (.cells #[.int .i64 m.k,.int .i64 m.t,.int .i64 m.o,.int .i64 m.d,.int .i64 m.v,.int .i64 m.b,.int .i64 m.x,.int .i64 m.y,.int .i64 m.n] 31)
 have hs0:((w.alloc (.cells #[.pointer (some ⟨b,0,none⟩)] 185)).alloc (.cells #[.int .i64 m.k,.int .i64 m.t,.int .i64 m.o,.int .i64 m.d,.int .i64 m.v,.int .i64 m.b,.int .i64 m.x,.int .i64 m.y,.int .i64 m.n] 31)).heap.size=w.heap.size+2:=by simp
 have hBx:=boxed_below (Boxed.new w 185 (.pointer (some ⟨b,0,none⟩))) ((Below.refl _ _).alloc nlr (.cells #[.int .i64 m.k,.int .i64 m.t,.int .i64 m.o,.int .i64 m.d,.int .i64 m.v,.int .i64 m.b,.int .i64 m.x,.int .i64 m.y,.int .i64 m.n] 31))
 rw [hsA] at hC0
 have HSi:=hid (side_led n₀ b m.b L _ (hT.below hb0) (by omega))
 have HB:=hid hb0
 have HC:=hid hC0
 have HBx:=hid hBx
 have HT:=hid hT
 clear hb0 hC0 hBx hbA hsA hT
 unfold Cm.val
 refine calls_marks func115 rfl ?_
 simp only [ntmps115,List.size_toArray,List.length_cons,List.length_nil,Nat.reduceAdd,Nat.reduceSub,Array.replicate_succ,Array.replicate_zero,List.push_toArray,List.append_toArray,List.nil_append,List.cons_append]
 go_wp2_with fail
 refine HSi.out.mono ?_
 clear HSi
 rintro e w1 ⟨rfl,hb1⟩
 have hB1:Below w.heap.size w w1:=HB.out.trans (hb1.mono (by omega))
 have hs1:w.heap.size+2<=w1.heap.size:=by have:=hb1.size;omega
 have hC1:=HC.out.below hb1 (by omega)
 have hBx1:=boxed_below HBx.out hb1
 have hbS:Below w1.heap.size w1 (w1.alloc (.cells #[.int .i64 (L.sideN m.b)] 3)):=bal
 have hSB:=Boxed.new w1 3 (.int .i64 (L.sideN m.b))
 have hsS:(w1.alloc (.cells #[.int .i64 (L.sideN m.b)] 3)).heap.size=w1.heap.size+1:=by simp
 have hC2:=hC1.below hbS (by omega)
 have hBx2:=boxed_below hBx1 hbS
 have hB2:=hB1.trans (hbS.mono (by omega))
 have c5:=hC1.1 5 (by omega)
 have c5':=hC2.1 5 (by omega)
 have x0:=hBx1.cell
 have x0':=hBx2.cell
 simp only [Cm.ints] at c5 c5'
 have HIn:=hid (in_any n₀ b m.b L.kvs L.ts HT.out.toks (Led.sel_ts hL) _ (HT.out.below hB2).tx)
 have HB2:=hid hB2
 have HC2:=hid hC2
 have HBx2:=hid hBx2
 have HSB:=hid hSB
 have HsS:=hid hsS
 clear hB2 hC2 hBx2 hSB hbS hC1 hBx1 hb1 hB1 HB HC HBx hsS hs0
 go_wp2_with (go_at_call 165;refine HIn.out.mono ?_;clear HIn;rintro e w3 ⟨lb,rfl,hG,hb3⟩)
 have hB2:=HB2.out
 have hC2:=HC2.out
 have hBx2:=HBx2.out
 have hSB2:=HSB.out
 have hs2:=HsS.out
 clear c5 c5' x0 x0' HB2 HC2 HBx2 HSB HsS
 generalize w1.alloc (.cells #[.int .i64 (L.sideN m.b)] 3)=w2 at *
 have hs3:=hb3.size
 have hB3:Below w.heap.size w w3:=hB2.trans (hb3.mono (by omega))
 have hC3:=hC2.below hb3 (by omega)
 have hBx3:=boxed_below hBx2 hb3
 have hSB3:=boxed_below hSB2 hb3
 have hT3:=HT.out.below hB3
 have hk3:Keeps (fun k=>k=b) w w3:=below_toKeeps hB3 _
 refine (wpIn_wide (n:=0)).1 ?_
 refine rangeM_law (gf:=197) (lb:=lb) rfl (enters_of func197 (by kernel_rfl) rfl) (hG (fun _=>False) w3 (fun k=>k=b) (Keeps.refl _ _) (fun _ h=>h.elim) (fun k h=>by omega)) (Below.refl _ _) (fun k h=>by omega) (fun _=>rfl)
  (fun M pre V=>pre <+: L.ts.filter (inBox m.b)/\Boxed V w.heap.size 185 (.pointer (some ⟨b,0,none⟩))/\Has V (w.heap.size+1) m.ints/\Boxed V w1.heap.size 3 (.int .i64 (L.sideN m.b))/\(∃ n₁,TxL n₁ V b (L.chg (fun q:PT=>q.flippedIn (L.sideN m.b)) pre))/\Keeps (fun k=>k=b) w V/\w.heap.size+2<V.heap.size)
  (fun _ _ _ _=>False)
  (fun _ s A B row hs hg hr=>by
   obtain ⟨h0,h1,h2,h3,⟨n₁,h4⟩,h5,h6⟩:=hs
   refine ⟨h0,own_boxed h1 hg hr,?_,own_boxed h3 hg hr,⟨n₁,own_txl h4 hg hr⟩,own_keeps h5 hk3.size hg hr,by have:=hg.size;omega⟩
   have hb:B.heap[w.heap.size+1]? = A.heap[w.heap.size+1]?:=hg.block _ (by omega) (fun e=>by have:=(hr _ e.symm).1;omega)
   exact ⟨fun i hi=>(World.cell?_of_block (w:=A) (a:=⟨w.heap.size+1,i,none⟩) hb).trans (h2.1 i hi),fun i=>(World.frozen?_of_block (w:=A) (a:=⟨w.heap.size+1,i,none⟩) hb).trans (h2.2 i)⟩)
  (fun _ c s A B row hs hg hr=>hs.elim)
  (fun _ _=>⟨List.nil_prefix,hBx3,hC3,hSB3,⟨n₀,hT3⟩,hk3,by omega⟩)
  (fun x a' V=>∃ v15,a'={ tmps:=#[.pointer (some ⟨b,0,none⟩),.agg #[.int .i64 m.k,.int .i64 m.t,.int .i64 m.o,.int .i64 m.d,.int .i64 m.v,.int .i64 m.b,.int .i64 m.x,.int .i64 m.y,.int .i64 m.n],.pointer (some ⟨w.heap.size,0,none⟩),.pointer (some ⟨w.heap.size+1,0,none⟩),.pointer (some ⟨w1.heap.size,0,none⟩),.int .i64 x.1,.pointer (some ⟨b,0,none⟩),.pointer (some ⟨w.heap.size+1,5,none⟩),.int .i64 m.b,.int .i64 (L.sideN m.b),.pointer (some ⟨b,0,none⟩),.pointer (some ⟨w.heap.size+1,5,none⟩),.int .i64 m.b,.func (.func 197) #[] lb,.int .i64 x.1,v15,undef,undef,undef,undef],defers:=[] })
  (fun x a' _ A B row hs hg hr=>hs) ?assign ?body ?done ?stop
 case assign =>
  intro y M pre x V K hM1 hM2 _ hi hK
  simp only [encT]
  gi_wp2
  exact hK _ _ (Keeps.refl _ _) hi ⟨_,rfl⟩
 case body =>
  rintro y M pre x a' V hy1 hy2 hM1 hM2 hp ⟨hpre,hbox,hcm,hsd,⟨n₁,htx⟩,hk,hsz⟩ ⟨v15,rfl⟩
  have hxm:x∈L.ts.filter (inBox m.b):=hp.subset (by simp)
  have hxt:=hL.t1 x (List.mem_filter.1 hxm).1
  have hc2:=hbox.cell
  have hplen:pre.length<=L.kvs.length:=by
   have h1:=hpre.length_le
   have h2:=List.length_filter_le (inBox m.b) L.ts
   rw [Led.len];omega
  have HCh:=hid (change_led n₁ b x.1 168 #[.pointer (some ⟨w1.heap.size,0,none⟩)] x.2 ((fun q:PT=>q.flippedIn (L.sideN m.b)) x.2) (hgood x hxm) _ V htx ⟨hxt.1,hxt.2.1⟩ (by have:=Led.chg_len (fun q:PT=>q.flippedIn (L.sideN m.b)) pre L;omega) (hSel.next hL hp _) (enters_of func168 (by kernel_rfl) rfl) (flip_turns hsd.cell hsd.lt (hin x hxm).1 (hin x hxm).2 hs5))
  gi_wp2
  refine ⟨trivial,rfl,(CallsIn.inRound _ (callsIn_wide.2 HCh.out)).mono ?_⟩
  rintro e w5 ⟨rfl,hT5,hk5⟩
  gi_wp2
  refine ⟨hk5.mono (fun k _ h=>.inl h),hp,keeps_same hk5 (by omega) hbox,has_keeps hcm hk5 (by omega) (by omega),keeps_same hk5 (by omega) hsd,⟨w5.heap.size,?_⟩,hk.trans hk5,by have:=hk5.size;omega⟩
  rw [Led.chg_append];exact hT5
 case done =>
  rintro M V hM ⟨hpre,hbox,hcm,hsd,⟨n₁,htx⟩,hk,hsz⟩ hD
  go_wp2_with fail
  refine none_end (by kernel_rfl) hD ⟨rfl,⟨n₁,?_⟩,?_⟩
  ·exact own_txl (B:=0) htx (grownBy_putObj' V _ _) (fun r e=>by cases e;exact ⟨Nat.zero_le _,_,hD,rfl⟩)
  ·exact own_keeps hk hk3.size (grownBy_putObj' V _ _) (fun r e=>by cases e;exact ⟨Nat.le_refl _,_,hD,rfl⟩)
 case stop =>
  rintro M c pre V hM hp h hD
  exact h.elim
end
section
open Go.RowKit Go.Shelf
attribute [local go_sem] Oper.semAt_some run_store_cplx
theorem ofN_nats (d:Int) (l:List TN):ofN d l=natsI ((l.filter fun t=>decide ((t.2.donor:Int)=d)).map Prod.fst):=by simp [ofN,natsI]
def hitB (S:Nat->Bool) (t:TN):Bool:=S t.1&&!decide (t.2.status=3)
theorem wd_end {V:World} {D:Nat} {c:Int} {R:World->Prop} {tmps:List Value} (hc:tmps[4]? = some (.int .i64 c)) (hD:V.heap[D]? = some (.deferred (some []))) (hR:R (V.putObj D (.deferred none))) :
  bodyPostM Fence.wide 0 prog Tryz.f113 (fun e w'=>e=.returned (.int .i64 c)/\R w') .ret
   { tmps:=tmps.toArray,defers:=[{ target:=.collected D,args:=#[] }] } V:=by
 refine ⟨by simp,.inl ⟨_,_,rfl,run_takeDeferred hD,?_⟩⟩
 refine ⟨.int .i64 c,?_,rfl,hR⟩
 simp [results,results113,go_sem,hc]
theorem withdraw_led (n₀ b:Nat) (m:Cm) (hm:m.Ok) (L:Led) (w:World) (hT:TxL n₀ w b L) (hnb:n₀<=b) (hf:L.kvs.length<3000) :
  Calls prog 113 #[.pointer (some ⟨b,0,none⟩),m.val] w fun e w'=>e=.returned (.int .i64 (L.hits m.d).length)/\(∃ n₁,TxL n₁ w' b (L.chg PT.lostAll (L.hits m.d)))/\Keeps (fun k=>k=b) w w':=by
 have hbl:b<w.heap.size:=by obtain ⟨⟨⟨r,hB,hI⟩,hf⟩,_,_⟩:=hT;exact hB.lt
 have hn0:n₀<=w.heap.size:=by obtain ⟨⟨⟨r,hB,hI⟩,hf⟩,_,_⟩:=hT;exact hI.2.1
 have hmd:=hm.d
 have hL:=hT.ok
 have hlt:L.ts.length<3000:=by rw [Led.len] at hf;omega
 have hgood:∀ t∈L.ts,(PT.lostAll t.2).Good:=fun t ht=>by
  have h1:=(hL.t1 t ht).2.2
  exact ⟨by show (0:Nat)<5;omega,by show (0:Nat)<5;omega,by show (0:Nat)<=9;omega,h1.donor,by show 1<=3/\3<=3;omega,h1.thaws,h1.began,by show (0:Nat)<=1000000;omega,h1.used,h1.left⟩
 have hzs:∀ z∈(L.ts.filter fun t=>decide ((t.2.donor:Int)=m.d)).map Prod.fst,z<1000:=fun z hz=>by
  obtain ⟨t,ht,rfl⟩:=List.mem_map.1 hz
  have:=(hL.t1 t (List.mem_filter.1 ht).1).2.1;omega
 have hzl:((L.ts.filter fun t=>decide ((t.2.donor:Int)=m.d)).map Prod.fst).length<9000:=by
  rw [List.length_map];have:=List.length_filter_le (fun t:TN=>decide ((t.2.donor:Int)=m.d)) L.ts;omega
 have hbA:Below w.heap.size w (w.alloc (.cells #[.pointer (some ⟨b,0,none⟩)] 185)):=(Below.refl _ w).alloc nlr _
 have hsA:(w.alloc (.cells #[.pointer (some ⟨b,0,none⟩)] 185)).heap.size=w.heap.size+1:=by simp
 have hC0:=Cm.has_new (w.alloc (.cells #[.pointer (some ⟨b,0,none⟩)] 185)) 31 m
 have hb0:=hbA.alloc (by omega) (.cells #[.int .i64 m.k,.int .i64 m.t,.int .i64 m.o,.int .i64 m.d,.int .i64 m.v,.int .i64 m.b,.int .i64 m.x,.int .i64 m.y,.int .i64 m.n] 31)
 have hs0:((w.alloc (.cells #[.pointer (some ⟨b,0,none⟩)] 185)).alloc (.cells #[.int .i64 m.k,.int .i64 m.t,.int .i64 m.o,.int .i64 m.d,.int .i64 m.v,.int .i64 m.b,.int .i64 m.x,.int .i64 m.y,.int .i64 m.n] 31)).heap.size=w.heap.size+1+1:=by simp
 have hBx:=boxed_below (Boxed.new w 185 (.pointer (some ⟨b,0,none⟩))) ((Below.refl _ _).alloc nlr (.cells #[.int .i64 m.k,.int .i64 m.t,.int .i64 m.o,.int .i64 m.d,.int .i64 m.v,.int .i64 m.b,.int .i64 m.x,.int .i64 m.y,.int .i64 m.n] 31))
 rw [hsA] at hC0
 have hG0:=group_new ((w.alloc (.cells #[.pointer (some ⟨b,0,none⟩)] 185)).alloc (.cells #[.int .i64 m.k,.int .i64 m.t,.int .i64 m.o,.int .i64 m.d,.int .i64 m.v,.int .i64 m.b,.int .i64 m.x,.int .i64 m.y,.int .i64 m.n] 31))
 rw [hs0] at hG0
 have hbG:Below (w.heap.size+1+1) ((w.alloc (.cells #[.pointer (some ⟨b,0,none⟩)] 185)).alloc (.cells #[.int .i64 m.k,.int .i64 m.t,.int .i64 m.o,.int .i64 m.d,.int .i64 m.v,.int .i64 m.b,.int .i64 m.x,.int .i64 m.y,.int .i64 m.n] 31)) _:=(Below.refl _ _).alloc (by omega) (.cells zeroCells229 229)
 have hBw:=hb0.trans (hbG.mono (by omega))
 have hC1:=hC0.below hbG (by omega)
 have hBx1:=boxed_below hBx (hbG.mono (by omega))
 have hsz1:(((w.alloc (.cells #[.pointer (some ⟨b,0,none⟩)] 185)).alloc (.cells #[.int .i64 m.k,.int .i64 m.t,.int .i64 m.o,.int .i64 m.d,.int .i64 m.v,.int .i64 m.b,.int .i64 m.x,.int .i64 m.y,.int .i64 m.n] 31)).alloc (.cells zeroCells229 229)).heap.size=w.heap.size+3:=by simp
 have HT:=hid hT
 clear hb0 hC0 hBx hbA hsA hT hs0 hbG
 unfold Cm.val
 refine calls_marks func113 rfl ?_
 simp only [ntmps113,List.size_toArray,List.length_cons,List.length_nil,Nat.reduceAdd,Nat.reduceSub,Array.replicate_succ,Array.replicate_zero,List.push_toArray,List.append_toArray,List.nil_append,List.cons_append]
 go_upto_region 2 with fail
 generalize ((w.alloc (.cells #[.pointer (some ⟨b,0,none⟩)] 185)).alloc (.cells #[.int .i64 m.k,.int .i64 m.t,.int .i64 m.o,.int .i64 m.d,.int .i64 m.v,.int .i64 m.b,.int .i64 m.x,.int .i64 m.y,.int .i64 m.n] 31)).alloc (.cells zeroCells229 229)=w1 at *
 have c3:=hC1.1 3 (by omega)
 have x0:=hBx1.cell
 simp only [Cm.ints] at c3
 have HOf:=hid (ofD_any n₀ b m.d L.kvs L.ts HT.out.toks (Led.sel_ts hL) (by omega) w1 (HT.out.below hBw).tx)
 rw [ofN_nats] at HOf
 go_wp2_with fail
 refine HOf.out.mono ?_
 clear HOf c3 x0
 rintro e w2 ⟨v,rfl,hrow,hb2⟩
 obtain ⟨zs,hzz⟩:∃ zs,zs=(L.ts.filter fun t=>decide ((t.2.donor:Int)=m.d)).map Prod.fst:=⟨_,rfl⟩
 rw [<- hzz] at hrow hzs hzl
 have hB2:Below w.heap.size w w2:=hBw.trans (hb2.mono (by omega))
 have hC2:=hC1.below hb2 (by omega)
 have hBx2:=boxed_below hBx1 hb2
 have hs2:=hb2.size
 have HAd:=hid (add_any (w.heap.size+1+1) (fun _=>false) v zs hzs hzl w2 (hG0.below hb2) (own_intsIn hrow rfl) (fun k hk=>by have:=(hrow.lt k hk).1;omega))
 have HZ:=hid hzz
 clear hzz hrow hb2 hBw hC1 hBx1 hzs hzl
 go_wp2_with fail
 refine HAd.out.mono ?_
 clear HAd
 rintro e w3 ⟨rfl,hG3,hk3⟩
 have hB3:Below w.heap.size w w3:=hB2.trans (hk3.toBelow (fun k h=>by omega) hB2.size)
 have hC3:=has_keeps hC2 hk3 (by omega) (by omega)
 have hBx3:=keeps_same hk3 (by omega) hBx2
 have hs3:=hk3.size
 have x0:=(show Boxed w3 w.heap.size 185 (.pointer (some ⟨b,0,none⟩)) from hBx3).cell
 have HAb:=hid (addBelow_any n₀ b (w.heap.size+1+1) (orL (fun _=>false) zs) L.kvs L.ps HT.out.poks (Led.sel_ps hL) w3 (HT.out.below hB3).tx hG3 (by omega))
 clear hk3 hC2 hBx2 hB2 hG3
 go_wp2_with fail
 refine HAb.out.mono ?_
 clear HAb x0
 rintro e w4 ⟨rfl,hG4,hk4⟩
 have hgone:downS (orL (fun _=>false) zs) L.ps=L.goneS m.d:=by rw [HZ.out];rfl
 rw [hgone] at hG4
 have hB4:Below w.heap.size w w4:=hB3.trans (hk4.toBelow (fun k h=>by omega) hB3.size)
 have hC4:=has_keeps hC3 hk4 (by omega) (by omega)
 have hBx4:Boxed w4 w.heap.size 185 (.pointer (some ⟨b,0,none⟩)):=keeps_same hk4 (by omega) hBx3
 have hs4:=hk4.size
 have hbC:Below w4.heap.size w4 (w4.alloc (.cells #[.int .i64 0] 3)):=bal
 have hsC:(w4.alloc (.cells #[.int .i64 0] 3)).heap.size=w4.heap.size+1:=by simp
 have hCo:=Boxed.new w4 3 (.int .i64 0)
 have hBx5:=boxed_below hBx4 hbC
 have hB5:=hB4.trans (hbC.mono (by omega))
 have x0:=hBx5.cell
 have HTu:=hid (tubes_any n₀ b L.kvs L.ts HT.out.toks (Led.sel_ts hL) _ (HT.out.below hB5).tx)
 have HB5:=hid hB5
 have HBx5:=hid hBx5
 have HCo:=hid hCo
 have HsC:=hid hsC
 have HG5:=hid (hG4.below hbC)
 clear hk4 hB3 hC3 hBx3 hB4 hBx4 hC4 hG4 hbC hsC hCo hBx5 hB5 hgone HZ
 go_wp2_with (go_at_call 163;refine HTu.out.mono ?_;clear HTu;rintro e w6 ⟨bx,rfl,hGv,hb6⟩)
 have hB5:=HB5.out
 have hBx5:=HBx5.out
 have hCo5:=HCo.out
 have hs5:=HsC.out
 have hG5:=HG5.out
 clear x0 HB5 HBx5 HCo HsC HG5
 generalize w4.alloc (.cells #[.int .i64 0] 3)=w5 at *
 have hs6:=hb6.size
 have hB6:Below w.heap.size w w6:=hB5.trans (hb6.mono (by omega))
 have hBx6:=boxed_below hBx5 hb6
 have hCo6:=boxed_below hCo5 hb6
 have hG6:=hG5.below hb6
 have hT6:=HT.out.below hB6
 have hk6:Keeps (fun k=>k=b) w w6:=below_toKeeps hB6 _
 refine (wpIn_wide (n:=0)).1 ?_
 refine rangeM_law (gf:=196) (lb:=#[.pointer (some ⟨bx,0,none⟩)]) rfl (enters_of func196 (by kernel_rfl) rfl) (hGv (fun _=>False) w6 (fun k=>k=b\/k=w4.heap.size) (Keeps.refl _ _) (fun _ h=>h.elim) (fun k h=>by omega)) (Below.refl _ _) (fun k h=>by omega) (fun _=>rfl)
  (fun M pre V=>pre <+: L.ts/\Boxed V w.heap.size 185 (.pointer (some ⟨b,0,none⟩))/\GroupAt V (w.heap.size+1+1) (L.goneS m.d)/\Boxed V w4.heap.size 3 (.int .i64 (pre.filter (hitB (L.goneS m.d))).length)/\(∃ n₁,TxL n₁ V b (L.chg PT.lostAll (pre.filter (hitB (L.goneS m.d)))))/\Keeps (fun k=>k=b) w V)
  (fun _ _ _ _=>False)
  (fun _ s A B row hs hg hr=>by
   obtain ⟨h0,h1,h2,h3,⟨n₁,h4⟩,h5⟩:=hs
   exact ⟨h0,own_boxed h1 hg hr,own_blk h2 hg hr,own_boxed h3 hg hr,⟨n₁,own_txl h4 hg hr⟩,own_keeps h5 hk6.size hg hr⟩)
  (fun _ c s A B row hs hg hr=>hs.elim)
  (fun _ _=>⟨List.nil_prefix,hBx6,hG6,hCo6,⟨n₀,hT6⟩,hk6⟩)
  (fun x a' V=>∃ r,RecBox V r x.2.cells/\a'={ tmps:=#[.pointer (some ⟨b,0,none⟩),.agg #[.int .i64 m.k,.int .i64 m.t,.int .i64 m.o,.int .i64 m.d,.int .i64 m.v,.int .i64 m.b,.int .i64 m.x,.int .i64 m.y,.int .i64 m.n],.pointer (some ⟨w.heap.size,0,none⟩),.pointer (some ⟨w.heap.size+1,0,none⟩),.int .i64 0,.pointer (some ⟨w.heap.size+1+1,0,none⟩),.pointer (some ⟨w4.heap.size,0,none⟩),.int .i64 x.1,.pointer (some ⟨r,0,none⟩),.pointer (some ⟨b,0,none⟩),.pointer (some ⟨w.heap.size+1,3,none⟩),.int .i64 m.d,v,.tuple #[],.pointer (some ⟨b,0,none⟩),.tuple #[],.pointer (some ⟨b,0,none⟩),.func (.func 196) #[] #[.pointer (some ⟨bx,0,none⟩)],.int .i64 x.1,x.2.val,undef,undef,undef,undef,undef,undef,undef,undef,undef,undef,undef,undef,undef,undef],defers:=[] })
  (fun x a' _ A B row hs hg hr=>by
   obtain ⟨r,h2,h3⟩:=hs
   exact ⟨r,own_recBox h2 hg hr,h3⟩) ?assign ?body ?done ?stop
 case assign =>
  intro y M pre x V K hM1 hM2 _ hi hK
  simp only [encT,PT.val,PT.cells,pl]
  gi_wp2
  have hbV:Below V.heap.size V (V.alloc (.cells #[.complex .f64 (fl x.2.x) (fl x.2.y),.int .i64 x.2.box,.int .i64 x.2.donor,.int .i64 x.2.status,.int .i64 x.2.thaws,.int .i64 x.2.began,.int .i64 x.2.left,.int .i64 x.2.used,.int .i64 x.2.lost] 216)):=bal
  obtain ⟨i0,i1,i2,i3,⟨n₁,i4⟩,i5⟩:=hi
  exact hK _ _ ((Keeps.refl _ V).below hbV nlr) ⟨i0,boxed_below i1 hbV,i2.below hbV,boxed_below i3 hbV,⟨n₁,i4.below hbV⟩,i5.below hbV i5.size⟩ ⟨V.heap.size,World.alloc_heap_new V _,rfl⟩
 case body =>
  rintro y M pre x a' V hy1 hy2 hM1 hM2 hp ⟨hpre,hbox,hgr,hcnt,⟨n₁,htx⟩,hk⟩ ⟨r,hr,rfl⟩
  have hxm:x∈L.ts:=hp.subset (by simp)
  have hxt:=hL.t1 x hxm
  have hc2:=hbox.cell
  have hc3:=hgr.cell (show x.1<1000 by omega)
  have hc4:=hcnt.cell
  have hf4:=hcnt.frozen
  have d3:=hr.cells.c3
  have hx1:(x.1:Int)<1000:=by omega
  have hfl:(pre.filter (hitB (L.goneS m.d))).length<=pre.length:=List.length_filter_le _ _
  have hplen:pre.length<=L.ts.length:=hpre.length_le
  have hst3:(x.2.status:Int)<4:=by have:=hxt.2.2.status;omega
  have HF:=hid (show (pre++[x]).filter (hitB (L.goneS m.d))=pre.filter (hitB (L.goneS m.d))++if hitB (L.goneS m.d) x then [x] else [] by
   rw [List.filter_append,List.filter_cons,List.filter_nil])
  have HR:=hid hr
  clear hr
  cases hb:L.goneS m.d x.1 with
  | false =>
   have HN:=hid (show hitB (L.goneS m.d) x=false by simp [hitB,hb])
   rw [hb] at hc3
   gi_wp2
   repeat (refine And.intro (fun (f:FuncId) (e:none=some f)=>nomatch e) ?_;gi_wp2)
   refine ⟨Keeps.refl _ _,hp,hbox,hgr,?_,⟨n₁,?_⟩,hk⟩
   ·rw [HF.out,HN.out];simpa using hcnt
   ·rw [HF.out,HN.out];simpa using htx
  | true =>
   rw [hb] at hc3
   by_cases hs:x.2.status=3
   ·have HN:=hid (show hitB (L.goneS m.d) x=false by simp [hitB,hb,hs])
    have hsI:((x.2.status:Int) != 3)=false:=by simp [hs]
    gi_wp2
    refine ⟨Keeps.refl _ _,hp,hbox,hgr,?_,⟨n₁,?_⟩,hk⟩
    ·rw [HF.out,HN.out];simpa using hcnt
    ·rw [HF.out,HN.out];simpa using htx
   ·have HN:=hid (show hitB (L.goneS m.d) x=true by simp [hitB,hb,hs])
    have hsI:((x.2.status:Int) != 3)=true:=by simp;omega
    have hSel:=Sel.filter hL (hitB (L.goneS m.d))
    have hpf:pre.filter (hitB (L.goneS m.d))++[x] <+: L.ts.filter (hitB (L.goneS m.d)):=by
     have:=hp.filter (hitB (L.goneS m.d))
     rw [HF.out,HN.out] at this;exact this
    have HCh:=hid (change_led n₁ b x.1 164 #[] x.2 (PT.lostAll x.2) (hgood x hxm) _ V htx ⟨hxt.1,hxt.2.1⟩ (by have:=Led.chg_len PT.lostAll (pre.filter (hitB (L.goneS m.d))) L;omega) (hSel.next hL hpf _) (enters_of func164 (by kernel_rfl) rfl) destroy_turns)
    gi_wp2
    refine ⟨trivial,rfl,(CallsIn.inRound _ (callsIn_wide.2 HCh.out)).mono ?_⟩
    rintro e w7 ⟨rfl,hT7,hk7⟩
    have hcnt7:Boxed w7 w4.heap.size 3 (.int .i64 (pre.filter (hitB (L.goneS m.d))).length):=keeps_same hk7 (by omega) hcnt
    have hc7:=hcnt7.cell
    have hf7:=hcnt7.frozen
    have hbox7:Boxed w7 w.heap.size 185 (.pointer (some ⟨b,0,none⟩)):=keeps_same hk7 (by omega) hbox
    gi_wp2
    have hk8:Keeps (fun k=>k=b\/k=w4.heap.size) V (w7.setCell ⟨w4.heap.size,0,none⟩ (.int .i64 (((pre.filter (hitB (L.goneS m.d))).length:Int)+1))):=(hk7.mono (fun k _ h=>.inl h)).setCell (p:=⟨w4.heap.size,0,none⟩) (.inl (.inr rfl)) _
    have hcb:Below w7.heap.size w7 w7:=Below.refl _ _
    refine ⟨hk8.mono (fun k _ h=>.inl h),hp,keeps_same hk8 (by omega) hbox,keeps_same hk8 (by omega) hgr,?_,⟨w7.heap.size,?_⟩,(hk.trans hk7).setCell (p:=⟨w4.heap.size,0,none⟩) (.inr (by show w.heap.size<=w4.heap.size;omega)) _⟩
    ·rw [HF.out,HN.out]
     have:=hcnt7.set (.int .i64 (((pre.filter (hitB (L.goneS m.d))).length:Int)+1))
     simpa using this
    ·rw [HF.out,HN.out,if_pos rfl,Led.chg_append]
     obtain ⟨⟨⟨rt,h1,h2⟩,h3⟩,h4,h5⟩:=hT7
     have hkc:Keeps (fun k=>k=w4.heap.size) w7 (w7.setCell ⟨w4.heap.size,0,none⟩ (.int .i64 (((pre.filter (hitB (L.goneS m.d))).length:Int)+1))):=(Keeps.refl (fun k=>k=w4.heap.size) w7).setCell (p:=⟨w4.heap.size,0,none⟩) (.inl rfl) _
     refine ⟨⟨⟨rt,keeps_same hkc (by omega) h1,h2.keptX (X:=fun g=>g=w4.heap.size) hkc.size (fun g o u hg hc => ?_) (fun g hg => ?_)⟩,h3⟩,h4,h5⟩
     ·rw [World.cell?_of_block (w:=w7) (Below.heap_setCell w7 ⟨w4.heap.size,0,none⟩ _ g hg)];exact hc
     ·subst hg
      refine ⟨fun s l c e => ?_,fun o k e => ?_⟩
      ·rw [hc7] at e;cases e
      ·simp only [World.cell?,show w7.heap[w4.heap.size]? = _ from hcnt7] at e
       match o,e with
       | 0,e=>simp at e
       | o+1,e=>simp at e
 case done =>
  rintro M V hM ⟨hpre,hbox,hgr,hcnt,⟨n₁,htx⟩,hk⟩ hD
  have hc3:=hcnt.cell
  go_wp2_with fail
  refine wd_end (R:=fun w'=>(∃ n₁,TxL n₁ w' b (L.chg PT.lostAll (L.hits m.d)))/\Keeps (fun k=>k=b) w w') rfl hD ⟨⟨n₁,?_⟩,?_⟩
  ·exact own_txl (B:=0) htx (grownBy_putObj' V _ _) (fun r e=>by cases e;exact ⟨Nat.zero_le _,_,hD,rfl⟩)
  ·exact own_keeps hk hk6.size (grownBy_putObj' V _ _) (fun r e=>by cases e;exact ⟨Nat.le_refl _,_,hD,rfl⟩)
 case stop =>
  rintro M c pre V hM hp h hD
  exact h.elim
end
end Go.Proofs.YtalncjhldkcmaaaGreat
