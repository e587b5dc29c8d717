import Derived.Test.YtalncjhldkcmaaaGreatFb16
import Derived.Test.YtalncjhldkcmaaaGreatFb08
import Derived.Test.YtalncjhldkcmaaaGreatFb11
import Derived.Test.YtalncjhldkcmaaaGreatFb19
import Derived.Test.YtalncjhldkcmaaaGreatFb00
import Derived.RangeFuncRecord
import Derived.Test.YtalncjhldkcmaaaGreatFb02
namespace Go.Proofs.YtalncjhldkcmaaaGreat
open _root_.Go.Proofs.Tryz
set_option maxHeartbeats 16000000
set_option maxRecDepth 8000
section
open Go.RowKit Go.Shelf
theorem has_keeps {S:Nat->Prop} {w w':World} {b:Nat} {c:Nat->Int} (h:Has w b c) (hk:Keeps S w w') (hl:b<w.heap.size) (hs:¬ S b):Has w' b c :=
 ⟨fun i hi=>(hk.cell (p:=⟨b,i,none⟩) hl hs).trans (h.1 i hi),fun i=>(hk.frozen (p:=⟨b,i,none⟩) hl hs).trans (h.2 i)⟩
def PT.nil:PT:=⟨0,0,0,0,0,0,0,0,0,0⟩
namespace Led
def sideN (L:Led) (n:Nat):Nat:=(L.box n).getD 0
def tubeD (L:Led) (n:Nat):PT:=(L.tube n).getD PT.nil
def pouredN (L:Led) (a b:Nat):Nat:=(L.pour a b).getD 0
theorem tubeD_ok {L:Led} (h:L.Ok) (n:Nat):(L.tubeD n).Ok:=by
 unfold tubeD
 cases e:L.tube n with
 | none=>exact ⟨by decide,by decide,by decide,by decide,by decide,by decide,by decide,by decide,by decide,by decide⟩
 | some q=>exact (h.t1 _ ((tube_mem h).1 e)).2.2.ok
theorem sideN_lt {L:Led} (h:L.Ok) (n:Nat):L.sideN n<6:=by
 unfold sideN
 cases e:L.box n with
 | none=>decide
 | some s=>have:=(h.b1 _ ((box_mem h).1 e)).2.2.2;simp only at this;show s<6;omega
theorem pouredN_lt {L:Led} (h:L.Ok) (a b:Nat):L.pouredN a b<=1000000:=by
 unfold pouredN
 cases e:L.pour a b with
 | none=>decide
 | some s=>exact (h.p1 _ ((pour_mem h).1 e)).2.2.2.2
end Led
structure TxL (n₀:Nat) (w:World) (b:Nat) (L:Led):Prop where
 tx:TxAt n₀ w b L.kvs
 ok:L.Ok
 few:L.kvs.length<7000
theorem TxL.below {n₀ b:Nat} {L:Led} {w w':World} (h:TxL n₀ w b L) (hb:Below w.heap.size w w'):TxL n₀ w' b L:=⟨h.tx.below hb,h.ok,h.few⟩
theorem TxL.toks {n₀ b:Nat} {L:Led} {w:World} (h:TxL n₀ w b L):∀ t∈L.ts,t.2.Ok/\t.1<1024:=fun t ht=>⟨(h.ok.t1 t ht).2.2.ok,by have:=(h.ok.t1 t ht).2.1;omega⟩
theorem TxL.poks {n₀ b:Nat} {L:Led} {w:World} (h:TxL n₀ w b L):∀ t∈L.ps,t.1<1000/\t.2.1<1000:=fun t ht=>by have:=h.ok.p1 t ht;omega
theorem TxL.fewT {n₀ b:Nat} {L:Led} {w:World} (h:TxL n₀ w b L):L.ts.length<7000:=by have:=h.few;rw [Led.len] at this;omega
theorem TxL.fewP {n₀ b:Nat} {L:Led} {w:World} (h:TxL n₀ w b L):L.ps.length<7000:=by have:=h.few;rw [Led.len] at this;omega
theorem side_led (n₀ b n:Nat) (L:Led) (w:World) (h:TxL n₀ w b L) (hn:n<1000) :
  Calls prog 146 #[.pointer (some ⟨b,0,none⟩),.int .i64 n] w fun e w'=>e=.returned (.int .i64 (L.sideN n))/\Below w.heap.size w w':=by
 have hg:=Led.get_box h.ok (n:=n) (by omega)
 unfold Led.sideN
 cases e:L.box n with
 | none=>rw [e] at hg;exact side_none n₀ b n L.kvs w h.tx (by omega) hg
 | some s =>
  rw [e] at hg
  have hs:=(h.ok.b1 _ ((Led.box_mem h.ok).1 e)).2.2.2
  have:=side_some n₀ b n L.kvs ⟨#[UInt8.ofNat s]⟩ (by show 0<1;omega) w h.tx (by omega) hg
  have e2:((⟨#[UInt8.ofNat s]⟩:ByteArray)[0]'(by show 0<1;omega)).toNat=s:=ofNat_lt (by simp only at hs;omega)
  rw [e2] at this
  exact this
theorem tube_led (n₀ b n:Nat) (L:Led) (w:World) (h:TxL n₀ w b L) (hn:n<1000) :
  Calls prog 143 #[.pointer (some ⟨b,0,none⟩),.int .i64 n] w fun e w'=>e=.returned (.tuple #[(L.tubeD n).val,.bool (L.tube n).isSome])/\Below w.heap.size w w':=by
 have hg:=Led.get_tube h.ok (n:=n) (by omega)
 have hok:=Led.tubeD_ok h.ok n
 unfold Led.tubeD at hok ⊢
 cases e:L.tube n with
 | none=>rw [e] at hg;exact tube_none n₀ b n L.kvs w h.tx (by omega) hg
 | some q=>rw [e] at hg hok;exact tube_some n₀ b n L.kvs q hok w h.tx (by omega) hg
theorem poured_led (n₀ b x y:Nat) (L:Led) (w:World) (h:TxL n₀ w b L) (hx:x<1000) (hy:y<1000) :
  Calls prog 145 #[.pointer (some ⟨b,0,none⟩),.int .i64 x,.int .i64 y] w fun e w'=>e=.returned (.int .i64 (L.pouredN x y))/\Below w.heap.size w w':=by
 have hg:=Led.get_pour h.ok (a:=x) (b:=y) (by omega) (by omega)
 have hl:=Led.pouredN_lt h.ok x y
 unfold Led.pouredN at hl ⊢
 cases e:L.pour x y with
 | none=>rw [e] at hg;exact poured_none n₀ b x y L.kvs w h.tx (by omega) (by omega) hg
 | some v=>rw [e] at hg hl;exact poured_some n₀ b x y v L.kvs (by simp only [Option.getD_some] at hl;omega) w h.tx (by omega) (by omega) hg
theorem occupant_led (n₀ b:Nat) (box:Int) (px py:Nat) (hpx:px<5) (hpy:py<5) (L:Led) (w:World) (h:TxL n₀ w b L) :
  Calls prog 148 #[.pointer (some ⟨b,0,none⟩),.int .i64 box,pl px py] w fun e w'=>e=.returned (.int .i64 (occN px py (L.ts.filter (inBox box))))/\Below w.heap.size w w' :=
 occupant_any n₀ b box px py (by omega) (by omega) L.kvs L.ts h.toks (Led.sel_ts h.ok) w h.tx
def PutL (b:Nat) (L:Led) (w:World) (e:Ending) (w':World):Prop:=e=.returned (.tuple #[])/\TxL w'.heap.size w' b L/\Keeps (fun g=>g=b) w w'
theorem PutL.from {b:Nat} {L:Led} {w w1 w':World} {e:Ending} (h:PutL b L w1 e w') (hb:Below w.heap.size w w1):PutL b L w e w':=⟨h.1,h.2.1,(below_toKeeps hb _).trans h.2.2⟩
theorem ins_len {α:Type} {p q:α->Bool} {x:α} (hpq:∀ a,p a=true->q a=false):∀ l:List α,(l.filter p++x::l.filter q).length<=l.length+1
 | []=>by simp
 | a::l=>by
  have ih:=ins_len (x:=x) hpq l
  simp only [List.length_append,List.length_cons,List.filter_cons] at ih ⊢
  cases hp:p a with
  | true=>rw [hpq a hp];simp;omega
  | false=>cases hq:q a <;> simp <;> omega
theorem insB_len (l:List BN) (n s:Nat):(insB l n s).length<=l.length+1:=ins_len (fun a h=>by simp only [decide_eq_true_eq] at h;simp only [decide_eq_false_iff_not];omega) l
theorem insT_len (l:List TN) (n:Nat) (q:PT):(insT l n q).length<=l.length+1:=ins_len (fun a h=>by simp only [decide_eq_true_eq] at h;simp only [decide_eq_false_iff_not];omega) l
theorem insP_len (l:List PN) (a b v:Nat):(insP l a b v).length<=l.length+1:=ins_len (fun a h=>by simp only [decide_eq_true_eq] at h;simp only [decide_eq_false_iff_not];omega) l
theorem put_led {b:Nat} {L':Led} {l:List KV} {w w':World} {e:Ending} (h:PutEnds b 147 l w e w') (hl:l=L'.kvs) (hok:L'.Ok) (hf:L'.kvs.length<7000):PutL b L' w e w':=by
 subst hl;exact ⟨h.1,⟨h.2.1,hok,hf⟩,h.2.2⟩
theorem setSide_led (n₀ b n s:Nat) (L:Led) (w:World) (h:TxL n₀ w b L) (hn:1<=n/\n<=9) (hs:1<=s/\s<=5) (hf:L.kvs.length+1<7000) :
  Calls prog 105 #[.pointer (some ⟨b,0,none⟩),.int .i64 n,.int .i64 s] w (PutL b { L with bs:=insB L.bs n s } w) :=
 (setSide_any n₀ b n s L.kvs (by omega) w h.tx (by omega) (by omega)).mono fun e w' hp=>put_led hp (Led.ins_box h.ok n s (by omega)) (h.ok.insB hn hs) (by have:=insB_len L.bs n s;rw [Led.len] at hf ⊢;simp only;omega)
theorem setTube_led (n₀ b n:Nat) (q:PT) (hq:q.Good) (L:Led) (w:World) (h:TxL n₀ w b L) (hn:1<=n/\n<=999) (hf:L.kvs.length+1<7000) :
  Calls prog 152 #[.pointer (some ⟨b,0,none⟩),.int .i64 n,q.val] w (PutL b { L with ts:=insT L.ts n q } w) :=
 (setTube_any n₀ b n L.kvs q hq.ok w h.tx (by omega) (by omega)).mono fun e w' hp=>put_led hp (Led.ins_tube h.ok n q (by omega)) (h.ok.insT hn hq) (by have:=insT_len L.ts n q;rw [Led.len] at hf ⊢;simp only;omega)
theorem setPoured_led (n₀ b x y v:Nat) (L:Led) (w:World) (h:TxL n₀ w b L) (hx:1<=x/\x<y/\y<=999) (hv:1<=v/\v<=1000000) (hf:L.kvs.length+1<7000) :
  Calls prog 157 #[.pointer (some ⟨b,0,none⟩),.int .i64 x,.int .i64 y,.int .i64 v] w (PutL b { L with ps:=insP L.ps x y v } w) :=
 (setPoured_any n₀ b x y v L.kvs (by omega) w h.tx (by omega) (by omega) (by omega)).mono fun e w' hp=>put_led hp (Led.ins_pour h.ok x y v (by omega) (by omega)) (h.ok.insP hx hv) (by have:=insP_len L.ps x y v;rw [Led.len] at hf ⊢;simp only;omega)
theorem change_led (n₀ b n f:Nat) (cap:Array Value) (q q':PT) (hq:q'.Good) (L:Led) (w:World) (h:TxL n₀ w b L) (hn:1<=n/\n<=999) (hf:L.kvs.length+1<7000) (ht:L.tube n=some q)
  (eg:∀ args w,(callFunc f args).run prog w=.ok (.enter f args) w) (hF:Turns f cap w.heap.size w q q') :
  Calls prog 153 #[.pointer (some ⟨b,0,none⟩),.int .i64 n,.func (.func f) #[] cap] w (PutL b { L with ts:=insT L.ts n q' } w) :=
 (change_any n₀ b n f cap L.kvs q q' ((h.ok.t1 _ ((Led.tube_mem h.ok).1 ht)).2.2.ok) hq.ok w h.tx (by omega) (by omega) (by rw [Led.get_tube h.ok (by omega),ht];rfl) eg hF).mono fun e w' hp=>put_led hp (Led.ins_tube h.ok n q' (by omega)) (h.ok.insT hn hq) (by have:=insT_len L.ts n q';rw [Led.len] at hf ⊢;simp only;omega)
end
section
open Go.RowKit
def boolsN (n:Nat) (S:Nat->Bool):Array Value:=((List.range n).map fun i=>Value.bool (S i)).toArray
theorem boolsN_get {n:Nat} {S:Nat->Bool} {i:Nat} (hi:i<n):(boolsN n S)[i]? = some (.bool (S i)):=by simp [boolsN,hi]
theorem boolsN_congr {n:Nat} {S T:Nat->Bool} (e:∀ i,i<n->S i=T i):boolsN n S=boolsN n T :=
 congrArg List.toArray (List.map_congr_left fun i hi=>by rw [e i (List.mem_range.1 hi)])
theorem boolsN_set {n:Nat} {S:Nat->Bool} {i:Nat} (x:Bool):(boolsN n S).set! i (.bool x)=boolsN n (fun j=>if j=i then x else S j):=by
 apply Array.toList_inj.1
 apply List.ext_getElem?
 intro j
 simp only [boolsN,Array.set!_eq_setIfInBounds,List.setIfInBounds_toArray]
 by_cases hj:j<n
 ·by_cases e:j=i
  ·subst e;simp [hj]
  ·rw [List.getElem?_set_ne (by omega)];simp [hj,e]
 ·rw [List.getElem?_eq_none (by simp;omega),List.getElem?_eq_none (by simp;omega)]
def GroupAt (w:World) (g:Nat) (S:Nat->Bool):Prop:=w.heap[g]? = some (.cells (boolsN 1000 S) 229 (0,0))
theorem GroupAt.cell {w:World} {g:Nat} {S:Nat->Bool} (h:GroupAt w g S) {i:Nat} (hi:i<1000):w.cell? ⟨g,i,none⟩=some (.bool (S i)):=by
 have:=boolsN_get (S:=S) hi
 simp only [World.cell?,show w.heap[g]? = _ from h]
 simpa using this
theorem GroupAt.fz {w:World} {g:Nat} {S:Nat->Bool} (h:GroupAt w g S) (i:Nat):w.frozen? ⟨g,i,none⟩=false:=by simp [World.frozen?,show w.heap[g]? = _ from h]
theorem GroupAt.lt {w:World} {g:Nat} {S:Nat->Bool} (h:GroupAt w g S):g<w.heap.size:=(Array.getElem?_eq_some_iff.1 h).1
theorem GroupAt.congr {w:World} {g:Nat} {S T:Nat->Bool} (h:GroupAt w g S) (e:∀ i,i<1000->S i=T i):GroupAt w g T:=by
 unfold GroupAt at *;rw [<- boolsN_congr e];exact h
theorem GroupAt.set {w:World} {g:Nat} {S:Nat->Bool} (h:GroupAt w g S) (i:Nat) (x:Bool):GroupAt (w.setCell ⟨g,i,none⟩ (.bool x)) g (fun j=>if j=i then x else S j):=by
 unfold GroupAt
 rw [<- boolsN_set]
 exact heap_setCell_same w g i _ _ _ h
theorem GroupAt.below {w w':World} {g:Nat} {S:Nat->Bool} (h:GroupAt w g S) (hb:Below w.heap.size w w'):GroupAt w' g S:=(hb.block g h.lt).trans h
def orL (S:Nat->Bool) (zs:List Nat):Nat->Bool:=fun j=>S j||zs.contains j
theorem orL_step (S:Nat->Bool) (zs:List Nat) (z j:Nat):(if j=z then true else orL S zs j)=orL S (zs++[z]) j:=by
 unfold orL
 by_cases h:j=z
 ·subst h;simp
 ·simp [h]
theorem orL_nil (S:Nat->Bool) (j:Nat):S j=orL S [] j:=by simp [orL]
def natsI (zs:List Nat):List Int:=zs.map fun (n:Nat)=>(n:Int)
theorem add_any (g:Nat) (S:Nat->Bool) (v:Value) (zs:List Nat) (hz:∀ z∈zs,z<1000) (hl:zs.length<9000) (w:World) (hG:GroupAt w g S) (hv:IntsIn w v (natsI zs)) (hne:∀ k,v.ownBlock=some k->k≠g) :
  Calls prog 162 #[.pointer (some ⟨g,0,none⟩),v] w fun e w'=>e=.returned (.tuple #[])/\GroupAt w' g (orL S zs)/\Keeps (fun k=>k=g) w w':=by
 rcases hv with ⟨gb,cap,rfl,hgl,hcs⟩ | ⟨rfl,hnil⟩
 ·have hgb:gb≠g:=hne gb rfl
  have hlen:(natsI zs).length=zs.length:=by simp [natsI]
  rw [hlen]
  clear hne
  have HC:=hid hcs
  have HZ:=hid hz
  clear hcs hz
  go_enter func162,ntmps162
  go_wp2_with fail
  go_loopg [8] zs.length (fun gk i wr=>∃ m:Nat,m+gk=zs.length/\i=.int .i64 m/\GroupAt wr g (orL S (zs.take m))/\Keeps (fun k=>k=g) w wr)
  case atStart=>exact ⟨0,by omega,rfl,hG.congr (fun i _=>by simp [orL]),Keeps.refl _ _⟩
  case round =>
   obtain ⟨m,hm,rfl,hgr,hk⟩:=hrel
   have HM:=hid hm
   have hmle:m<=zs.length:=by omega
   clear hm
   by_cases hlt:m<zs.length
   ·have hlt':(m:Int)<(zs.length:Int):=by omega
    have hcm:=(hk.cell (p:=⟨gb,m,none⟩) hgl hgb).trans (HC.out m (by omega))
    have hzm:=HZ.out zs[m] (List.getElem_mem hlt)
    have hfz:=hgr.fz zs[m]
    have hce:=hgr.cell hzm
    simp only [natsI,List.getElem_map] at hcm
    have Hs:=hid (hgr.set zs[m] true)
    have HT:=hid (List.take_succ_eq_append_getElem hlt)
    generalize zs[m]=z at *
    go_wp2
    go_roundg (gk - 1)
    case measure=>have:=HM.out;omega
    case rel=>exact ⟨m+1,by have:=HM.out;omega,by go_num,Hs.out.congr (fun i _=>by rw [HT.out];exact orL_step S _ z i),hk.setCell (p:=⟨g,z,none⟩) (.inl rfl) _⟩
   ·have hme:m=zs.length:=by omega
    have HA:=hid (show zs.take m=zs by rw [hme];simp)
    clear hme
    go_wp2
    go_end0
    exact ⟨rfl,by rw [HA.out] at hgr;exact hgr,hk⟩
 ·have:zs=[]:=by simpa [natsI] using hnil
  subst this
  go_enter func162,ntmps162
  go_wp2_with fail
  go_loopw [8] (fun i wr=>i=.int .i64 0/\wr=w) (fun _ _=>0)
  case atStart=>exact ⟨rfl,rfl⟩
  case round =>
   obtain ⟨rfl,rfl⟩:=hrel
   go_wp2
   go_end0
   exact ⟨rfl,hG.congr (fun i _=>orL_nil S i),Keeps.refl _ _⟩
def memTo (S:Nat->Bool) (m:Nat):List Nat:=(List.range m).filter S
def memG (S:Nat->Bool):List Nat:=memTo S 1000
theorem memTo_in {S:Nat->Bool} {m:Nat} (h:S m=true):memTo S (m+1)=memTo S m++[m]:=by simp [memTo,List.range_succ,h]
theorem memTo_out {S:Nat->Bool} {m:Nat} (h:S m=false):memTo S (m+1)=memTo S m:=by simp [memTo,List.range_succ,h]
theorem memTo_len (S:Nat->Bool) (m:Nat):(memTo S m).length<=m:=by
 have:=List.length_filter_le S (List.range m)
 simpa [memTo] using this
theorem numbers_any (g:Nat) (S:Nat->Bool) (w:World) (hG:GroupAt w g S) :
  Calls prog 173 #[.pointer (some ⟨g,0,none⟩)] w fun e w'=>∃ v,e=.returned v/\w'.ownsRow w.heap.size 3 1 v (memG S).length (intCells (natsI (memG S)))/\Below w.heap.size w w':=by
 obtain ⟨i0,hi,hz0,hz1,hz2⟩:=info_parts Tryz.infoInt
 have hgl:=hG.lt
 have HG:=hid hG
 clear hG
 go_enter func173,ntmps173
 go_wp2_with fail
 go_loopg [3,7] 1000 (fun gk v i wr=>∃ m:Nat,m+gk=1000/\i=.int .i64 m/\wr.ownsRow w.heap.size 3 1 v (memTo S m).length (intCells (natsI (memTo S m)))/\Below w.heap.size w wr)
 case atStart=>exact ⟨0,by omega,rfl,World.ownsRow_nil _ _ _ _,Below.refl _ _⟩
 case round =>
  obtain ⟨m,hm,rfl,hown,hbel⟩:=hrel
  have HM:=hid hm
  have hmle:m<=1000:=by omega
  clear hm
  have hsz:=hbel.size
  by_cases hlt:m<1000
  ·have hgr:=(hbel.cell (p:=⟨g,m,none⟩) hgl).trans (HG.out.cell hlt)
   have hal:=memTo_len S m
   have hlt':(m:Int)<1000:=by omega
   cases hbm:S m with
   | true =>
    have HS:=hid (memTo_in hbm)
    rw [hbm] at hgr
    generalize memTo S m=cur at *
    go_wp2_with fail
    go_region
    go_wp2_with (at_builtin;refine wpList_append_own _ rfl _ _ 36 rfl w.heap.size 3 i0 (.int .i64 0) 1 8 underlying36 hi hz0 hz1 hz2 rfl (by decide) _ _ _ rfl (hown.alloc _) ⟨wr.heap.size,0,none⟩ 1 1 [.int .i64 m] rfl rfl (app_cell wr _) (by intro u hu;simp at hu;subst hu;rfl) (by unfold maxLen;omega) (by omega) (by simp;omega) ?_;intro v' w2 hown' hgrow' _)
    go_roundg (gk - 1)
    case measure=>have:=HM.out;omega
    case rel =>
     refine ⟨m+1,by have:=HM.out;omega,by go_num,?_,?_⟩
     ·rw [HS.out];simpa [intCells,natsI] using hown'
     ·exact ((hbel.alloc (by omega) _).drew).grown hgrow' (by simp;omega) (fun k hk=>(hown.lt k hk).1)
   | false =>
    have HS:=hid (memTo_out hbm)
    rw [hbm] at hgr
    go_wp2_with fail
    go_region
    go_wp2_with fail
    go_roundg (gk - 1)
    case measure=>have:=HM.out;omega
    case rel=>exact ⟨m+1,by have:=HM.out;omega,by go_num,by rw [HS.out];exact hown,hbel.drew⟩
  ·have hme:m=1000:=by omega
   have HA:=hid (show memG S=memTo S m by rw [hme];rfl)
   have hge:(1000:Int)<=(m:Int):=by omega
   clear hme hlt hmle
   go_wp2
   go_ret
   exact ⟨_,rfl,by rw [HA.out];exact hown,hbel⟩
end
section
open Go.RowKit
theorem zero_group:zeroCells229=boolsN 1000 (fun _=>false):=by kernel_rfl
theorem group_new (w:World):GroupAt (w.alloc (.cells zeroCells229 229)) w.heap.size (fun _=>false):=by
 unfold GroupAt
 rw [<- zero_group];exact World.alloc_heap_new w _
theorem one_ints (w:World) (z:Nat):IntsIn (w.alloc (.cells #[.int .i64 z] 3)) (.slice (some ⟨w.heap.size,0,none⟩) 1 1) (natsI [z]):=by
 refine .inl ⟨w.heap.size,1,rfl,by simp,fun i hi => ?_⟩
 have:i=0:=by simp [natsI] at hi;omega
 subst this
 have:=app_cell w z 0 (.int .i64 z) rfl
 rw [addr_add] at this
 exact this
def kinS (S:Nat->Bool) (t:Nat):Nat->Bool:=fun j=>if j=t then false else S j
def single (t:Nat):Nat->Bool:=orL (fun _=>false) [t]
theorem kin_any (n f:Nat) (first:Array Value) (T:(Nat->Bool)->Nat->Bool) (w:World) (hn:n<1000)
  (eg:∀ args w,(callFunc f args).run prog w=.ok (.enter f args) w)
  (hsp:∀ u,Keeps (fun _=>False) w u->∀ g S,GroupAt u g S->w.heap.size<=g->Calls prog f (first++#[.pointer (some ⟨g,0,none⟩)]) u fun e u'=>e=.returned (.tuple #[])/\GroupAt u' g (T S)/\Keeps (fun k=>k=g) u u') :
  Calls prog 119 #[.int .i64 n,.func (.func f) first #[]] w fun e w'=>∃ v,e=.returned v/\w'.ownsRow w.heap.size 3 1 v (memG (kinS (T (single n)) n)).length (intCells (natsI (memG (kinS (T (single n)) n))))/\Below w.heap.size w w':=by
 have hg0:=group_new w
 have hb1:Below w.heap.size w (w.alloc (.cells zeroCells229 229)):=(Below.refl _ w).alloc nlr _
 have hs1:(w.alloc (.cells zeroCells229 229)).heap.size=w.heap.size+1:=by simp
 have hb2:Below w.heap.size w ((w.alloc (.cells zeroCells229 229)).alloc (.cells #[.int .i64 n] 3)):=hb1.alloc (by omega) _
 have hg2:GroupAt ((w.alloc (.cells zeroCells229 229)).alloc (.cells #[.int .i64 n] 3)) w.heap.size (fun _=>false):=hg0.below (bal)
 have hi2:=one_ints (w.alloc (.cells zeroCells229 229)) n
 rw [hs1] at hi2
 have HA:=hid (add_any w.heap.size (fun _=>false) (.slice (some ⟨w.heap.size+1,0,none⟩) 1 1) [n] (fun z hz=>by simp at hz;omega) (by simp) _ hg2 hi2 (fun k hk=>by simp [Value.ownBlock] at hk;omega))
 have HB:=hid hb2
 have HSp:=hid hsp
 clear hsp hg0 hb1 hs1 hg2 hi2 hb2
 go_enter func119,ntmps119
 go_wp2_with (go_at_call 162;refine HA.out.mono ?_;clear HA;rintro e w1 ⟨rfl,hg1,hk1⟩)
 have hB1:Below w.heap.size w w1:=HB.out.trans (hk1.toBelow (B:=w.heap.size) (fun k hk=>by omega) HB.out.size)
 refine (HSp.out w1 ((Keeps.refl _ w).below hB1 nlr) w.heap.size (single n) hg1 nlr).mono ?_
 clear HSp
 rintro e w2 ⟨rfl,hg2,hk2⟩
 have hB2:Below w.heap.size w w2:=hB1.trans (hk2.toBelow (B:=w.heap.size) (fun k hk=>by omega) hB1.size)
 have hce:=hg2.cell hn
 have hfz:=hg2.fz n
 have Hs:=hid (hg2.set n false)
 have hnz:(n:Int)<1000:=by omega
 have HB2:=hid hB2
 have HN:=hid (numbers_any w.heap.size (kinS (T (single n)) n) _ Hs.out)
 clear hg2 hk2 hg1 hk1 hB1 hB2 HB
 go_wp2_with (go_at_call 173;refine HN.out.mono ?_;clear HN;rintro e w3 ⟨v,rfl,hrow,hb3⟩)
 go_ret
 have hB:=(HB2.out.setCell (p:=⟨w.heap.size,n,none⟩) nlr (.bool false))
 exact ⟨v,rfl,⟨hrow.1,by
  rcases hrow.2 with h | ⟨g,cap,cur,rfl,h1,rest⟩
  ·exact .inl h
  ·exact .inr ⟨g,cap,cur,rfl,Nat.le_trans hB.size h1,rest⟩⟩,hB.trans (hb3.mono hB.size)⟩
end
section
open Go.RowKit Go.Shelf
attribute [local go_sem] Oper.semAt_some
structure TxF (n₀:Nat) (w:World) (b:Nat) (L:Led):Prop where
 tx:TxAt n₀ w b L.kvs
 fit:L.Fit
 few:L.kvs.length<7000
theorem TxF.below {n₀ b:Nat} {L:Led} {w w':World} (h:TxF n₀ w b L) (hb:Below w.heap.size w w'):TxF n₀ w' b L:=⟨h.tx.below hb,h.fit,h.few⟩
theorem TxF.toks {n₀ b:Nat} {L:Led} {w:World} (h:TxF n₀ w b L):∀ t∈L.ts,t.2.Ok/\t.1<1024:=fun t ht=>⟨(h.fit.t1 t ht).2.2,by have:=(h.fit.t1 t ht).2.1;omega⟩
theorem Led.sel_bsF {L:Led} (h:L.Fit):sel (boxK 1) (boxK 9) L.kvs=L.bs.map kvB:=by
 unfold sel
 rw [Led.filt,filt_all (l:=L.bs) (fun b hb => ?_),filt_no (l:=L.ts) (fun t ht => ?_),filt_no (l:=L.ps) (fun p hp => ?_)]
 ·simp
 ·have:=h.p1 p hp
  refine decide_eq_false ?_;simp only [kvP,pourK,boxK];omega
 ·have:=h.t1 t ht
  refine decide_eq_false ?_;simp only [kvT,tubeK,boxK];omega
 ·have:=h.b1 b hb
  refine decide_eq_true ?_;simp only [kvB,boxK];omega
def goodB (b:BN):Bool:=decide (1<=b.2)&&decide (b.2<=5)
theorem pre_mapB {pre ts:List BN} {x:KV} (h1:pre <+: ts) (h2:(pre.map kvB++[x]) <+: ts.map kvB):∃ t,x=kvB t/\(pre++[t]) <+: ts:=by
 obtain ⟨r,rfl⟩:=h1
 rw [List.map_append] at h2
 have h3:=(List.prefix_append_right_inj (pre.map kvB)).1 h2
 cases r with
 | nil=>simp at h3
 | cons t r =>
  simp only [List.map_cons] at h3
  have:x=kvB t:=by
   obtain ⟨q,hq⟩:=h3
   simp at hq;exact hq.1
  exact ⟨t,this,⟨r,by simp⟩⟩
theorem boxes_end {w V:World} {D:Nat} {v:Bool} {t0 t1 t3 t4 t5 t6 t7 t8 t9 t10 t11 t12 t13 t14 t15 t16 t17 t18:Value} (hD:V.heap[D]? = some (.deferred (some []))) (hb:Boxed V w.heap.size 4 (.bool v)) (hbel:Below w.heap.size w V) (hd:w.heap.size<D) :
  bodyPostM Fence.wide 0 prog Tryz.f137 (fun e w'=>e=.returned (.bool v)/\Below w.heap.size w w') .ret
   { tmps:=#[t0,t1,.pointer (some ⟨w.heap.size,0,none⟩),t3,t4,t5,t6,t7,t8,t9,t10,t11,t12,t13,t14,t15,t16,t17,t18],defers:=[{ target:=.collected D,args:=#[] }] } V:=by
 have hc:∀ o,(V.putObj D o).cell? ⟨w.heap.size,0,none⟩=some (.bool v):=fun o=>(show Boxed (V.putObj D o) w.heap.size 4 (.bool v) from (World.putObj_heap_other (by omega)).trans hb).cell
 refine ⟨by simp,.inl ⟨_,_,rfl,run_takeDeferred hD,?_⟩⟩
 refine ⟨.bool v,by simp [results,results137,go_sem,hc],rfl,?_⟩
 exact hbel.trans ((Below.refl _ V).grown (grownBy_putObj' V D _) (by have:=hbel.size;omega) (fun k e=>by cases e;omega))
theorem boxesSound_any (n₀ b:Nat) (L:Led) (w:World) (hT:TxF n₀ w b L) :
  Calls prog 137 #[.pointer (some ⟨b,0,none⟩)] w fun e w'=>e=.returned (.bool (L.bs.all goodB))/\Below w.heap.size w w':=by
 have hb1:Below w.heap.size w (w.alloc (.cells #[.bool false] 4)):=(Below.refl _ w).alloc nlr _
 have hT1:=hT.below hb1
 obtain ⟨⟨r,hB,hI⟩,hf⟩:=hT1.tx
 have hn0:n₀<=w.heap.size:=by obtain ⟨⟨r,hB,hI⟩,hf⟩:=hT.tx;exact hI.2.1
 have c0:=hB.c0
 have c1:=hB.c1
 have hk1:∀ u,Calls prog 150 #[.int .i64 1] u fun e w'=>e=.returned (.int .u32 1048577)/\w'=u:=fun u=>boxKey_any 1 (by omega) u
 have hk9:∀ u,Calls prog 150 #[.int .i64 9] u fun e w'=>e=.returned (.int .u32 1048585)/\w'=u:=fun u=>boxKey_any 9 (by omega) u
 have HR:Hid (∀ u,TreeIs n₀ u r L.kvs->Calls prog 78 #[.agg #[.pointer r,.int .i64 L.kvs.length],.int .u32 1048577,.int .u32 1048585] u fun e w' =>
   ∃ lb,e=.returned (.func (.func 128) #[] lb)/\GivesT prog 128 lb encKV n₀ u.heap.size (L.bs.map kvB) w'/\Below u.heap.size u w'):=hid (fun u hu=>by
  have:=range_givesT n₀ r L.kvs.length (boxK 1) (boxK 9) L.kvs u hu
  rw [Led.sel_bsF hT.fit] at this
  exact this)
 have HI:=hid hI
 have HB:=hid (Boxed.new w 4 (.bool false))
 have Hb1:=hid hb1
 clear hb1 hT1 hB hI
 refine calls_marks func137 rfl ?_
 simp only [ntmps137,List.size_toArray,List.length_cons,List.length_nil,Nat.reduceAdd,Nat.reduceSub,Array.replicate_succ,Array.replicate_zero,List.push_toArray,List.append_toArray,List.nil_append,List.cons_append]
 go_wp2_with fail
 have hs1:(w.alloc (.cells #[.bool false] 4)).heap.size=w.heap.size+1:=by simp
 have hb1:=Hb1.out
 have hbx:=HB.out
 generalize w.alloc (.cells #[.bool false] 4)=w1 at *
 refine wp_region_then 6 (by kernel_rfl) (by decide) (by kernel_rfl) (by kernel_rfl) (by kernel_rfl) (by kernel_rfl) ?_
 simp only [List.take_succ_cons,List.take_zero]
 repeat (go_big_quiet_step (first | (go_at_call 150;with_reducible exact Calls.quiet_of_same (hk1 _)) | (go_at_call 150;with_reducible exact Calls.quiet_of_same (hk9 _))))
 refine wpQuiet_nil ?_
 rintro w2 ⟨nq,rfl⟩
 simp only [List.drop_succ_cons,List.drop_zero]
 have hbq:Below w1.heap.size w1 (w1.drewN nq):=below_drewN (Below.refl _ _) nq
 have hI2:=HI.out.below (hbq.mono HI.out.2.1)
 have HR2:=hid (HR.out _ hI2)
 have hbx2:=boxed_below hbx hbq
 have hB2:Below w.heap.size w (w1.drewN nq):=hb1.trans (hbq.mono hb1.size)
 have hs2:(w1.drewN nq).heap.size=w.heap.size+1:=hs1
 clear HR HI hbq hI2 c0 c1 hk1 hk9 Hb1 HB hbx hb1 hs1
 generalize w1.drewN nq=w2 at *
 go_wp2_with (go_at_call 78;refine HR2.out.mono ?_;clear HR2;rintro e w3 ⟨lb,rfl,hG,hb3⟩)
 have h3:=hb3.size
 have hbx3:=boxed_below hbx2 hb3
 have hB3:Below w.heap.size w w3:=hB2.trans (hb3.mono hB2.size)
 have hfit:=hT.fit
 refine (wpIn_wide (n:=0)).1 ?_
 refine rangeM_law (gf:=128) (lb:=lb) rfl (enters_of func128 (by kernel_rfl) rfl) (hG (fun _=>False) w3 (fun k=>k=w.heap.size) (Keeps.refl _ _) (fun _ h=>h.elim) (fun k h=>by omega)) (Below.refl _ _) (fun k h=>by omega) (fun _=>rfl)
  (fun _ pre' V=>∃ pre,pre'=pre.map kvB/\pre <+: L.bs/\pre.all goodB=true/\Boxed V w.heap.size 4 (.bool false)/\Below w.heap.size w V)
  (fun _ c pre V=>c=.ret/\L.bs.all goodB=false/\Boxed V w.heap.size 4 (.bool false)/\Below w.heap.size w V)
  (fun _ s A B row hs hg hr=>by
   obtain ⟨pre,h1,h2,h3,h4,h5⟩:=hs
   exact ⟨pre,h1,h2,h3,own_boxed h4 hg hr,own_below h5 nlr hB3.size hg hr⟩)
  (fun _ c s A B row hs hg hr=>by
   obtain ⟨h1,h2,h3,h4⟩:=hs
   exact ⟨h1,h2,own_boxed h3 hg hr,own_below h4 nlr hB3.size hg hr⟩)
  (fun _ _=>⟨[],rfl,List.nil_prefix,rfl,hbx3,hB3⟩)
  (fun x a' _=>a'={ tmps:=#[.pointer (some ⟨b,0,none⟩),undef,.pointer (some ⟨w.heap.size,0,none⟩),undef,.string x.2,.pointer (some ⟨b,0,none⟩),.pointer (some ⟨b,0,none⟩),.pointer (some ⟨b,0,none⟩),.agg #[.pointer r,.int .i64 L.kvs.length],.int .u32 1048577,.int .u32 1048585,.func (.func 128) #[] lb,.int .u32 x.1,.string x.2,undef,undef,undef,undef,undef],defers:=[] })
  (fun _ _ _ _ _ _ hs _ _=>hs) ?assign ?body ?done ?stop
 case assign =>
  intro y M pre x V K hM1 hM2 _ hi hK
  simp only [encKV]
  gi_wp2
  exact hK _ _ (Keeps.refl _ _) hi rfl
 case body =>
  rintro y M pre' x a' V hy1 hy2 hM1 hM2 hp ⟨pre,rfl,hpre,hall,hres,hbel⟩ rfl
  obtain ⟨t,rfl,hpt⟩:=pre_mapB hpre hp
  have htm:t∈L.bs:=hpt.subset (by simp)
  have hbyte:=(hfit.b1 t htm).2.2
  have hc3:=hres.cell
  have hf3:=hres.frozen
  simp only [kvB]
  have hz:(ByteArray.mk #[UInt8.ofNat t.2]).size=1:=rfl
  have hg:(ByteArray.mk #[UInt8.ofNat t.2])[0]=UInt8.ofNat t.2:=rfl
  have hn:(UInt8.ofNat t.2).toNat=t.2:=ofNat_lt hbyte
  have hF:=isFrom_any 1 (t.2:Int) 5 V
  have hgb:(decide ((1:Int)<=(t.2:Int))&&decide ((t.2:Int)<=5))=goodB t:=by
   unfold goodB
   rw [show decide ((1:Int)<=(t.2:Int))=decide (1<=t.2) from decide_eq_decide.2 (by omega),show decide ((t.2:Int)<=5)=decide (t.2<=5) from decide_eq_decide.2 (by omega)]
  rw [hgb] at hF
  have HFr:=hid hF
  clear hF hgb
  gi_wp2
  refine ⟨trivial,rfl,(CallsIn.inRound _ (callsIn_wide.2 HFr.out)).mono ?_⟩
  clear HFr
  rintro e V1 ⟨rfl,rfl⟩
  cases hgd:goodB t with
  | true =>
   gi_wp2
   exact ⟨Keeps.refl _ _,pre++[t],by rw [List.map_append,List.map_singleton];rfl,hpt,by rw [List.all_append,hall];simp [hgd],hres,hbel⟩
  | false =>
   gi_wp2
   refine ⟨(Keeps.refl (fun k=>k=w.heap.size\/M<=k) V1).setCell (p:=⟨w.heap.size,0,none⟩) (.inl (.inl rfl)) _,rfl,?_,hres.set _,hbel.setCell (p:=⟨w.heap.size,0,none⟩) nlr _⟩
   rw [List.all_eq_false]
   exact ⟨t,htm,by simp [hgd]⟩
 case done =>
  rintro M V hM ⟨pre,he,hpre,hall,hres,hbel⟩ hD
  have hpt:pre=L.bs:=by
   have:=congrArg List.length he
   simp at this
   exact hpre.eq_of_length this.symm
  subst hpt
  have hc3:=hres.cell
  have hf3:=hres.frozen
  go_wp2_with fail
  have hD':(V.setCell ⟨w.heap.size,0,none⟩ (.bool true)).heap[w3.heap.size]? = some (.deferred (some [])):=(((Keeps.refl (fun k=>k=w.heap.size) V).setCell (p:=⟨w.heap.size,0,none⟩) (.inl rfl) _).block w3.heap.size (Array.getElem?_eq_some_iff.1 hD).1 (by omega)).trans hD
  exact boxes_end hD' (hres.set (.bool true)) (hbel.setCell (p:=⟨w.heap.size,0,none⟩) nlr (.bool true)) (by omega)
 case stop =>
  rintro M c pre V hM hp ⟨rfl,hno,hres,hbel⟩ hD
  refine (wpIn_wide (n:=0)).2 ?_
  go_wp2_with fail
  rw [hno]
  exact boxes_end hD hres hbel (by omega)
end
end Go.Proofs.YtalncjhldkcmaaaGreat
