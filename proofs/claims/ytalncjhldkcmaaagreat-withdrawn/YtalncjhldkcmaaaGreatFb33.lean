import Derived.Laws.AppendOwn
import Derived.Test.YtalncjhldkcmaaaGreatFb21
import Derived.Test.YtalncjhldkcmaaaGreatFb23
import Derived.Test.YtalncjhldkcmaaaGreatFb32
import Derived.Test.YtalncjhldkcmaaaGreatFb27
import Derived.Test.YtalncjhldkcmaaaGreatFb28
import Derived.Test.YtalncjhldkcmaaaGreatFb03
import Derived.Test.YtalncjhldkcmaaaGreatFb00
import Derived.Test.YtalncjhldkcmaaaGreatFb13
import Derived.Test.YtalncjhldkcmaaaGreatFb14
namespace Go.Proofs.YtalncjhldkcmaaaGreat
open _root_.Go.Proofs.Tryz
set_option maxHeartbeats 16000000
set_option maxRecDepth 8000
section
open Go
def AllC (C:Value->Prop) (w:World) (g:Nat):Prop:=∀ o v,w.cell? ⟨g,o,none⟩=some v->C v
theorem allC_of {C:Value->Prop} {w:World} {g:Nat} {cur:Array Value} {e:TypeId} (hg:w.heap[g]? = some (.cells cur e (0,0))) (h:∀ v∈cur.toList,C v):AllC C w g:=by
 intro o v hv
 simp only [World.cell?,hg] at hv
 exact h v (by
  obtain ⟨hlt,rfl⟩:=Array.getElem?_eq_some_iff.1 hv
  exact Array.getElem_mem_toList hlt)
theorem allC_cur {C:Value->Prop} {w:World} {g:Nat} {cur:Array Value} {e:TypeId} (hg:w.heap[g]? = some (.cells cur e (0,0))) (h:AllC C w g):∀ v∈cur.toList,C v:=by
 intro v hv
 obtain ⟨o,ho,rfl⟩:=List.getElem_of_mem hv
 refine h o _ ?_
 simp only [World.cell?,hg]
 rw [Array.getElem?_eq_getElem (by simpa using ho)]
 simp
theorem zeroCells_all {C:Value->Prop} (z:Value) (hz:z.cells=#[z]) (hC:C z) (n:Nat):∀ v∈(Builtin.zeroCells z.cells n).toList,C v:=by
 rw [hz]
 intro v hv
 simp [Builtin.zeroCells] at hv
 obtain ⟨a,_,rfl⟩:=hv
 simpa [Nat.mod_one] using hC
variable {P:Program}
theorem run_append_all {C:Value->Prop} (w:World) (base:Nat) (t ty e:TypeId) (i:TypeInfo) (z:Value) (bytes:Nat) (ht:P.underlying t=some (.slice e)) (hi:P.info? e=some i) (hz:i.zero=some z) (hz0:z.cells=#[z]) (hzC:C z)
  (hCo:∀ u,C u->u.oneCell'=true) (hsize:i.size=1) (hby:i.bytes=bytes)
  (v:Value) (n:Nat) (xs:List Value) (hown:w.ownsRow base e 1 v n xs) (hall:∀ g,v.ownBlock=some g->AllC C w g) (hxs:∀ v∈xs,C v)
  (a:Addr) (m c:Nat) (news:List Value) (hl:news.length=m) (hnews:∀ j u,news[j]? = some u->w.cell? (a.add j)=some u) (hn:∀ u∈news,C u)
  (h63:n+m<=maxLen) (hbytes:(n+m)*bytes<=140737488355328) (hbase:base<=w.heap.size) :
  ∃ v' w',(Builtin.append_ #[t,t] ty #[v,.slice (some a) m c]).run P w=.ok v' w'/\w'.ownsRow base e 1 v' (n+m) (xs++news)/\w.grownBy w' v.ownBlock/\(∀ g,v'.ownBlock=some g->AllC C w' g):=by
 have h1:∀ u∈news,u.oneCell'=true:=fun u hu=>hCo u (hn u hu)
 have hzs:z.cells.size=1:=by rw [hz0];rfl
 obtain ⟨v',w',hr,ho,hg,-⟩:=run_append_own (P:=P) w base t ty e i z 1 bytes ht hi hz hsize hby hzs (by omega) v n xs hown a m c news (by omega) hnews h1 h63 hbytes hbase
 refine ⟨v',w',hr,ho,hg,?_⟩
 have hsmall:n+m<=9223372036854775807:=by simp only [maxLen] at h63;omega
 rcases hown.2 with ⟨rfl,rfl⟩ | ⟨g,cap,cur,rfl,hbg,hgg,hnc,hcm,hcs,htake⟩
 ·by_cases hm:m=0
  ·subst hm
   have hn0:news=[]:=List.eq_nil_of_length_eq_zero hl
   subst hn0
   have hr2:(Builtin.append_ #[t,t] ty #[.slice none 0 0,.slice (some a) 0 c]).run P w=.ok (.slice none 0 0) w:=by
    simp [Builtin.append_,run_underlying ht,sizeOf,typeInfo,hi,Builtin.lenOf,Builtin.firstCells,loadCells,loadCellsFrom]
   rw [hr2] at hr
   cases hr
   intro g hg;simp [Value.ownBlock] at hg
  ·have hr2:=run_append_nil (P:=P) w t ty e i z ht hi hz a m c news (by rw [hsize];omega) hnews (by omega) (by omega) (by rw [hby];have hb:=hbytes;simp only [Nat.zero_add] at hb;omega)
   rw [hr2] at hr
   cases hr
   intro g hg
   simp [Value.ownBlock] at hg
   subst hg
   refine allC_of (heap_alloc_new w.drew _) ?_
   intro v hv
   simp only [Array.toList_append,List.mem_append] at hv
   rcases hv with hv | hv
   ·exact hn v (by simpa using hv)
   ·exact zeroCells_all z hz0 hzC _ v hv
 ·by_cases hroom:n+m<=cap
  ·have hfit:n*i.size+news.length<=cur.size:=by rw [hl,hcs,hsize];omega
   have hr2:=run_append_room (P:=P) w t ty e i ht hi g n cap cur hgg a m c news (by rw [hsize];omega) hnews h1 hroom hfit
   rw [hr2] at hr
   cases hr
   intro g' hg'
   simp [Value.ownBlock] at hg'
   subst hg'
   have hc:=allC_cur hgg (hall g rfl)
   refine allC_of (setRow_heap w g cur _ e _ hgg) ?_
   intro v hv
   simp only [List.mem_append] at hv
   rcases hv with (hv | hv) | hv
   ·exact hc v (List.mem_of_mem_take hv)
   ·exact hn v hv
   ·exact hc v (List.mem_of_mem_drop hv)
  ·have holds:∀ j u,xs[j]? = some u->w.cell? ((⟨g,0,none⟩:Addr).add j)=some u:=by
    intro j u hj
    simp only [World.cell?,Addr.add_lit,hgg,Nat.zero_add]
    rw [<- htake] at hj
    rw [List.getElem?_take] at hj
    split at hj
    ·simpa using hj
    ·cases hj
   have hfit:Builtin.nextslicecap (n+m) cap*i.bytes<=281474976710656:=growslice_fits (by omega) (by rw [hby];exact hbytes)
   have hr2:=run_append_grow (P:=P) w t ty e i z ht hi hz ⟨g,0,none⟩ n cap xs (by rw [hsize];exact hown.1) holds a m c news (by rw [hsize];omega) hnews (by omega) (by omega) hfit
   rw [hr2] at hr
   cases hr
   intro g' hg'
   simp [Value.ownBlock] at hg'
   subst hg'
   refine allC_of (heap_alloc_new w.drew _) ?_
   intro v hv
   simp only [Array.toList_append,List.mem_append] at hv
   rcases hv with (hv | hv) | hv
   ·exact hxs v (by simpa using hv)
   ·exact hn v (by simpa using hv)
   ·exact zeroCells_all z hz0 hzC _ v hv
theorem wpList_append_all {C:Value->Prop} {w:World} {ops:Array Oper} {rest:List Oper} {o:Oper} {a:Act} {Q:Exit->Act->World->Prop} (hgd:o.guard=none) (s x:Operand) (t:TypeId)
  (ho:o.op=.call { callee:=.builtin .append,args:=#[s,x],argTypes:=#[t,t] })
  (base:Nat) (e:TypeId) (i:TypeInfo) (z:Value) (bytes:Nat) (ht:P.underlying t=some (.slice e)) (hi:P.info? e=some i) (hz:i.zero=some z) (hz0:z.cells=#[z]) (hzC:C z)
  (hCo:∀ u,C u->u.oneCell'=true) (hsize:i.size=1) (hby:i.bytes=bytes)
  (v:Value) (n:Nat) (xs:List Value) (hs:a.eval s=v) (hown:w.ownsRow base e 1 v n xs) (hall:∀ g,v.ownBlock=some g->AllC C w g) (hxs:∀ v∈xs,C v)
  (ad:Addr) (m c:Nat) (news:List Value) (hx:a.eval x=.slice (some ad) m c) (hl:news.length=m) (hnews:∀ j u,news[j]? = some u->w.cell? (ad.add j)=some u) (hn:∀ u∈news,C u)
  (h63:n+m<=maxLen) (hbytes:(n+m)*bytes<=140737488355328) (hbase:base<=w.heap.size)
  (h:∀ v' w',w'.ownsRow base e 1 v' (n+m) (xs++news)->w.grownBy w' v.ownBlock->(∀ g,v'.ownBlock=some g->AllC C w' g)->wpList P ops Q rest (a.put o.dst v') w'):wpList P ops Q (o::rest) a w:=by
 refine wpList_plain hgd fun _ hK => ?_
 obtain ⟨v',w',hr,h2,h3,h4⟩:=run_append_all (C:=C) (P:=P) w base t o.type e i z bytes ht hi hz hz0 hzC hCo hsize hby v n xs hown hall hxs ad m c news hl hnews hn h63 hbytes hbase
 unfold Oper.wp execOp
 simp only [ho,resolve,invoke,builtin,Sem.run_bind,Sem.run_pure,Result.andThen_ok,List.map_toArray,List.map_cons,List.map_nil,hs,hx,hr]
 exact hK _ _ (h v' w' h2 h3 h4)
end
section
open Go.RowKit
def tF (t:TN):Nat->Int
 | 0=>t.1
 | 1=>t.2.donor
 | 2=>t.2.began
 | 3=>t.2.left
 | 4=>t.2.used
 | 5=>t.2.lost
 | 6=>t.2.status
 | 7=>t.2.thaws
 | 8=>t.2.box
 | 9=>t.2.x
 | 10=>t.2.y
 | _=>0
def pF (p:PN):Nat->Int:=mkP p.1 p.2.1 p.2.2
structure Sim (L:Led) (k:Bk):Prop where
 sides:∀ b,b<10->k.sides b=L.sideN b
 tubes:k.tubes=L.ts.map tF
 poured:k.poured.Perm (L.ps.map pF)
variable {L:Led} {k:Bk} {m:Cm}
theorem ts_lt (h:L.Ok) {i j:Nat} (hij:i<j) (hj:j<L.ts.length):(L.ts[i]'(by omega)).1<(L.ts[j]).1:=List.pairwise_iff_getElem.1 h.ts i j (by omega) hj hij
theorem Sim.find_none (hS:Sim L k) (hO:L.Ok) {n:Nat} (h:L.tube n=.none):findI k.tubes n = -1:=by
 rw [hS.tubes]
 refine findI_miss fun j hj e => ?_
 rw [List.length_map] at hj
 rw [List.getElem_map] at e
 have e':(L.ts[j]).1=n:=by have:((L.ts[j]).1:Int)=n:=e;omega
 have hm:(n,(L.ts[j]).2)∈L.ts:=by
  have:=List.getElem_mem hj
  rw [<- e'];exact this
 rw [(Led.tube_mem hO).2 hm] at h
 cases h
theorem Sim.find_some (hS:Sim L k) (hO:L.Ok) {n:Nat} {q:PT} (h:L.tube n=some q):∃ i,∃ hi:i<L.ts.length,L.ts[i]=(n,q)/\findI k.tubes n=(i:Nat):=by
 obtain ⟨i,hi,e⟩:=List.getElem_of_mem ((Led.tube_mem hO).1 h)
 refine ⟨i,hi,e,?_⟩
 rw [hS.tubes]
 refine findI_hit (by rw [List.length_map];exact hi) (by rw [List.getElem_map,e];rfl) (fun j hj e2 => ?_)
 rw [List.getElem_map] at e2
 have e2':((L.ts[j]'(by omega)).1:Int)=n:=e2
 have:=ts_lt hO hj hi
 rw [e] at this
 have:(L.ts[j]'(by omega)).1<n:=this
 omega
theorem Sim.tube_at (hS:Sim L k) (hO:L.Ok) {n:Nat} {q:PT} (h:L.tube n=some q):tubeAt k.tubes n=tF (n,q):=by
 obtain ⟨i,hi,e,hf⟩:=hS.find_some hO h
 unfold tubeAt
 rw [hf,if_pos (by omega),hS.tubes]
 simp only [Int.toNat_natCast]
 rw [List.getD_eq_getElem?_getD,List.getElem?_eq_getElem (by rw [List.length_map];exact hi),List.getElem_map,e]
 rfl
theorem pF_inj {p q:PN} (h:pF p=pF q):p=q:=by
 have h0:(p.1:Int)=q.1:=congrFun h 0
 have h1:(p.2.1:Int)=q.2.1:=congrFun h 1
 have h2:(p.2.2:Int)=q.2.2:=congrFun h 2
 exact Prod.ext (by omega) (Prod.ext (by omega) (by omega))
theorem Sim.mem_poured (hS:Sim L k) {p:PN}:pF p∈k.poured↔p∈L.ps:=by
 rw [hS.poured.mem_iff,List.mem_map]
 exact ⟨fun ⟨q,hq,e⟩=>pF_inj e ▸ hq,fun h=>⟨p,h,rfl⟩⟩
theorem Sim.of_poured (hS:Sim L k) {x:Nat->Int} (h:x∈k.poured):∃ p∈L.ps,pF p=x:=List.mem_map.1 (hS.poured.mem_iff.1 h)
theorem Sim.poured_at (hS:Sim L k) (hO:L.Ok) (a b:Nat):pouredAt k.poured a b=L.pouredN a b:=by
 unfold pouredAt pairI Led.pouredN
 cases hp:L.pour a b with
 | none =>
  have hno:∀ x∈k.poured,(x 0 == (a:Int)&&x 1 == (b:Int))=false:=by
   intro x hx
   obtain ⟨p,hpm,rfl⟩:=hS.of_poured hx
   rw [Bool.eq_false_iff]
   intro h
   simp only [Bool.and_eq_true,beq_iff_eq] at h
   have e1:(p.1:Int)=a:=h.1
   have e2:(p.2.1:Int)=b:=h.2
   have:(a,b,p.2.2)∈L.ps:=by
    have e3:p=(a,b,p.2.2):=Prod.ext (by omega) (Prod.ext (by show p.2.1=b;omega) rfl)
    rw [<- e3];exact hpm
   rw [(Led.pour_mem hO).2 this] at hp
   cases hp
  have e:k.poured.findIdx (fun p=>p 0 == (a:Int)&&p 1 == (b:Int))=k.poured.length:=List.findIdx_eq_length.2 hno
  rw [e,if_neg (Nat.lt_irrefl _),if_neg (by omega)]
  rfl
 | some v =>
  have hm:=(Led.pour_mem hO).1 hp
  have hx:=hS.mem_poured.2 hm
  have hlt:k.poured.findIdx (fun p=>p 0 == (a:Int)&&p 1 == (b:Int))<k.poured.length:=List.findIdx_lt_length_of_exists ⟨_,hx,by simp [pF,mkP]⟩
  rw [if_pos hlt,if_pos (by omega)]
  simp only [Int.toNat_natCast]
  have hsat:=List.findIdx_getElem (w:=hlt)
  simp only [Bool.and_eq_true,beq_iff_eq] at hsat
  obtain ⟨p,hpm,hpe⟩:=hS.of_poured (List.getElem_mem hlt)
  rw [List.getD_eq_getElem?_getD,List.getElem?_eq_getElem hlt,Option.getD_some]
  rw [<- hpe] at hsat ⊢
  have e1:(p.1:Int)=a:=hsat.1
  have e2:(p.2.1:Int)=b:=hsat.2
  have e3:p=(a,b,p.2.2):=Prod.ext (by omega) (Prod.ext (by show p.2.1=b;omega) rfl)
  rw [e3] at hpm
  have:=(Led.pour_mem hO).2 hpm
  rw [hp] at this
  injection this with this
  show (p.2.2:Int)=v
  omega
theorem Sim.gives (hS:Sim L k) (d:Nat):givesB k.tubes d=!((ofN d L.ts).length == 0):=by
 unfold givesB ofN
 rw [hS.tubes,List.any_map]
 induction L.ts with
 | nil=>rfl
 | cons t l ih =>
  rw [List.any_cons,ih,List.filter_cons]
  have e:((fun t:Nat->Int=>t 1 == (d:Int)) ∘ tF) t=decide ((t.2.donor:Int)=d):=by
   show ((t.2.donor:Int) == (d:Int))=_
   rw [Bool.eq_iff_iff];simp
  rw [e]
  by_cases h:(t.2.donor:Int)=d
  ·simp [h]
  ·simp [h]
end
section
open Go.RowKit
variable {L:Led} {k:Bk} {m:Cm}
def Led.badPl (L:Led) (m:Cm):Bool:=!(decide ((m.x:Int)<L.sideN m.b)&&decide ((m.y:Int)<L.sideN m.b))||(((L.occ m:Nat):Int) != 0&&!((m.k:Int) == 3&&((L.occ m:Nat):Int) == m.t))
theorem occ_is (h:L.occ m≠0):∃ t∈L.ts,t.1=L.occ m/\t.2.box=m.b/\t.2.x=m.x/\t.2.y=m.y:=by
 unfold Led.occ occN at h ⊢
 cases hf:(L.ts.filter (inBox m.b)).find? (atPl m.x m.y) with
 | none=>rw [hf] at h;exact absurd rfl h
 | some t =>
  obtain ⟨ht1,ht2⟩:=List.mem_filter.1 (List.mem_of_find?_eq_some hf)
  have ht3:=List.find?_some hf
  simp only [atPl,decide_eq_true_eq,inBox] at ht3 ht2
  exact ⟨t,ht1,rfl,by omega,ht3.1,ht3.2⟩
theorem Sim.taken (hS:Sim L k) (hI:L.Inv) (hb:1<=m.b) {id:Nat} (hid:(m.k=3/\id=m.t/\1<=m.t)\/(m.k≠3/\∀ q,L.tube id=some q->q.box=0)) :
  k.tubes.any (takenB id m.ints)=(((L.occ m:Nat):Int) != 0&&!((m.k:Int) == 3&&((L.occ m:Nat):Int) == m.t)):=by
 rw [Bool.eq_iff_iff,List.any_eq_true,hS.tubes]
 constructor
 ·rintro ⟨x,hx,h⟩
  obtain ⟨u,hu,rfl⟩:=List.mem_map.1 hx
  simp only [takenB,Bool.and_eq_true,bne_iff_ne,beq_iff_eq] at h
  obtain ⟨⟨⟨⟨h0,h1⟩,h2⟩,h3⟩,h4⟩:=h
  have h0':¬ (u.1:Int)=id:=h0
  have h2':(u.2.box:Int)=m.b:=h2
  have h3':(u.2.x:Int)=m.x:=h3
  have h4':(u.2.y:Int)=m.y:=h4
  have hocc:L.occ m≠0:=fun e=>Led.occ_none hI e u hu (by omega) (by omega) (by omega)
  simp only [Bool.and_eq_true,bne_iff_ne,Bool.not_eq_true',Bool.and_eq_false_iff,beq_eq_false_iff_ne]
  refine ⟨by omega,?_⟩
  rcases hid with ⟨hk,rfl,ht⟩ | ⟨hk,_⟩
  ·refine .inr fun e => ?_
   exact Led.occ_own hI hb (by omega) ht u hu (by omega) (by omega) (by omega) (by omega)
  ·exact .inl (by omega)
 ·intro h
  simp only [Bool.and_eq_true,bne_iff_ne,Bool.not_eq_true',Bool.and_eq_false_iff,beq_eq_false_iff_ne] at h
  obtain ⟨h0,h1⟩:=h
  obtain ⟨t,ht,e1,e2,e3,e4⟩:=occ_is (m:=m) (L:=L) (by omega)
  refine ⟨tF t,List.mem_map.2 ⟨t,ht,rfl⟩,?_⟩
  have hst:t.2.status=1:=(hI.box t ht).1 (by omega)
  have hne:t.1≠id:=by
   rcases hid with ⟨hk,rfl,_⟩ | ⟨hk,hq⟩
   ·rcases h1 with h1 | h1
    ·exact absurd (by omega) h1
    ·omega
   ·intro e
    have:=hq t.2 ((Led.tube_mem hI.ok).2 (by rw [<- e];exact ht))
    omega
  simp only [takenB,Bool.and_eq_true,bne_iff_ne,beq_iff_eq]
  refine ⟨⟨⟨⟨?_,?_⟩,?_⟩,?_⟩,?_⟩
  ·show ¬ (t.1:Int)=id;omega
  ·show (t.2.status:Int)=1;omega
  ·show (t.2.box:Int)=m.b;omega
  ·show (t.2.x:Int)=m.x;omega
  ·show (t.2.y:Int)=m.y;omega
theorem Sim.mis (hS:Sim L k) (hI:L.Inv) (hm:m.Ok) (hb:1<=m.b) {id:Nat} (hid:(m.k=3/\id=m.t/\1<=m.t)\/(m.k≠3/\∀ q,L.tube id=some q->q.box=0)) :
  misI k id m.ints=if (L.sideN m.b:Int) == 0 then 9 else if L.badPl m then 10 else 0:=by
 have h5:k.sides (m.ints 5).toNat=L.sideN m.b:=hS.sides m.b (by have:=hm.b;omega)
 unfold misI Led.badPl
 rw [h5,hS.taken hI hb hid]
 show (if (L.sideN m.b:Int)=0 then 9 else if (L.sideN m.b:Int)<=(m.x:Int)\/(L.sideN m.b:Int)<=(m.y:Int) then 10 else _)=_
 by_cases h0:(L.sideN m.b:Int)=0
 ·have e0:((L.sideN m.b:Int) == 0)=true:=beq_iff_eq.2 h0
  rw [if_pos h0,e0];rfl
 ·have e0:((L.sideN m.b:Int) == 0)=false:=bnf.2 h0
  rw [if_neg h0,e0]
  by_cases h1:(L.sideN m.b:Int)<=(m.x:Int)\/(L.sideN m.b:Int)<=(m.y:Int)
  ·have e:(!(decide ((m.x:Int)<L.sideN m.b)&&decide ((m.y:Int)<L.sideN m.b)))=true:=by
    rw [Bool.not_eq_true',Bool.and_eq_false_iff,decide_eq_false_iff_not,decide_eq_false_iff_not]
    omega
   rw [if_pos h1,e];rfl
  ·have e:(!(decide ((m.x:Int)<L.sideN m.b)&&decide ((m.y:Int)<L.sideN m.b)))=false:=by
    rw [Bool.not_eq_false',Bool.and_eq_true,decide_eq_true_eq,decide_eq_true_eq];omega
   rw [if_neg h1,e,Bool.false_or];rfl
theorem ask_reg (a c d:Bool):askAll 0 ([(4,a),(10,c),(9,d)]:Asks)=if a then 4 else if d then 9 else if c then 10 else 0:=by cases a <;> cases c <;> cases d <;> rfl
theorem ask_mov (a b c d:Bool):askAll 0 ([(7,a),(4,b),(10,c),(9,d)]:Asks)=if b then 4 else if a then 7 else if d then 9 else if c then 10 else 0:=by cases a <;> cases b <;> cases c <;> cases d <;> rfl
theorem ask_ali (a b c d e f g:Bool):askAll 0 ([(6,a),(8,b),(7,c),(4,d),(4,e),(10,f),(9,g)]:Asks)=if d||e then 4 else if a then 6 else if c then 7 else if b then 8 else if g then 9 else if f then 10 else 0:=by
 cases a <;> cases b <;> cases c <;> cases d <;> cases e <;> cases f <;> cases g <;> rfl
theorem ask_pou (a b c d e f g h:Bool):askAll 0 ([(6,a),(8,b),(7,c),(4,d),(8,e),(8,f),(7,g),(4,h)]:Asks)=if d||h then 4 else if a then 6 else if c||g then 7 else if b||e||f then 8 else 0:=by
 cases a <;> cases b <;> cases c <;> cases d <;> cases e <;> cases f <;> cases g <;> cases h <;> rfl
theorem ask_use (a b c:Bool):askAll 0 ([(8,a),(7,b),(4,c)]:Asks)=if c then 4 else if b then 7 else if a then 8 else 0:=by cases a <;> cases b <;> cases c <;> rfl
theorem ask_tak (a b:Bool):askAll 0 ([(7,a),(4,b)]:Asks)=if b then 4 else if a then 7 else 0:=by cases a <;> cases b <;> rfl
theorem ask_one (e:Int) (a:Bool):askAll 0 ([(e,a)]:Asks)=if a then e else 0:=by cases a <;> simp [askAll,askI]
theorem Sim.side (hS:Sim L k) (hm:m.Ok):k.sides (m.ints 5).toNat=L.sideN m.b:=hS.sides m.b (by have:=hm.b;omega)
theorem Sim.f_none (hS:Sim L k) (hI:L.Inv) {n:Nat} (h:(L.tube n).isSome=false):findI k.tubes (n:Int)<0:=by
 have e:L.tube n=.none:=by cases hq:L.tube n with
  | none=>rfl
  | some q=>rw [hq] at h;cases h
 rw [hS.find_none hI.ok e];omega
theorem Sim.f_some (hS:Sim L k) (hI:L.Inv) {n:Nat} (h:(L.tube n).isSome=true):0<=findI k.tubes (n:Int)/\tubeAt k.tubes (n:Int)=tF (n,L.tubeD n):=by
 obtain ⟨q,hq,hD⟩:=Led.tube_of h
 obtain ⟨i,hi,e,hf⟩:=hS.find_some hI.ok hq
 rw [hf,hS.tube_at hI.ok hq,hD]
 exact ⟨by omega,rfl⟩
theorem Sim.err (hS:Sim L k) (hI:L.Inv) (hm:m.Ok):errI k m.ints=L.err m:=by
 have h5:=hS.side hm
 have hk:=hm.k
 have e0:(m.ints 0).toNat=m.k:=by show ((m.k:Nat):Int).toNat=m.k;omega
 unfold errI
 rw [e0]
 unfold Led.err Led.asksT Led.asksO Led.asksD Led.asksB
 have hk':m.k=1\/m.k=2\/m.k=3\/m.k=4\/m.k=5\/m.k=6\/m.k=7\/m.k=8\/m.k=9\/m.k=10\/m.k=11\/m.k=12\/m.k=13\/m.k=14\/m.k=15\/m.k=16:=by omega
 rcases hk' with e | e | e | e | e | e | e | e | e | e | e | e | e | e | e | e
 ·rw [e]
  show errNew k m.ints=askAll 0 ([(9,(L.sideN m.b:Int) != 0)]:Asks)
  rw [ask_one]
  unfold errNew
  rw [h5]
  by_cases h:L.sideN m.b=0
  ·rw [h];rfl
  ·rw [if_pos (by omega),if_pos (by rw [bne_iff_ne];omega)]
 ·rw [e]
  show errReg k m.ints=askAll 0 ([(4,(L.tube m.t).isSome),(10,_),(9,(L.sideN m.b:Int) == 0)]:Asks)
  rw [ask_reg]
  unfold errReg
  show (if 0<=findI k.tubes (m.t:Int) then 4 else misI k (m.t:Int) m.ints)=_
  cases h:(L.tube m.t).isSome with
  | true=>rw [if_pos (hS.f_some hI h).1];rfl
  | false =>
   rw [if_neg (by have:=hS.f_none hI h;omega),hS.mis hI hm (hm.b1 (by omega)) (.inr ⟨by omega,fun q hq=>by rw [hq] at h;cases h⟩)]
   unfold Led.badPl
   rw [e];rfl
 ·rw [e]
  show errMov k m.ints 1=askAll 0 ([(7,((L.tubeD m.t).status:Int) != 1),(4,!(L.tube m.t).isSome),(10,_),(9,(L.sideN m.b:Int) == 0)]:Asks)
  rw [ask_mov]
  unfold errMov
  show (if findI k.tubes (m.t:Int)<0 then 4 else if tubeAt k.tubes (m.t:Int) 6=1 then misI k (m.t:Int) m.ints else 7)=_
  cases h:(L.tube m.t).isSome with
  | false=>rw [if_pos (hS.f_none hI h)];rfl
  | true =>
   rw [if_neg (by have:=(hS.f_some hI h).1;omega),(hS.f_some hI h).2]
   show (if ((L.tubeD m.t).status:Int)=1 then misI k (m.t:Int) m.ints else 7)=_
   by_cases hs:((L.tubeD m.t).status:Int)=1
   ·rw [if_pos hs,hS.mis hI hm (hm.b1 (by omega)) (.inl ⟨e,rfl,hm.t1 (by omega)⟩),hs]
    unfold Led.badPl
    rw [e];rfl
   ·have:(((L.tubeD m.t).status:Int) != 1)=true:=by rw [bne_iff_ne];exact hs
    rw [if_neg hs,this];rfl
 ·rw [e]
  show errAli k m.ints=askAll 0 ([(6,decide (m.o<=m.t)),(8,decide ((L.tubeD m.t).left<m.v)),(7,((L.tubeD m.t).status:Int) != 1),(4,!(L.tube m.t).isSome),(4,(L.tube m.o).isSome),(10,_),(9,(L.sideN m.b:Int) == 0)]:Asks)
  rw [ask_ali]
  unfold errAli
  show (if findI k.tubes (m.t:Int)<0\/0<=findI k.tubes (m.o:Int) then 4 else if (m.o:Int)<(m.t:Int) then 6 else if tubeAt k.tubes (m.t:Int) 6=1 then (if tubeAt k.tubes (m.t:Int) 3<(m.v:Int) then 8 else misI k (m.o:Int) m.ints) else 7)=_
  cases h:(L.tube m.t).isSome with
  | false=>rw [if_pos (.inl (hS.f_none hI h))];rfl
  | true =>
   cases ho:(L.tube m.o).isSome with
   | true=>rw [if_pos (.inr (hS.f_some hI ho).1)];rfl
   | false =>
    have h1:=(hS.f_some hI h).1
    have h2:=hS.f_none hI ho
    have hne:m.o≠m.t:=fun e=>by rw [e,h] at ho;cases ho
    rw [if_neg (by omega),(hS.f_some hI h).2]
    show (if (m.o:Int)<(m.t:Int) then 6 else if ((L.tubeD m.t).status:Int)=1 then (if ((L.tubeD m.t).left:Int)<(m.v:Int) then 8 else misI k (m.o:Int) m.ints) else 7)=_
    by_cases h3:m.o<=m.t
    ·rw [if_pos (by omega),decide_eq_true h3];rfl
    ·rw [if_neg (by omega),decide_eq_false h3]
     by_cases hs:((L.tubeD m.t).status:Int)=1
     ·rw [if_pos hs,hs]
      by_cases h4:(L.tubeD m.t).left<m.v
      ·rw [if_pos (by omega),decide_eq_true h4];rfl
      ·rw [if_neg (by omega),decide_eq_false h4,hS.mis hI hm (hm.b1 (by omega)) (.inr ⟨by omega,fun q hq=>by rw [hq] at ho;cases ho⟩)]
       unfold Led.badPl
       rw [e];rfl
     ·have:(((L.tubeD m.t).status:Int) != 1)=true:=by rw [bne_iff_ne];exact hs
      rw [if_neg hs,this];rfl
 ·rw [e]
  show errPou k m.ints=askAll 0 ([(6,decide (m.o<=m.t)),(8,decide ((L.tubeD m.t).left<m.v)),(7,((L.tubeD m.t).status:Int) != 1),(4,!(L.tube m.t).isSome),(8,decide (1000000<((L.tubeD m.o).left:Int)+m.v)),(8,decide (1000000<(L.pouredN m.t m.o:Int)+m.v)),(7,((L.tubeD m.o).status:Int) != 1),(4,!(L.tube m.o).isSome)]:Asks)
  rw [ask_pou]
  unfold errPou
  show (if findI k.tubes (m.t:Int)<0\/findI k.tubes (m.o:Int)<0 then 4 else if (m.o:Int)<=(m.t:Int) then 6 else if tubeAt k.tubes (m.t:Int) 6=1/\tubeAt k.tubes (m.o:Int) 6=1 then (if tubeAt k.tubes (m.t:Int) 3<(m.v:Int)\/1000000<tubeAt k.tubes (m.o:Int) 3+(m.v:Int)\/1000000<pouredAt k.poured (m.t:Int) (m.o:Int)+(m.v:Int) then 8 else 0) else 7)=_
  cases h:(L.tube m.t).isSome with
  | false=>rw [if_pos (.inl (hS.f_none hI h))];rfl
  | true =>
   cases ho:(L.tube m.o).isSome with
   | false=>rw [if_pos (.inr (hS.f_none hI ho))];rfl
   | true =>
    have h1:=(hS.f_some hI h).1
    have h2:=(hS.f_some hI ho).1
    rw [if_neg (by omega),(hS.f_some hI h).2,(hS.f_some hI ho).2,hS.poured_at hI.ok]
    show (if (m.o:Int)<=(m.t:Int) then 6 else if ((L.tubeD m.t).status:Int)=1/\((L.tubeD m.o).status:Int)=1 then (if ((L.tubeD m.t).left:Int)<(m.v:Int)\/1000000<((L.tubeD m.o).left:Int)+(m.v:Int)\/1000000<(L.pouredN m.t m.o:Int)+(m.v:Int) then 8 else 0) else 7)=_
    by_cases h3:m.o<=m.t
    ·rw [if_pos (by omega),decide_eq_true h3];rfl
    ·rw [if_neg (by omega),decide_eq_false h3]
     by_cases hs:((L.tubeD m.t).status:Int)=1/\((L.tubeD m.o).status:Int)=1
     ·rw [if_pos hs,hs.1,hs.2]
      by_cases h4:((L.tubeD m.t).left:Int)<(m.v:Int)\/1000000<((L.tubeD m.o).left:Int)+(m.v:Int)\/1000000<(L.pouredN m.t m.o:Int)+(m.v:Int)
      ·have:(decide ((L.tubeD m.t).left<m.v)||decide (1000000<((L.tubeD m.o).left:Int)+m.v)||decide (1000000<(L.pouredN m.t m.o:Int)+m.v))=true:=by
        simp only [Bool.or_eq_true,decide_eq_true_eq];omega
       rw [if_pos h4,this];rfl
      ·have:(decide ((L.tubeD m.t).left<m.v)||decide (1000000<((L.tubeD m.o).left:Int)+m.v)||decide (1000000<(L.pouredN m.t m.o:Int)+m.v))=false:=by
        simp only [Bool.or_eq_false_iff,decide_eq_false_iff_not];omega
       rw [if_neg h4,this];rfl
     ·have:((((L.tubeD m.t).status:Int) != 1)||(((L.tubeD m.o).status:Int) != 1))=true:=by
       rw [Bool.or_eq_true,bne_iff_ne,bne_iff_ne];omega
      rw [if_neg hs,this];rfl
 ·rw [e]
  show errUse k m.ints=askAll 0 ([(8,decide ((L.tubeD m.t).left<m.v)||decide (1000000<((L.tubeD m.t).used:Int)+m.v)),(7,((L.tubeD m.t).status:Int) == 3),(4,!(L.tube m.t).isSome)]:Asks)
  rw [ask_use]
  unfold errUse
  show (if findI k.tubes (m.t:Int)<0 then 4 else if tubeAt k.tubes (m.t:Int) 6=3 then 7 else if tubeAt k.tubes (m.t:Int) 3<(m.v:Int)\/1000000<tubeAt k.tubes (m.t:Int) 4+(m.v:Int) then 8 else 0)=_
  cases h:(L.tube m.t).isSome with
  | false=>rw [if_pos (hS.f_none hI h)];rfl
  | true =>
   rw [if_neg (by have:=(hS.f_some hI h).1;omega),(hS.f_some hI h).2]
   show (if ((L.tubeD m.t).status:Int)=3 then 7 else if ((L.tubeD m.t).left:Int)<(m.v:Int)\/1000000<((L.tubeD m.t).used:Int)+(m.v:Int) then 8 else 0)=_
   by_cases hs:((L.tubeD m.t).status:Int)=3
   ·rw [if_pos hs,hs];rfl
   ·have h3:(((L.tubeD m.t).status:Int) == 3)=false:=bnf.2 hs
    rw [if_neg hs,h3]
    by_cases h4:((L.tubeD m.t).left:Int)<(m.v:Int)\/1000000<((L.tubeD m.t).used:Int)+(m.v:Int)
    ·have:(decide ((L.tubeD m.t).left<m.v)||decide (1000000<((L.tubeD m.t).used:Int)+m.v))=true:=by
      simp only [Bool.or_eq_true,decide_eq_true_eq];omega
     rw [if_pos h4,this];rfl
    ·have:(decide ((L.tubeD m.t).left<m.v)||decide (1000000<((L.tubeD m.t).used:Int)+m.v))=false:=by
      simp only [Bool.or_eq_false_iff,decide_eq_false_iff_not];omega
     rw [if_neg h4,this];rfl
 ·rw [e]
  show errTak k m.ints=askAll 0 ([(7,((L.tubeD m.t).status:Int) != 1),(4,!(L.tube m.t).isSome)]:Asks)
  rw [ask_tak]
  unfold errTak
  show (if findI k.tubes (m.t:Int)<0 then 4 else if tubeAt k.tubes (m.t:Int) 6=1 then 0 else 7)=_
  cases h:(L.tube m.t).isSome with
  | false=>rw [if_pos (hS.f_none hI h)];rfl
  | true =>
   rw [if_neg (by have:=(hS.f_some hI h).1;omega),(hS.f_some hI h).2]
   show (if ((L.tubeD m.t).status:Int)=1 then 0 else 7)=_
   by_cases hs:((L.tubeD m.t).status:Int)=1
   ·rw [if_pos hs,hs];rfl
   ·have:(((L.tubeD m.t).status:Int) != 1)=true:=by rw [bne_iff_ne];exact hs
    rw [if_neg hs,this];rfl
 ·rw [e]
  show errMov k m.ints 2=askAll 0 ([(7,((L.tubeD m.t).status:Int) != 2),(4,!(L.tube m.t).isSome),(10,_),(9,(L.sideN m.b:Int) == 0)]:Asks)
  rw [ask_mov]
  unfold errMov
  show (if findI k.tubes (m.t:Int)<0 then 4 else if tubeAt k.tubes (m.t:Int) 6=2 then misI k (m.t:Int) m.ints else 7)=_
  cases h:(L.tube m.t).isSome with
  | false=>rw [if_pos (hS.f_none hI h)];rfl
  | true =>
   rw [if_neg (by have:=(hS.f_some hI h).1;omega),(hS.f_some hI h).2]
   show (if ((L.tubeD m.t).status:Int)=2 then misI k (m.t:Int) m.ints else 7)=_
   by_cases hs:((L.tubeD m.t).status:Int)=2
   ·rw [if_pos hs,hS.mis hI hm (hm.b1 (by omega)) (.inr ⟨by omega,fun q hq=>by
     have hd:=Led.tubeD_some hq
     have:=hI.box _ ((Led.tube_mem hI.ok).1 hq)
     rw [hd] at hs
     simp only at this
     omega⟩),hs]
    unfold Led.badPl
    rw [e];rfl
   ·have:(((L.tubeD m.t).status:Int) != 2)=true:=by rw [bne_iff_ne];exact hs
    rw [if_neg hs,this];rfl
 ·rw [e]
  show errDon k m.ints=askAll 0 ([(5,((ofN m.d L.ts).length:Int) == 0)]:Asks)
  rw [ask_one]
  unfold errDon
  show (if givesB k.tubes (m.d:Int) then 0 else 5)=_
  rw [hS.gives]
  by_cases h:(ofN m.d L.ts).length=0
  ·rw [h];rfl
  ·have h1:((ofN m.d L.ts).length == 0)=false:=beq_eq_false_iff_ne.2 h
   have h2:(((ofN m.d L.ts).length:Int) == 0)=false:=bnf.2 (by omega)
   rw [h1,h2];rfl
 ·rw [e]
  show errBox k m.ints=askAll 0 ([(9,(L.sideN m.b:Int) == 0)]:Asks)
  rw [ask_one]
  unfold errBox
  rw [h5]
  by_cases h:(L.sideN m.b:Int)=0
  ·rw [if_pos h,h];rfl
  ·have h2:((L.sideN m.b:Int) == 0)=false:=bnf.2 h
   rw [if_neg h,h2];rfl
 ·rw [e]
  show errBox k m.ints=askAll 0 ([(9,(L.sideN m.b:Int) == 0)]:Asks)
  rw [ask_one]
  unfold errBox
  rw [h5]
  by_cases h:(L.sideN m.b:Int)=0
  ·rw [if_pos h,h];rfl
  ·have h2:((L.sideN m.b:Int) == 0)=false:=bnf.2 h
   rw [if_neg h,h2];rfl
 ·rw [e]
  show errTub k m.ints=askAll 0 ([(4,!(L.tube m.t).isSome)]:Asks)
  rw [ask_one]
  unfold errTub
  show (if findI k.tubes (m.t:Int)<0 then 4 else 0)=_
  cases h:(L.tube m.t).isSome with
  | false=>rw [if_pos (hS.f_none hI h)];rfl
  | true=>rw [if_neg (by have:=(hS.f_some hI h).1;omega)];rfl
 ·rw [e]
  show errBox k m.ints=askAll 0 ([(9,(L.sideN m.b:Int) == 0)]:Asks)
  rw [ask_one]
  unfold errBox
  rw [h5]
  by_cases h:(L.sideN m.b:Int)=0
  ·rw [if_pos h,h];rfl
  ·have h2:((L.sideN m.b:Int) == 0)=false:=bnf.2 h
   rw [if_neg h,h2];rfl
 ·rw [e]
  show errDon k m.ints=askAll 0 ([(5,((ofN m.d L.ts).length:Int) == 0)]:Asks)
  rw [ask_one]
  unfold errDon
  show (if givesB k.tubes (m.d:Int) then 0 else 5)=_
  rw [hS.gives]
  by_cases h:(ofN m.d L.ts).length=0
  ·rw [h];rfl
  ·have h1:((ofN m.d L.ts).length == 0)=false:=beq_eq_false_iff_ne.2 h
   have h2:(((ofN m.d L.ts).length:Int) == 0)=false:=bnf.2 (by omega)
   rw [h1,h2];rfl
 ·rw [e]
  show errTub k m.ints=askAll 0 ([(4,!(L.tube m.t).isSome)]:Asks)
  rw [ask_one]
  unfold errTub
  show (if findI k.tubes (m.t:Int)<0 then 4 else 0)=_
  cases h:(L.tube m.t).isSome with
  | false=>rw [if_pos (hS.f_none hI h)];rfl
  | true=>rw [if_neg (by have:=(hS.f_some hI h).1;omega)];rfl
 ·rw [e]
  show errTub k m.ints=askAll 0 ([(4,!(L.tube m.t).isSome)]:Asks)
  rw [ask_one]
  unfold errTub
  show (if findI k.tubes (m.t:Int)<0 then 4 else 0)=_
  cases h:(L.tube m.t).isSome with
  | false=>rw [if_pos (hS.f_none hI h)];rfl
  | true=>rw [if_neg (by have:=(hS.f_some hI h).1;omega)];rfl
end
section
open Go.RowKit
variable {L:Led} {k:Bk} {m:Cm}
theorem tF_upd3 (n:Nat) (q:PT) (v:Nat) (z:Int) (hz:z=v):upd (tF (n,q)) 3 z=tF (n,{ q with left:=v }):=by
 subst hz;funext i;unfold upd
 match i with
 | 0=>rfl
 | 1=>rfl
 | 2=>rfl
 | 3=>rfl
 | 4=>rfl
 | 5=>rfl
 | 6=>rfl
 | 7=>rfl
 | 8=>rfl
 | 9=>rfl
 | 10=>rfl
 | i+11=>rfl
theorem ins_mid (l:List TN) (hl:l.Pairwise fun a b=>a.1<b.1) {i:Nat} (hi:i<l.length) {n:Nat} (e:l[i].1=n) (q':PT):insT l n q'=l.set i (n,q'):=by
 have hs:l=l.take i++l[i]::l.drop (i+1):=by rw [List.getElem_cons_drop,List.take_append_drop]
 rw [List.set_eq_take_append_cons_drop,if_pos hi]
 have h1:∀ x∈l.take i,x.1<n:=by
  intro x hx
  obtain ⟨j,hj,rfl⟩:=List.getElem_of_mem hx
  rw [List.length_take] at hj
  rw [List.getElem_take,<- e]
  exact List.pairwise_iff_getElem.1 hl j i (by omega) hi (by omega)
 have h2:∀ x∈l.drop (i+1),n<x.1:=by
  intro x hx
  obtain ⟨j,hj,rfl⟩:=List.getElem_of_mem hx
  rw [List.length_drop] at hj
  rw [List.getElem_drop,<- e]
  exact List.pairwise_iff_getElem.1 hl i (i+1+j) hi (by omega) (by omega)
 have f1:l.filter (fun x=>decide (x.1<n))=l.take i:=by
  conv=>lhs;rw [hs]
  rw [List.filter_append,List.filter_cons_of_neg (by rw [e];simp),filt_all (fun x hx=>decide_eq_true (h1 x hx)),filt_no (fun x hx=>decide_eq_false (by have:=h2 x hx;omega)),List.append_nil]
 have f2:l.filter (fun x=>decide (n<x.1))=l.drop (i+1):=by
  conv=>lhs;rw [hs]
  rw [List.filter_append,List.filter_cons_of_neg (by rw [e];simp),filt_no (fun x hx=>decide_eq_false (by have:=h1 x hx;omega)),filt_all (fun x hx=>decide_eq_true (h2 x hx)),List.nil_append]
 unfold insT
 rw [f1,f2]
theorem add_ins (l:List TN) (n:Nat) (q:PT):(l.Pairwise fun a b=>a.1<b.1)->(∀ x∈l,x.1≠n)->addT (l.map tF) (tF (n,q))=(insT l n q).map tF:=by
 induction l with
 | nil=>intro _ _;rfl
 | cons a l ih =>
  intro hl hne
  obtain ⟨ha,hl'⟩:=List.pairwise_cons.1 hl
  have ih:=ih hl' (fun x hx=>hne x (List.mem_cons_of_mem _ hx))
  have hna:=hne a (List.mem_cons_self ..)
  have e0:tF (n,q) 0=(n:Int):=rfl
  by_cases h:a.1<n
  ·have e1:insT (a::l) n q=a::insT l n q:=by
    unfold insT
    rw [List.filter_cons_of_pos (by simpa using h),List.filter_cons_of_neg (by simp;omega)]
    rfl
   rw [e1,List.map_cons,List.map_cons,<- ih]
   unfold addT insAt
   rw [e0,List.findIdx_cons]
   have:(!decide (tF a 0<(n:Int)))=false:=by
    rw [Bool.not_eq_false',decide_eq_true_eq];show (a.1:Int)<n;omega
   rw [this]
   simp
  ·have hall:∀ x∈a::l,n<x.1:=by
    intro x hx
    rcases List.mem_cons.1 hx with rfl | hx
    ·omega
    ·have:=ha x hx;omega
   have e1:insT (a::l) n q=(n,q)::a::l:=by
    unfold insT
    rw [filt_no (fun x hx=>decide_eq_false (by have:=hall x hx;omega)),filt_all (fun x hx=>decide_eq_true (hall x hx))]
    rfl
   rw [e1,List.map_cons,List.map_cons]
   unfold addT insAt
   rw [e0,List.findIdx_cons]
   have:(!decide (tF a 0<(n:Int)))=true:=by
    rw [Bool.not_eq_true',decide_eq_false_iff_not];show ¬ (a.1:Int)<n;omega
   rw [this]
   simp
theorem Sim.put (hS:Sim L k) (hO:L.Ok) {i n:Nat} (hi:i<L.ts.length) (e:L.ts[i].1=n) (q':PT):Sim (L.putT n q') (k.withTubes (k.tubes.set i (tF (n,q')))):=by
 refine ⟨hS.sides,?_,hS.poured⟩
 show k.tubes.set i (tF (n,q'))=(insT L.ts n q').map tF
 rw [ins_mid L.ts hO.ts hi e q',hS.tubes,List.map_set]
theorem Sim.add (hS:Sim L k) (hO:L.Ok) {n:Nat} (h:L.tube n=.none) (q:PT):Sim (L.putT n q) (k.withTubes (addT k.tubes (tF (n,q)))):=by
 refine ⟨hS.sides,?_,hS.poured⟩
 show addT k.tubes (tF (n,q))=(insT L.ts n q).map tF
 rw [hS.tubes]
 refine add_ins L.ts n q hO.ts (fun x hx ex => ?_)
 have:L.tube n=some x.2:=(Led.tube_mem hO).2 (by rw [<- ex];exact hx)
 rw [h] at this;cases this
theorem Sim.newBox (hS:Sim L k) {b s:Nat}:Sim { L with bs:=insB L.bs b s } { k with sides:=upd k.sides b s }:=by
 refine ⟨fun c hc => ?_,hS.tubes,hS.poured⟩
 show upd k.sides b s c=((({ L with bs:=insB L.bs b s }:Led).box c).getD 0:Nat)
 rw [Led.box_insB]
 unfold upd
 by_cases h:c=b
 ·rw [if_pos h,if_pos h];rfl
 ·rw [if_neg h,if_neg h];exact hS.sides c hc
end
section
open Go.RowKit
variable {L:Led} {k:Bk} {m:Cm}
def ltP (a b:Nat) (x:PN):Bool:=decide (x.1<a\/(x.1=a/\x.2.1<b))
def gtP (a b:Nat) (x:PN):Bool:=decide (a<x.1\/(a=x.1/\b<x.2.1))
theorem ps_mid (a b v:Nat):∀ l:List PN,(l.Pairwise fun a b=>a.1<b.1\/(a.1=b.1/\a.2.1<b.2.1))->(a,b,v)∈l->l.Perm ((a,b,v)::(l.filter (ltP a b)++l.filter (gtP a b)))
 | [],_,h=>by cases h
 | c::l,hl,h=>by
  obtain ⟨hc,hl'⟩:=List.pairwise_cons.1 hl
  by_cases e:c=(a,b,v)
  ·subst e
   have h1:∀ x∈l,ltP a b x=false:=fun x hx=>decide_eq_false (by have:=hc x hx;simp only at this;omega)
   have h2:∀ x∈l,gtP a b x=true:=fun x hx=>decide_eq_true (by have:=hc x hx;simp only at this;omega)
   rw [List.filter_cons_of_neg (by simp [ltP]),List.filter_cons_of_neg (by simp [gtP]),filt_no h1,filt_all h2]
   exact List.Perm.refl _
  ·have hm:(a,b,v)∈l:=by
    rcases List.mem_cons.1 h with h | h
    ·exact absurd h.symm e
    ·exact h
   have hlt:=hc _ hm
   simp only at hlt
   rw [List.filter_cons_of_pos (by simp only [ltP,decide_eq_true_eq];exact hlt),List.filter_cons_of_neg (by simp only [gtP,decide_eq_true_eq];omega)]
   exact ((ps_mid a b v l hl' hm).cons c).trans (List.Perm.swap _ _ _)
theorem ps_out (a b:Nat):∀ l:List PN,(∀ x∈l,¬ (x.1=a/\x.2.1=b))->l.Perm (l.filter (ltP a b)++l.filter (gtP a b))
 | [],_=>List.Perm.refl _
 | c::l,h=>by
  have ih:=ps_out a b l (fun x hx=>h x (List.mem_cons_of_mem _ hx))
  have hc:=h c (List.mem_cons_self ..)
  by_cases hlt:ltP a b c=true
  ·have hg:¬ gtP a b c=true:=by simp only [ltP,gtP,decide_eq_true_eq] at hlt ⊢;omega
   rw [List.filter_cons_of_pos hlt,List.filter_cons_of_neg hg]
   exact ih.cons c
  ·have hg:gtP a b c=true:=by simp only [ltP,gtP,decide_eq_true_eq] at hlt ⊢;omega
   rw [List.filter_cons_of_neg hlt,List.filter_cons_of_pos hg]
   exact (ih.cons c).trans List.perm_middle.symm
theorem insP_perm (l:List PN) (a b v:Nat):(insP l a b v).Perm ((a,b,v)::(l.filter (ltP a b)++l.filter (gtP a b))):=List.perm_middle
theorem pair_none (hS:Sim L k) (hO:L.Ok) {a b:Nat} (h:L.pour a b=.none):pairI k.poured a b = -1:=by
 unfold pairI
 have hno:∀ x∈k.poured,(x 0 == (a:Int)&&x 1 == (b:Int))=false:=by
  intro x hx
  obtain ⟨p,hpm,rfl⟩:=hS.of_poured hx
  rw [Bool.eq_false_iff]
  intro h2
  simp only [Bool.and_eq_true,beq_iff_eq] at h2
  have e1:(p.1:Int)=a:=h2.1
  have e2:(p.2.1:Int)=b:=h2.2
  have:(a,b,p.2.2)∈L.ps:=by
   have e3:p=(a,b,p.2.2):=Prod.ext (by omega) (Prod.ext (by show p.2.1=b;omega) rfl)
   rw [<- e3];exact hpm
  rw [(Led.pour_mem hO).2 this] at h
  cases h
 have e:k.poured.findIdx (fun p=>p 0 == (a:Int)&&p 1 == (b:Int))=k.poured.length:=List.findIdx_eq_length.2 hno
 rw [e,if_neg (Nat.lt_irrefl _)]
theorem pair_some (hS:Sim L k) (hO:L.Ok) {a b v:Nat} (h:L.pour a b=some v):∃ i,∃ hi:i<k.poured.length,pairI k.poured a b=(i:Nat)/\k.poured[i]=pF (a,b,v):=by
 have hm:=(Led.pour_mem hO).1 h
 have hx:=hS.mem_poured.2 hm
 have hlt:k.poured.findIdx (fun p=>p 0 == (a:Int)&&p 1 == (b:Int))<k.poured.length:=List.findIdx_lt_length_of_exists ⟨_,hx,by simp [pF,mkP]⟩
 refine ⟨_,hlt,by unfold pairI;rw [if_pos hlt],?_⟩
 have hsat:=List.findIdx_getElem (w:=hlt)
 simp only [Bool.and_eq_true,beq_iff_eq] at hsat
 obtain ⟨p,hpm,hpe⟩:=hS.of_poured (List.getElem_mem hlt)
 rw [<- hpe] at hsat ⊢
 have e1:(p.1:Int)=a:=hsat.1
 have e2:(p.2.1:Int)=b:=hsat.2
 have e3:p=(a,b,p.2.2):=Prod.ext (by omega) (Prod.ext (by show p.2.1=b;omega) rfl)
 rw [e3] at hpm
 have:=(Led.pour_mem hO).2 hpm
 rw [h] at this
 injection this with this
 rw [e3,<- this]
theorem pF_upd (a b v:Nat) (z:Int) (w:Nat) (hz:z=w):upd (pF (a,b,v)) 2 z=pF (a,b,w):=by
 subst hz;funext i;unfold upd pF mkP
 match i with
 | 0=>rfl
 | 1=>rfl
 | 2=>rfl
 | i+3=>simp
theorem Sim.pourPs (hS:Sim L k) (hO:L.Ok) (a b v:Nat):(pourP k.poured a b v).Perm ((insP L.ps a b (L.pouredN a b+v)).map pF):=by
 have hins:=(insP_perm L.ps a b (L.pouredN a b+v)).map pF
 refine List.Perm.trans ?_ hins.symm
 unfold pourP
 cases hp:L.pour a b with
 | none =>
  rw [pair_none hS hO hp,if_pos (by omega)]
  have h0:L.pouredN a b=0:=by unfold Led.pouredN;rw [hp];rfl
  rw [h0,Nat.zero_add,List.map_cons]
  have hno:∀ x∈L.ps,¬ (x.1=a/\x.2.1=b):=by
   rintro x hx ⟨e1,e2⟩
   have e3:x=(a,b,x.2.2):=Prod.ext e1 (Prod.ext e2 rfl)
   rw [e3] at hx
   rw [(Led.pour_mem hO).2 hx] at hp
   cases hp
  refine (List.perm_append_singleton _ _).trans ?_
  exact (hS.poured.trans ((ps_out a b L.ps hno).map pF)).cons _
 | some v0 =>
  obtain ⟨i,hi,hf,hx⟩:=pair_some hS hO hp
  rw [hf,if_neg (by omega)]
  have h0:L.pouredN a b=v0:=by unfold Led.pouredN;rw [hp];rfl
  rw [h0]
  unfold setT
  simp only [Int.toNat_natCast]
  rw [getD_T hi,hx,pF_upd a b v0 _ (v0+v) (by show (v0:Int)+v=_;omega)]
  rw [List.set_eq_take_append_cons_drop,if_pos hi,List.map_cons]
  refine List.perm_middle.trans (List.Perm.cons _ ?_)
  have h1:(pF (a,b,v0)::(k.poured.take i++k.poured.drop (i+1))).Perm k.poured:=by
   rw [<- hx]
   refine List.perm_middle.symm.trans ?_
   rw [List.getElem_cons_drop,List.take_append_drop]
  have h2:=(ps_mid a b v0 L.ps hO.ps ((Led.pour_mem hO).1 hp)).map pF
  rw [List.map_cons] at h2
  exact ((h1.trans hS.poured).trans h2).cons_inv
end
section
open Go.RowKit
variable {L:Led} {k:Bk} {m:Cm}
theorem set3_at (hS:Sim L k) {i:Nat} (hi:i<L.ts.length) {n:Nat} {q:PT} (e:L.ts[i]=(n,q)) (z:Int) (v:Nat) (hz:z=v):setT k.tubes i 3 z=k.tubes.set i (tF (n,{ q with left:=v })):=by
 unfold setT
 have hi':i<k.tubes.length:=by rw [hS.tubes,List.length_map];exact hi
 rw [getD_T hi']
 have:k.tubes[i]=tF (n,q):=by
  have h1:k.tubes[i]=(L.ts.map tF)[i]'(by rw [List.length_map];exact hi):=by congr 1;exact hS.tubes
  rw [h1,List.getElem_map,e]
 rw [this,tF_upd3 n q v z hz]
theorem Sim.at (hS:Sim L k) {i:Nat} (hi:i<L.ts.length):k.tubes.getD i zeroT=tF L.ts[i]:=by
 rw [hS.tubes,getD_T (by rw [List.length_map];exact hi),List.getElem_map]
theorem Sim.pourT (hS:Sim L k) (hO:L.Ok) {qt qo:PT} (ht:L.tube m.t=some qt) (ho:L.tube m.o=some qo) (hne:m.t≠m.o) (hv:m.v<=qt.left) (hv2:qo.left+m.v<=1000000)
  {i j:Nat} (hi:i<L.ts.length) (hj:j<L.ts.length) (ei:L.ts[i]=(m.t,qt)) (ej:L.ts[j]=(m.o,qo)) :
  Sim (L.pourL m) ((k.withTubes (Go.Proofs.YtalncjhldkcmaaaGreat.pourT k.tubes i j m.v)).withPoured (pourP k.poured m.t m.o m.v)):=by
 have hgt:=hO.t1 _ ((Led.tube_mem hO).1 ht)
 have hgo:=hO.t1 _ ((Led.tube_mem hO).1 ho)
 have hij:i≠j:=fun e=>hne (by subst e;rw [ei] at ej;exact congrArg Prod.fst ej)
 have hD:L.tubeD m.t=qt:=Led.tubeD_some ht
 have hGt:(qt.less m.v).Good:=⟨hgt.2.2.x,hgt.2.2.y,hgt.2.2.box,hgt.2.2.donor,hgt.2.2.status,hgt.2.2.thaws,hgt.2.2.began,by have hl:qt.left<=1000000:=hgt.2.2.left;show qt.left - m.v<=_;omega,hgt.2.2.used,hgt.2.2.lost⟩
 -- the first
 have h1:=hS.put hO hi (show L.ts[i].1=m.t by rw [ei]) (qt.less m.v)
 have e1:setT k.tubes i 3 (k.tubes.getD i zeroT 3 - m.v)=k.tubes.set i (tF (m.t,qt.less m.v)):=by
  refine set3_at hS hi ei _ (qt.left - m.v) ?_
  rw [hS.at hi,ei]
  show (qt.left:Int) - m.v=_
  omega
 have hO1:(L.putT m.t (qt.less m.v)).Ok:=hO.insT ⟨hgt.1,hgt.2.1⟩ hGt
 have hts:(L.putT m.t (qt.less m.v)).ts=L.ts.set i (m.t,qt.less m.v):=ins_mid L.ts hO.ts hi (by rw [ei]) _
 have hj1:j<(L.putT m.t (qt.less m.v)).ts.length:=by rw [hts,List.length_set];exact hj
 have ej1:(L.putT m.t (qt.less m.v)).ts[j]=(m.o,qo):=by
  have:(L.putT m.t (qt.less m.v)).ts[j]=(L.ts.set i (m.t,qt.less m.v))[j]'(by rw [List.length_set];exact hj):=by congr 1
  rw [this,List.getElem_set_ne hij,ej]
 have hD1:(L.putT m.t (qt.less m.v)).tubeD m.o=qo:=by
  unfold Led.tubeD
  have:(L.putT m.t (qt.less m.v)).tube m.o=some qo:=by
   show ({ L with ts:=insT L.ts m.t (qt.less m.v) }:Led).tube m.o=_
   rw [Led.tube_insT,if_neg (fun e=>hne e.symm),ho]
  rw [this];rfl
 -- the second
 have h2:=h1.put hO1 hj1 (show (L.putT m.t (qt.less m.v)).ts[j].1=m.o by rw [ej1]) (qo.more m.v)
 have e2:setT (k.withTubes (k.tubes.set i (tF (m.t,qt.less m.v)))).tubes j 3 ((k.withTubes (k.tubes.set i (tF (m.t,qt.less m.v)))).tubes.getD j zeroT 3+m.v)=(k.withTubes (k.tubes.set i (tF (m.t,qt.less m.v)))).tubes.set j (tF (m.o,qo.more m.v)):=by
  refine set3_at h1 hj1 ej1 _ (qo.left+m.v) ?_
  rw [h1.at hj1,ej1]
  show (qo.left:Int)+m.v=_
  omega
 have hGo:(qo.more m.v).Good:=⟨hgo.2.2.x,hgo.2.2.y,hgo.2.2.box,hgo.2.2.donor,hgo.2.2.status,hgo.2.2.thaws,hgo.2.2.began,by show qo.left+m.v<=_;omega,hgo.2.2.used,hgo.2.2.lost⟩
 have hO2:((L.putT m.t (qt.less m.v)).putT m.o (qo.more m.v)).Ok:=hO1.insT ⟨hgo.1,hgo.2.1⟩ hGo
 have h3:=h2.pourPs hO2 m.t m.o m.v
 have eL:L.pourL m={ (L.putT m.t (qt.less m.v)).putT m.o (qo.more m.v) with ps:=insP ((L.putT m.t (qt.less m.v)).putT m.o (qo.more m.v)).ps m.t m.o (((L.putT m.t (qt.less m.v)).putT m.o (qo.more m.v)).pouredN m.t m.o+m.v) }:=by
  unfold Led.pourL
  rw [hD]
  simp only [hD1]
 rw [eL]
 refine ⟨h2.sides,?_,h3⟩
 show Go.Proofs.YtalncjhldkcmaaaGreat.pourT k.tubes i j m.v=_
 unfold Go.Proofs.YtalncjhldkcmaaaGreat.pourT
 rw [e1]
 exact e2.trans h2.tubes
theorem Sim.wired (hS:Sim L k) (hI:L.Inv):Wired k:=by
 intro x hx
 obtain ⟨p,hp,rfl⟩:=hS.of_poured hx
 obtain ⟨h1,h2⟩:=hI.wired p hp
 obtain ⟨q1,e1,_⟩:=Led.tube_of h1
 obtain ⟨q2,e2,_⟩:=Led.tube_of h2
 rw [hS.tubes]
 exact ⟨⟨_,List.mem_map.2 ⟨_,(Led.tube_mem hI.ok).1 e1,rfl⟩,rfl⟩,⟨_,List.mem_map.2 ⟨_,(Led.tube_mem hI.ok).1 e2,rfl⟩,rfl⟩⟩
end
section
open Go.RowKit
theorem reply_any (e:Nat) (v:Value) (zs:List Int) (w:World) (he:e<256) (hv:IntsIn w v zs) (hn:zs.length<65536) (hz:∀ z∈zs,0<=z/\z<4294967296) :
  Calls prog 62 #[.int .i64 e,v] w fun r w'=>r=.returned (.string ⟨(replyL e zs).toArray⟩)/\Below w.heap.size w w':=by
 obtain ⟨oa,ca,rfl,hca⟩:=hv.parts
 have HA:=hid hca
 have HZ:=hid hz
 clear hca hv hz
 have hcv:=own_conv (w:=w.alloc (.cells #[.int .u8 (e:Int),.int .u8 ((zs.length:Int) / 256),.int .u8 ((zs.length:Int) % 256)] 5)) (g:=w.heap.size) (cap:=3) (l:=[UInt8.ofNat e,UInt8.ofNat (zs.length / 256),UInt8.ofNat zs.length]) (bytes3_cells w e zs.length he hn)
 have h3:[UInt8.ofNat e,UInt8.ofNat (zs.length / 256),UInt8.ofNat zs.length].length=3:=rfl
 rw [h3] at hcv
 clear h3
 go_enter func62,ntmps62
 have HD:=hid (show replyL e zs=[UInt8.ofNat e,UInt8.ofNat (zs.length / 256),UInt8.ofNat zs.length]++(zs.take zs.length).flatMap (fun z=>be4 z.toNat) by rw [List.take_length];rfl)
 have HSt:=hid (fun m h=>replyL_step e zs m h)
 simp only [Int.toNat_natCast] at HSt
 have h3:([UInt8.ofNat e,UInt8.ofNat (zs.length / 256),UInt8.ofNat zs.length]:List UInt8).length=3:=rfl
 generalize [UInt8.ofNat e,UInt8.ofNat (zs.length / 256),UInt8.ofNat zs.length]=hd at *
 have h3':hd.length<=3:=by omega
 have HSt2:Hid (∀ (m:Nat) (h:m<zs.length),hd++(zs.take (m+1)).flatMap (fun z=>be4 z.toNat)=(hd++(zs.take m).flatMap fun z=>be4 z.toNat)++be4 zs[m].toNat):=HSt.out
 clear HSt h3
 go_wp2_with fail
 go_loopw [5,6] (fun sv i wr=>∃ m:Nat,m<=zs.length/\i=.int .i64 m/\sv=.string ⟨(hd++(zs.take m).flatMap fun z=>be4 z.toNat).toArray⟩/\(hd++(zs.take m).flatMap fun z=>be4 z.toNat).length<=3+4*m/\Below w.heap.size w wr) (fun _ i _=>zs.length - (intOf i).toNat)
 case atStart=>exact ⟨0,Nat.zero_le _,rfl,by simp,by simpa using h3',bal⟩
 case round =>
  obtain ⟨m,hm,rfl,rfl,hle,hb⟩:=hrel
  by_cases hlt:m<zs.length
  ·obtain ⟨p,rfl,hpl,hp⟩:=HA.out m hlt
   have hpr:=(hb.cell (p:=⟨p,m,none⟩) hpl).trans hp
   have hzm:=HZ.out zs[m] (List.getElem_mem hlt)
   have HS:=hid (HSt2.out m hlt)
   have hlt':(m:Int)<(zs.length:Int):=by omega
   obtain ⟨n,hn2⟩:=Int.eq_ofNat_of_zero_le hzm.1
   rw [hn2] at hpr hzm
   have HS2:Hid (hd++(zs.take (m+1)).flatMap (fun z=>be4 z.toNat)=(hd++(zs.take m).flatMap fun z=>be4 z.toNat)++be4 n):=by rw [HS.out,hn2,Int.toNat_natCast];exact hid rfl
   obtain ⟨hz0,hz1⟩:=hzm
   clear HS hn2 hp
   have hcat:=str_app (hd++(zs.take m).flatMap fun z=>be4 z.toNat) (be4 n)
   generalize hd++(zs.take m).flatMap (fun z=>be4 z.toNat)=cur at *
   have hnl:¬ 9223372036854775807<cur.length+(be4 n).length:=by rw [be4_len];omega
   have hzw:=hb.size
   go_wp2_with (go_at_call 55;refine (four_any n (by omega) _).mono ?_;rintro e w4 ⟨rfl,hb4⟩)
   go_roundw
   case rel=>exact ⟨m+1,by omega,by go_num,by rw [HS2.out],by rw [HS2.out,List.length_append,be4_len];omega,hb.trans (hb4.mono hzw)⟩
   case measure=>simp [intOf];omega
  ·have hme:m=zs.length:=by omega
   rw [<- hme] at HD
   clear hme
   generalize hd++(zs.take m).flatMap (fun z=>be4 z.toNat)=cur at *
   go_wp2
   go_ret
   exact ⟨ret_str HD.out,hb⟩
def cntB (k:Bk):Int:=k.tubes.length+k.poured.length+((List.range 10).countP fun i=>decide (0<k.sides i):Nat)
theorem count_any (b:Nat) (vt vp:Value) (k:Bk) (w:World) (h:BkAt w b vt vp k) :
  Calls prog 89 #[.pointer (some ⟨b,0,none⟩)] w fun e w'=>e=.returned (.int .i64 (cntB k))/\∃ n,w'=w.drewN n:=by
 have hct:=h.ct
 have hcp:=h.cp
 have HS:=hid h.side
 have hfew:=h.few
 obtain ⟨oa,cap,rfl,_⟩:=h.tubes.form
 obtain ⟨op,cpp,rfl,_⟩:=h.poured.form
 have hw1:IntKind.i64.wrap ((k.tubes.length:Int)+(k.poured.length:Int))=(k.tubes.length:Int)+(k.poured.length:Int):=wraps63 _ (by omega) (by omega)
 go_enter func89,ntmps89
 go_wp2_with fail
 go_quiet (fail)
 go_wp2_with fail
 go_loop [3,4] (fun n i=>∃ m:Nat,m<=10/\i=.int .i64 m/\n=.int .i64 (k.tubes.length+k.poured.length+((List.range m).countP fun i=>decide (0<k.sides i):Nat):Int)) (fun _ i=>10 - (intOf i).toNat)
 case atStart=>exact ⟨0,by omega,rfl,by simp⟩
 case round =>
  obtain ⟨m,hm,rfl,rfl⟩:=hrel
  have hcb:(List.range m).countP (fun i=>decide (0<k.sides i))<=m:=by have:=List.countP_le_length (p:=fun i=>decide (0<k.sides i)) (l:=List.range m);simpa using this
  have HC:=hid (show (List.range (m+1)).countP (fun i=>decide (0<k.sides i))=(List.range m).countP (fun i=>decide (0<k.sides i))+(if 0<k.sides m then 1 else 0) by rw [List.range_succ,List.countP_append];simp [List.countP_cons])
  generalize hcc:(List.range m).countP (fun i=>decide (0<k.sides i))=cc at *
  have HCC:=hid hcc
  clear hcc
  by_cases hlt:m<10
  ·have hsd:=HS.out m hlt
   have hlt':(m:Int)<10:=by omega
   by_cases hp:0<k.sides m
   ·have HC2:=hid (show (List.range (m+1)).countP (fun i=>decide (0<k.sides i))=cc+1 by rw [HC.out,if_pos hp])
    generalize k.sides m=sd at *
    go_wp2
    go_round
    case rel=>exact ⟨m+1,by omega,by go_num,by rw [HC2.out];go_num⟩
    case measure=>simp [intOf];omega
   ·have HC2:=hid (show (List.range (m+1)).countP (fun i=>decide (0<k.sides i))=cc by rw [HC.out,if_neg hp];rfl)
    generalize k.sides m=sd at *
    go_wp2
    go_round
    case rel=>exact ⟨m+1,by omega,by go_num,by rw [HC2.out]⟩
    case measure=>simp [intOf];omega
  ·have hme:m=10:=by omega
   subst hme
   go_wp2
   go_ret
   exact ⟨ret_int (by unfold cntB;rw [HCC.out]),_,rfl⟩
end
end Go.Proofs.YtalncjhldkcmaaaGreat
