import Derived.Test.YtalncjhldkcmaaaGreatFb33
import Derived.Test.YtalncjhldkcmaaaGreatFb35
import Derived.Test.YtalncjhldkcmaaaGreatFb29
import Derived.Test.YtalncjhldkcmaaaGreatFb27
namespace Go.Proofs.YtalncjhldkcmaaaGreat
open Classical
open _root_.Go.Proofs.Tryz
set_option maxHeartbeats 16000000
set_option maxRecDepth 8000
section
open Go.RowKit
variable {L:Led} {k:Bk} {m:Cm}
def EN (ps:List PN) (a b:Nat):Prop:=∃ v,(a,b,v)∈ps
theorem Rch.mono {E E':Nat->Nat->Prop} {M M':Nat->Prop} {j:Nat} (h:Rch E M j) (hE:∀ a b,E a b->E' a b) (hM:∀ a,M a->M' a):Rch E' M' j:=by
 induction h using Rch.ind with
 | one h1 h2=>exact .one (hM _ h1) (hE _ _ h2)
 | more _ h2 ih=>exact .more ih (hE _ _ h2)
theorem Rch.behind {E E':Nat->Nat->Prop} {M:Nat->Prop} {y j:Nat} (h:Rch E (fun x=>x=y) j) (hE:∀ a b,E a b->E' a b) (hy:Rch E' M y):Rch E' M j:=by
 induction h using Rch.ind with
 | one h1 h2=>subst h1;exact .more hy (hE _ _ h2)
 | more _ h2 ih=>exact .more ih (hE _ _ h2)
theorem Rch.from {E:Nat->Nat->Prop} {M:Nat->Prop} {j:Nat} (h:Rch E M j):∃ y,M y/\Rch E (fun x=>x=y) j:=by
 induction h using Rch.ind with
 | one h1 h2=>exact ⟨_,h1,.one rfl h2⟩
 | more _ h2 ih=>obtain ⟨y,hy,h3⟩:=ih;exact ⟨y,hy,.more h3 h2⟩
theorem down_step:∀ (ps:List PN),(ps.Pairwise fun a b=>a.1<b.1\/(a.1=b.1/\a.2.1<b.2.1))->(∀ p∈ps,p.1<p.2.1)->∀ (c a b v:Nat),(a,b,v)∈ps->downS (single c) ps a=true->downS (single c) ps b=true
 | [],_,_,_,_,_,_,h,_=>by cases h
 | p::ps,hs,hlt,c,a,b,v,hm,h=>by
  obtain ⟨hp,hs'⟩:=List.pairwise_cons.1 hs
  have hlt':∀ q∈ps,q.1<q.2.1:=fun q hq=>hlt q (List.mem_cons_of_mem _ hq)
  rw [downS_cons1,Bool.or_eq_true,Bool.and_eq_true,decide_eq_true_eq] at h ⊢
  rcases List.mem_cons.1 hm with e | hm'
  ·by_cases hc:c=p.1
   ·refine .inr ⟨hc,?_⟩
    rw [<- e]
    exact downS_self ps b
   ·rcases h with h | h
    ·exfalso
     rcases downS_from ps _ a h with h1 | ⟨q,hq,e2⟩
     ·have e3:a=c:=by simpa [single,orL] using h1
      rw [<- e] at hc
      exact hc e3.symm
     ·have h4:=hp q hq
      have h5:=hlt' q hq
      rw [<- e] at h4
      simp only at h4
      omega
    ·exact absurd h.1 hc
  ·rcases h with h | h
   ·exact .inl (down_step ps hs' hlt' c a b v hm' h)
   ·exact .inr ⟨h.1,down_step ps hs' hlt' _ a b v hm' h.2⟩
theorem down_sound:∀ (ps:List PN) (c j:Nat),downS (single c) ps j=true->j=c\/Rch (EN ps) (fun x=>x=c) j
 | [],c,j,h=>.inl (by simpa [downS,single,orL] using h)
 | p::ps,c,j,h=>by
  rw [downS_cons1,Bool.or_eq_true,Bool.and_eq_true,decide_eq_true_eq] at h
  have hE:∀ a b,EN ps a b->EN (p::ps) a b:=fun a b ⟨v,hv⟩=>⟨v,List.mem_cons_of_mem _ hv⟩
  rcases h with h | ⟨hc,h⟩
  ·rcases down_sound ps c j h with h1 | h1
   ·exact .inl h1
   ·exact .inr (h1.mono hE (fun _ h=>h))
  ·have he:EN (p::ps) p.1 p.2.1:=⟨p.2.2,List.mem_cons_self ..⟩
   have h1:Rch (EN (p::ps)) (fun x=>x=c) p.2.1:=.one hc.symm he
   rcases down_sound ps p.2.1 j h with h2 | h2
   ·rw [h2];exact .inr h1
   ·exact .inr (h2.behind hE h1)
theorem down_iff (hO:L.Ok) (c j:Nat):downS (single c) L.ps j=true↔j=c\/Rch (EN L.ps) (fun x=>x=c) j:=by
 refine ⟨down_sound L.ps c j,?_⟩
 rintro (rfl | h)
 ·exact downS_self _ _
 ·induction h using Rch.ind with
  | one h1 h2=>subst h1;obtain ⟨v,hv⟩:=h2;exact down_step L.ps hO.ps (fun p hp=>(hO.p1 p hp).2.1) _ _ _ v hv (downS_self _ _)
  | more _ h2 ih=>obtain ⟨v,hv⟩:=h2;exact down_step L.ps hO.ps (fun p hp=>(hO.p1 p hp).2.1) _ _ _ v hv ih
theorem rch_lt (hO:L.Ok) {c j:Nat} (h:Rch (EN L.ps) (fun x=>x=c) j):c<j:=by
 induction h using Rch.ind with
 | one h1 h2=>subst h1;obtain ⟨v,hv⟩:=h2;exact (hO.p1 _ hv).2.1
 | more _ h2 ih=>obtain ⟨v,hv⟩:=h2;have:=(hO.p1 _ hv).2.1;simp only at this;omega
def ED (ps:List PN) (down:Bool) (a b:Nat):Prop:=if down then EN ps a b else EN ps b a
theorem idx_of (hS:Sim L k) (hI:L.Inv) {n:Nat} (h:(L.tube n).isSome=true):∃ i,∃ hi:i<L.ts.length,(L.ts[i]).1=n/\(findI k.tubes n).toNat=i:=by
 obtain ⟨q,hq,_⟩:=Led.tube_of h
 obtain ⟨i,hi,e,hf⟩:=hS.find_some hI.ok hq
 exact ⟨i,hi,by rw [e],by rw [hf];omega⟩
theorem num_inj (hO:L.Ok) {i j:Nat} (hi:i<L.ts.length) (hj:j<L.ts.length) (e:(L.ts[i]).1=(L.ts[j]).1):i=j:=by
 rcases Nat.lt_trichotomy i j with h | h | h
 ·have:=ts_lt hO h hj;omega
 ·exact h
 ·have:=ts_lt hO h hi;omega
theorem edge_num (hS:Sim L k) (hI:L.Inv) {down:Bool} {i j:Nat} (h:Edge k down i j):∃ hi:i<L.ts.length,∃ hj:j<L.ts.length,ED L.ps down (L.ts[i]).1 (L.ts[j]).1:=by
 obtain ⟨x,hx,h1,h2⟩:=h
 obtain ⟨p,hp,rfl⟩:=hS.of_poured hx
 obtain ⟨w1,w2⟩:=hI.wired p hp
 obtain ⟨a,ha,ea,fa⟩:=idx_of hS hI w1
 obtain ⟨b,hb,eb,fb⟩:=idx_of hS hI w2
 have e0:pF p 0=(p.1:Int):=rfl
 have e1:pF p 1=(p.2.1:Int):=rfl
 cases down with
 | true =>
  simp only [srcI,dstI,if_true,e0,e1,fa,fb] at h1 h2
  subst h1 h2
  exact ⟨ha,hb,by show EN _ _ _;rw [ea,eb];exact ⟨p.2.2,hp⟩⟩
 | false =>
  simp only [srcI,dstI,Bool.false_eq_true,if_false,e0,e1,fa,fb] at h1 h2
  subst h1 h2
  exact ⟨hb,ha,by show EN _ _ _;rw [ea,eb];exact ⟨p.2.2,hp⟩⟩
theorem num_edge (hS:Sim L k) (hI:L.Inv) {down:Bool} {i j:Nat} (hi:i<L.ts.length) (hj:j<L.ts.length) (h:ED L.ps down (L.ts[i]).1 (L.ts[j]).1):Edge k down i j:=by
 cases down with
 | true =>
  obtain ⟨v,hv⟩:=(h:EN L.ps _ _)
  obtain ⟨w1,w2⟩:=hI.wired _ hv
  obtain ⟨a,ha,ea,fa⟩:=idx_of hS hI w1
  obtain ⟨b,hb,eb,fb⟩:=idx_of hS hI w2
  obtain rfl:=num_inj hI.ok ha hi ea
  obtain rfl:=num_inj hI.ok hb hj eb
  refine ⟨_,hS.mem_poured.2 hv,?_,?_⟩
  ·show (findI k.tubes (((L.ts[a]).1:Nat):Int)).toNat=a;exact fa
  ·show (findI k.tubes (((L.ts[b]).1:Nat):Int)).toNat=b;exact fb
 | false =>
  obtain ⟨v,hv⟩:=(h:EN L.ps _ _)
  obtain ⟨w1,w2⟩:=hI.wired _ hv
  obtain ⟨a,ha,ea,fa⟩:=idx_of hS hI w1
  obtain ⟨b,hb,eb,fb⟩:=idx_of hS hI w2
  obtain rfl:=num_inj hI.ok ha hj ea
  obtain rfl:=num_inj hI.ok hb hi eb
  refine ⟨_,hS.mem_poured.2 hv,?_,?_⟩
  ·show (findI k.tubes (((L.ts[b]).1:Nat):Int)).toNat=b;exact fb
  ·show (findI k.tubes (((L.ts[a]).1:Nat):Int)).toNat=a;exact fa
theorem rch_num (hS:Sim L k) (hI:L.Inv) {down:Bool} {M:Nat->Prop} {j:Nat} (h:Rch (Edge k down) M j):∃ hj:j<L.ts.length,Rch (ED L.ps down) (fun n=>∃ i,∃ hi:i<L.ts.length,(L.ts[i]).1=n/\M i) (L.ts[j]).1:=by
 induction h using Rch.ind with
 | one h1 h2 =>
  obtain ⟨hi,hj,he⟩:=edge_num hS hI h2
  exact ⟨hj,.one ⟨_,hi,rfl,h1⟩ he⟩
 | more _ h2 ih =>
  obtain ⟨hi,hj,he⟩:=edge_num hS hI h2
  obtain ⟨_,ih⟩:=ih
  exact ⟨hj,.more ih he⟩
theorem ed_tube (hI:L.Inv) {down:Bool} {a b:Nat} (h:ED L.ps down a b):(L.tube a).isSome=true/\(L.tube b).isSome=true:=by
 cases down with
 | true=>obtain ⟨v,hv⟩:=(h:EN L.ps _ _);exact hI.wired _ hv
 | false=>obtain ⟨v,hv⟩:=(h:EN L.ps _ _);exact (hI.wired _ hv).symm
theorem num_rch (hS:Sim L k) (hI:L.Inv) {down:Bool} {M:Nat->Prop} {n:Nat} (h:Rch (ED L.ps down) (fun n=>∃ i,∃ hi:i<L.ts.length,(L.ts[i]).1=n/\M i) n):∀ j (hj:j<L.ts.length),(L.ts[j]).1=n->Rch (Edge k down) M j:=by
 induction h using Rch.ind with
 | one h1 h2 =>
  intro j hj e
  obtain ⟨i,hi,e1,hM⟩:=h1
  exact .one hM (num_edge hS hI hi hj (by rw [e1,e];exact h2))
 | more _ h2 ih =>
  intro j hj e
  obtain ⟨a,ha,ea,_⟩:=idx_of hS hI (ed_tube hI h2).1
  exact .more (ih a ha ea) (num_edge hS hI ha hj (by rw [ea,e];exact h2))
end
section
open Go.RowKit
variable {L:Led} {k:Bk} {m:Cm}
theorem range_flat {α β:Type} (l:List α) (f:Nat->List β) (g:α->List β) (h:∀ i (hi:i<l.length),f i=g l[i]):(List.range l.length).flatMap f=l.flatMap g:=by
 have e:l=(List.range l.length).attach.map (fun i=>l[i.1]'(List.mem_range.1 i.2)):=by
  apply List.ext_getElem
  ·simp
  ·intro i h1 h2;simp
 conv=>rhs;rw [e]
 rw [List.flatMap_map]
 have:(List.range l.length).flatMap f=(List.range l.length).attach.flatMap (fun i=>f i.1):=by
  conv=>lhs;rw [<- List.attach_map_subtype_val (List.range l.length)]
  rw [List.flatMap_map]
 rw [this]
 congr 1
 funext i
 exact h i.1 (List.mem_range.1 i.2)
theorem flat_filter {α β:Type} (l:List α) (p:α->Bool) (h:α->β):l.flatMap (fun t=>if p t then [h t] else [])=(l.filter p).map h:=by
 induction l with
 | nil=>rfl
 | cons a l ih =>
  rw [List.flatMap_cons,ih,List.filter_cons]
  cases hp:p a <;> simp
theorem ask_filter (hS:Sim L k) (bs:List Bool) (p:TN->Bool) (h:∀ i (hi:i<L.ts.length),bs.getD i false=p L.ts[i]):askL k.tubes bs=(L.ts.filter p).map fun t=>(t.1:Int):=by
 unfold askL askTo
 rw [hS.tubes,List.length_map,<- flat_filter]
 refine range_flat L.ts _ _ (fun i hi => ?_)
 rw [h i hi,List.getD_eq_getElem?_getD,List.getElem?_eq_getElem (by rw [List.length_map];exact hi),List.getElem_map]
 rfl
theorem mark_at (hS:Sim L k) (d:Nat) (i:Nat) (hi:i<L.ts.length):(markD k.tubes d).getD i false=decide (((L.ts[i]).2.donor:Int)=d):=by
 unfold markD
 rw [hS.tubes,List.map_map,List.getD_eq_getElem?_getD,List.getElem?_eq_getElem (by rw [List.length_map];exact hi),List.getElem_map]
 show (((L.ts[i]).2.donor:Int) == d)=_
 rw [Bool.eq_iff_iff];simp
theorem Sim.tells_of (hS:Sim L k) (d:Nat):askL k.tubes (markD k.tubes d)=ofN d L.ts:=by
 rw [ask_filter hS _ (fun t=>decide ((t.2.donor:Int)=d)) (fun i hi=>mark_at hS d i hi)]
 rfl
theorem Sim.tells_cont (hS:Sim L k) (b:Nat):contL k.tubes b=Led.contQ (L.ts.filter (inBox b)):=by
 unfold contL contTo Led.contQ
 rw [hS.tubes,List.length_map]
 have:(L.ts.filter (inBox b)).flatMap (fun t=>[(t.1:Int),(t.2.x:Int),(t.2.y:Int)])=L.ts.flatMap (fun t=>if inBox b t then [(t.1:Int),(t.2.x:Int),(t.2.y:Int)] else []):=by
  induction L.ts with
  | nil=>rfl
  | cons a l ih =>
   rw [List.flatMap_cons,List.filter_cons]
   cases hp:inBox b a
   ·simpa using ih
   ·rw [if_pos rfl,List.flatMap_cons,ih];simp
 rw [this]
 refine range_flat L.ts _ _ (fun i hi => ?_)
 rw [getD_T (by rw [List.length_map];exact hi),List.getElem_map]
 show (if ((L.ts[i]).2.box:Int)=b then [((L.ts[i]).1:Int),((L.ts[i]).2.x:Int),((L.ts[i]).2.y:Int)] else [])=_
 unfold inBox
 by_cases h:((L.ts[i]).2.box:Int)=b
 ·rw [if_pos h,if_pos (decide_eq_true h)]
 ·rw [if_neg h,if_neg (by simpa using h)]
theorem show_tF (n:Nat) (q:PT):showL (tF (n,q))=showQ q:=rfl
open Classical in
theorem reach_at (mk:List Bool) (down:Bool) (hS:Sim L k) (i:Nat) (hi:i<L.ts.length):(reachL k mk down).getD i false=true↔Rch (Edge k down) (fun i=>mk.getD i false=true) i:=by
 unfold reachL
 rw [List.getD_eq_getElem?_getD,List.getElem?_eq_getElem (by rw [List.length_map,List.length_range,hS.tubes,List.length_map];exact hi),List.getElem_map,List.getElem_range,Option.getD_some,decide_eq_true_eq]
theorem one_at (n i j:Nat) (hi:i<n):(markOne n i).getD j false=true↔j=i:=by
 unfold markOne
 rw [List.getD_eq_getElem?_getD]
 by_cases h:j=i
 ·subst h
  rw [List.getElem?_set_self (by simpa using hi)]
  simp
 ·rw [List.getElem?_set_ne (fun e=>h e.symm),List.getElem?_replicate]
  constructor
  ·intro h2;split at h2 <;> simp at h2
  ·intro h2;exact absurd h2 h
theorem way_list (hS:Sim L k) (hI:L.Inv) (down:Bool) {i n:Nat} (hi:i<L.ts.length) (e:(L.ts[i]).1=n) (R:Nat->Bool) (hR:∀ j,R j=true↔j≠n/\Rch (ED L.ps down) (fun x=>x=n) j) (hn:∀ j,Rch (ED L.ps down) (fun x=>x=n) j->j≠n) :
  askL k.tubes (reachL k (markOne k.tubes.length i) down)=(L.ts.filter fun t=>R t.1).map fun t=>(t.1:Int):=by
 refine ask_filter hS _ _ (fun j hj => ?_)
 have hlen:k.tubes.length=L.ts.length:=by rw [hS.tubes,List.length_map]
 rw [Bool.eq_iff_iff,reach_at _ _ hS j hj,hR]
 constructor
 ·intro h
  obtain ⟨_,h2⟩:=rch_num hS hI h
  have h3:Rch (ED L.ps down) (fun x=>x=n) (L.ts[j]).1:=h2.mono (fun _ _ h=>h) (fun a ⟨x,hx,ex,hm⟩=>by
   rw [one_at _ _ _ (by omega)] at hm
   subst hm
   rw [<- ex,e])
  exact ⟨hn _ h3,h3⟩
 ·rintro ⟨_,h⟩
  refine num_rch hS hI (h.mono (fun _ _ h=>h) (fun a ha=>⟨i,hi,by rw [e,ha],?_⟩)) j hj rfl
  rw [one_at _ _ _ (by omega)]
theorem ts_list (hO:L.Ok) (R:Nat->Bool) (l:List Nat) (hl:l.Pairwise (· < ·)) (h:∀ n,n∈l↔R n=true/\(L.tube n).isSome=true):(L.ts.filter fun t=>R t.1).map (fun t=>(t.1:Int))=natsI l:=by
 have e:(L.ts.filter fun t=>R t.1).map Prod.fst=l:=by
  refine eq_of_pw (key:=fun n:Nat=>n) ?_ hl (fun n => ?_)
  ·refine List.pairwise_map.2 ?_
   exact List.Pairwise.filter _ hO.ts
  ·rw [h,List.mem_map]
   constructor
   ·rintro ⟨t,ht,rfl⟩
    obtain ⟨h1,h2⟩:=List.mem_filter.1 ht
    exact ⟨h2,by rw [(Led.tube_mem hO).2 h1];rfl⟩
   ·rintro ⟨h1,h2⟩
    obtain ⟨q,hq,_⟩:=Led.tube_of h2
    exact ⟨(n,q),List.mem_filter.2 ⟨(Led.tube_mem hO).1 hq,h1⟩,rfl⟩
 rw [<- e]
 simp [natsI]
theorem memG_pw (S:Nat->Bool):(memG S).Pairwise (· < ·):=List.Pairwise.filter _ List.pairwise_lt_range
theorem Sim.tells_down (hS:Sim L k) (hI:L.Inv) {i n:Nat} (hi:i<L.ts.length) (e:(L.ts[i]).1=n):askL k.tubes (reachL k (markOne k.tubes.length i) true)=natsI (memG (kinS (downS (single n) L.ps) n)):=by
 have hiff:∀ j,Rch (ED L.ps true) (fun x=>x=n) j↔Rch (EN L.ps) (fun x=>x=n) j:=fun j=>Iff.rfl
 rw [way_list hS hI true hi e (fun j=>decide (j≠n)&&downS (single n) L.ps j) (fun j => ?_) (fun j h => ?_)]
 ·refine ts_list hI.ok (fun j=>decide (j≠n)&&downS (single n) L.ps j) _ (memG_pw _) (fun j => ?_)
  show j∈L.below n↔_
  rw [Led.mem_below,Bool.and_eq_true,decide_eq_true_eq]
  constructor
  ·rintro ⟨_,h2,h3⟩
   exact ⟨⟨h2,h3⟩,Led.down_tube hI h3 h2⟩
  ·rintro ⟨⟨h2,h3⟩,h4⟩
   obtain ⟨q,hq,_⟩:=Led.tube_of h4
   have:=(hI.ok.t1 _ ((Led.tube_mem hI.ok).1 hq)).2.1
   exact ⟨by simp only at this;omega,h2,h3⟩
 ·rw [Bool.and_eq_true,decide_eq_true_eq,down_iff hI.ok,hiff]
  constructor
  ·rintro ⟨h1,h2 | h2⟩
   ·exact absurd h2 h1
   ·exact ⟨h1,h2⟩
  ·rintro ⟨h1,h2⟩
   exact ⟨h1,.inr h2⟩
 ·have:=rch_lt hI.ok ((hiff j).1 h);omega
theorem rch_rev {E:Nat->Nat->Prop} {a b:Nat} (h:Rch E (fun x=>x=a) b):Rch (fun x y=>E y x) (fun x=>x=b) a:=by
 have key:∀ j,Rch E (fun x=>x=a) j->∀ c,(c=j\/Rch (fun x y=>E y x) (fun x=>x=c) j)->Rch (fun x y=>E y x) (fun x=>x=c) a:=by
  intro j h
  induction h using Rch.ind with
  | one h1 h2 =>
   subst h1
   rintro c (rfl | hc)
   ·exact .one rfl h2
   ·exact .more hc h2
  | more _ h2 ih =>
   rintro c (rfl | hc)
   ·exact ih c (.inr (.one rfl h2))
   ·exact ih c (.inr (.more hc h2))
 exact key b h b (.inl rfl)
theorem Sim.tells_up (hS:Sim L k) (hI:L.Inv) {i n:Nat} (hi:i<L.ts.length) (e:(L.ts[i]).1=n):askL k.tubes (reachL k (markOne k.tubes.length i) false)=natsI (memG (kinS (upS (single n) L.ps) n)):=by
 have hiff:∀ j,Rch (ED L.ps false) (fun x=>x=n) j↔Rch (EN L.ps) (fun x=>x=j) n:=fun j=>⟨fun h=>rch_rev h,fun h=>rch_rev h⟩
 rw [way_list hS hI false hi e (fun j=>decide (j≠n)&&upS (single n) L.ps j) (fun j => ?_) (fun j h => ?_)]
 ·refine ts_list hI.ok (fun j=>decide (j≠n)&&upS (single n) L.ps j) _ (memG_pw _) (fun j => ?_)
  show j∈L.above n↔_
  rw [Led.mem_above,Bool.and_eq_true,decide_eq_true_eq]
  constructor
  ·rintro ⟨_,h2,h3⟩
   exact ⟨⟨h2,h3⟩,Led.up_tube hI h3 h2⟩
  ·rintro ⟨⟨h2,h3⟩,h4⟩
   obtain ⟨q,hq,_⟩:=Led.tube_of h4
   have:=(hI.ok.t1 _ ((Led.tube_mem hI.ok).1 hq)).2.1
   exact ⟨by simp only at this;omega,h2,h3⟩
 ·rw [Bool.and_eq_true,decide_eq_true_eq,up_down,down_iff hI.ok,hiff]
  constructor
  ·rintro ⟨h1,h2 | h2⟩
   ·exact absurd h2.symm h1
   ·exact ⟨h1,h2⟩
  ·rintro ⟨h1,h2⟩
   exact ⟨h1,.inr h2⟩
 ·have:=rch_lt hI.ok ((hiff j).1 h);omega
end
section
open Go.RowKit
variable {L:Led} {k:Bk} {m:Cm}
theorem hit_is (hS:Sim L k) (hI:L.Inv) (d j:Nat) (hj:j<L.ts.length):(hitD k d).getD j false=L.goneS d (L.ts[j]).1:=by
 have hl1:j<(markD k.tubes d).length:=by unfold markD;rw [List.length_map,hS.tubes,List.length_map];exact hj
 have hl2:j<(reachL k (markD k.tubes d) true).length:=by rw [reachL_len,hS.tubes,List.length_map];exact hj
 rw [hitD_at k d hl1 hl2,Bool.eq_iff_iff,Bool.or_eq_true,Led.goneS_ids,List.any_eq_true]
 have e1:(markD k.tubes d)[j]=decide (((L.ts[j]).2.donor:Int)=d):=by
  have:=mark_at hS d j hj
  rwa [List.getD_eq_getElem?_getD,List.getElem?_eq_getElem hl1,Option.getD_some] at this
 have e2:(reachL k (markD k.tubes d) true)[j]=true↔Rch (Edge k true) (fun i=>(markD k.tubes d).getD i false=true) j:=by
  have:=reach_at (markD k.tubes d) true hS j hj
  rwa [List.getD_eq_getElem?_getD,List.getElem?_eq_getElem hl2,Option.getD_some] at this
 have hids:∀ z,z∈L.ids d↔∃ i,∃ hi:i<L.ts.length,(L.ts[i]).1=z/\(markD k.tubes d).getD i false=true:=by
  intro z
  unfold Led.ids
  rw [List.mem_map]
  constructor
  ·rintro ⟨t,ht,rfl⟩
   obtain ⟨h1,h2⟩:=List.mem_filter.1 ht
   obtain ⟨i,hi,rfl⟩:=List.getElem_of_mem h1
   exact ⟨i,hi,rfl,by rw [mark_at hS d i hi];exact h2⟩
  ·rintro ⟨i,hi,rfl,h⟩
   rw [mark_at hS d i hi] at h
   exact ⟨L.ts[i],List.mem_filter.2 ⟨List.getElem_mem hi,h⟩,rfl⟩
 rw [e1,e2]
 constructor
 ·rintro (h | h)
  ·exact ⟨_,(hids _).2 ⟨j,hj,rfl,by rw [mark_at hS d j hj];exact h⟩,downS_self _ _⟩
  ·obtain ⟨_,h2⟩:=rch_num hS hI h
   obtain ⟨z,hz,h3⟩:=h2.from
   exact ⟨z,(hids z).2 hz,(down_iff hI.ok z _).2 (.inr h3)⟩
 ·rintro ⟨z,hz,h⟩
  rcases (down_iff hI.ok z _).1 h with h | h
  ·left
   obtain ⟨i,hi,e,hm⟩:=(hids z).1 hz
   have:i=j:=num_inj hI.ok hi hj (by rw [e,h])
   subst this
   rw [mark_at hS d i hi] at hm
   exact hm
  ·right
   exact num_rch hS hI (down:=true) (h.mono (E':=ED L.ps true) (fun _ _ h=>h) (fun a ha=>by subst ha;exact (hids a).1 hz)) j hj rfl
theorem end_tF (t:TN) (h:t.2.status≠3) (hl:t.2.lost=0):endT (tF t)=tF (t.1,t.2.lostAll):=by
 unfold endT
 rw [if_neg (show ¬ tF t 6=3 by show ¬ (t.2.status:Int)=3;omega)]
 funext i
 unfold upd
 match i with
 | 0=>rfl
 | 1=>rfl
 | 2=>rfl
 | 3=>rfl
 | 4=>rfl
 | 5=>show (t.2.lost:Int)+t.2.left=(t.2.left:Int);omega
 | 6=>rfl
 | 7=>rfl
 | 8=>rfl
 | 9=>rfl
 | 10=>rfl
 | i+11=>rfl
theorem end_same (t:TN) (h:t.2.status=3):endT (tF t)=tF t:=by
 unfold endT
 rw [if_pos (show tF t 6=3 by show (t.2.status:Int)=3;omega)]
theorem Sim.wd (hS:Sim L k) (hI:L.Inv) (d:Nat):Sim (L.chg PT.lostAll (L.hits d)) (wdB k d):=by
 have e0:L.chg PT.lostAll (L.hits d)=L.mapT (fun t=>L.goneS d t.1&&!decide (t.2.status=3)) PT.lostAll:=by
  unfold Led.hits
  exact Led.chg_map hI.ok _ _ (Led.wd_good hI d)
 rw [e0]
 refine ⟨hS.sides,?_,hS.poured⟩
 have hlen:k.tubes.length=L.ts.length:=by rw [hS.tubes,List.length_map]
 show hitTo endT (hitD k d) k.tubes k.tubes.length=(L.ts.map fun t=>if (L.goneS d t.1&&!decide (t.2.status=3)) then (t.1,t.2.lostAll) else t).map tF
 apply List.ext_getElem
 ·rw [hitTo_len,List.length_map,List.length_map,hlen]
 ·intro i h1 h2
  have hi:i<k.tubes.length:=by rw [hitTo_len] at h1;exact h1
  have hi':i<L.ts.length:=by omega
  rw [hitTo_get _ _ _ _ _ hi,List.getElem_map,List.getElem_map,hit_is hS hI d i hi']
  have ek:k.tubes[i]=tF L.ts[i]:=by have:=hS.at hi';rwa [getD_T hi] at this
  rw [ek]
  cases hg:L.goneS d (L.ts[i]).1 with
  | false=>rw [if_neg (by simp)];simp
  | true =>
   rw [if_pos ⟨hi,rfl⟩]
   by_cases hs:(L.ts[i]).2.status=3
   ·rw [end_same _ hs];simp [hs]
   ·rw [end_tF _ hs (hI.lost _ (List.getElem_mem hi') hs)];simp [hs]
theorem range_count {α:Type} (l:List α) (f:Nat->Bool) (p:α->Bool) (h:∀ i (hi:i<l.length),f i=p l[i]):(List.range l.length).countP f=(l.filter p).length:=by
 have:=range_flat l (fun i=>if f i then [()] else []) (fun t=>if p t then [()] else []) (fun i hi=>by rw [h i hi])
 rw [flat_filter,flat_filter] at this
 have:=congrArg List.length this
 rw [List.length_map,List.length_map] at this
 rw [List.countP_eq_length_filter]
 exact this
theorem Sim.wdN (hS:Sim L k) (hI:L.Inv) (d:Nat):Go.Proofs.YtalncjhldkcmaaaGreat.wdN k d=(L.hits d).length:=by
 unfold Go.Proofs.YtalncjhldkcmaaaGreat.wdN cntTo Led.hits
 have hlen:k.tubes.length=L.ts.length:=by rw [hS.tubes,List.length_map]
 rw [hlen]
 refine range_count L.ts _ _ (fun i hi => ?_)
 rw [hit_is hS hI d i hi,hS.at hi]
 congr 2
 show ((((L.ts[i]).2.status:Nat):Int) == 3)=_
 rw [Bool.eq_iff_iff,beq_iff_eq,decide_eq_true_eq];omega
theorem mv_tubes (b:Nat) (g:Nat×Nat->Nat×Nat) (L:Led):(L.mvB b g).ts.map tF=L.ts.map fun t=>tF (if inBox b t then (t.1,Led.PTmv g t.2) else t):=by
 show (L.ts.map fun t=>if inBox b t then (t.1,Led.PTmv g t.2) else t).map tF=_
 rw [List.map_map];rfl
theorem turn_tF (b s:Nat) (t:TN) (h:t.2.box=b->t.2.y<s):turnF b s false (tF t)=tF (if inBox b t then (t.1,{ t.2 with x:=s - 1 - t.2.y,y:=t.2.x }) else t):=by
 unfold turnF inBox
 show (if (t.2.box:Int)=b then _ else _)=_
 by_cases e:(t.2.box:Int)=b
 ·rw [if_pos e,decide_eq_true (show ((t.2.box:Nat):Int)=(b:Int) from e)]
  have hy:=h (by omega)
  funext i
  unfold upd
  match i with
  | 0=>rfl
  | 1=>rfl
  | 2=>rfl
  | 3=>rfl
  | 4=>rfl
  | 5=>rfl
  | 6=>rfl
  | 7=>rfl
  | 8=>rfl
  | 9=>show (s:Int) - 1 - t.2.y=((s - 1 - t.2.y:Nat):Int);omega
  | 10=>rfl
  | i+11=>rfl
 ·rw [if_neg e,decide_eq_false (show ¬ ((t.2.box:Nat):Int)=(b:Int) from e)];rfl
theorem flip_tF (b s:Nat) (t:TN) (h:t.2.box=b->t.2.x<s):turnF b s true (tF t)=tF (if inBox b t then (t.1,{ t.2 with x:=s - 1 - t.2.x }) else t):=by
 unfold turnF inBox
 show (if (t.2.box:Int)=b then _ else _)=_
 by_cases e:(t.2.box:Int)=b
 ·rw [if_pos e,decide_eq_true (show ((t.2.box:Nat):Int)=(b:Int) from e)]
  have hx:=h (by omega)
  funext i
  unfold upd
  match i with
  | 0=>rfl
  | 1=>rfl
  | 2=>rfl
  | 3=>rfl
  | 4=>rfl
  | 5=>rfl
  | 6=>rfl
  | 7=>rfl
  | 8=>rfl
  | 9=>show (s:Int) - 1 - t.2.x=((s - 1 - t.2.x:Nat):Int);omega
  | 10=>rfl
  | i+11=>rfl
 ·rw [if_neg e,decide_eq_false (show ¬ ((t.2.box:Nat):Int)=(b:Int) from e)];rfl
theorem Sim.turn (hI:L.Inv) {b:Nat} (hb:1<=b) {j:Nat} (hS:Sim (L.mvB b (turnXY (L.sideN b) j)) k):Sim (L.mvB b (turnXY (L.sideN b) (j+1))) (k.withTubes (k.tubes.map (turnF b (L.sideN b) false))):=by
 refine ⟨hS.sides,?_,hS.poured⟩
 show k.tubes.map (turnF b (L.sideN b) false)=_
 rw [hS.tubes,mv_tubes,mv_tubes,List.map_map]
 refine List.map_congr_left (fun t ht => ?_)
 show turnF b (L.sideN b) false (tF (if inBox b t then (t.1,Led.PTmv (turnXY (L.sideN b) j) t.2) else t))=_
 cases hp:inBox b t with
 | true =>
  have hr:=Led.in_range hI hb t ht hp
  have hlt:=turnXY_lt (p:=(t.2.x,t.2.y)) hr.1 hr.2 j
  rw [if_pos rfl,if_pos rfl,turn_tF _ _ _ (fun _=>hlt.2)]
  have:inBox b (t.1,Led.PTmv (turnXY (L.sideN b) j) t.2)=true:=hp
  rw [this]
  rfl
 | false =>
  rw [if_neg (by simp),if_neg (by simp),turn_tF _ _ _ (fun e=>by simp only [inBox,decide_eq_false_iff_not] at hp;omega),hp]
  rfl
theorem Sim.flip (hS:Sim L k) (hI:L.Inv) {b:Nat} (hb:1<=b):Sim (L.mvB b (flipXY (L.sideN b))) (k.withTubes (k.tubes.map (turnF b (L.sideN b) true))):=by
 refine ⟨hS.sides,?_,hS.poured⟩
 show k.tubes.map (turnF b (L.sideN b) true)=_
 rw [hS.tubes,mv_tubes,List.map_map]
 refine List.map_congr_left (fun t ht => ?_)
 show turnF b (L.sideN b) true (tF t)=_
 cases hp:inBox b t with
 | true =>
  have hr:=Led.in_range hI hb t ht hp
  rw [flip_tF _ _ _ (fun _=>hr.1),hp]
  rfl
 | false =>
  rw [flip_tF _ _ _ (fun e=>by simp only [inBox,decide_eq_false_iff_not] at hp;omega),hp]
  rfl
theorem Sim.small (hS:Sim L k) (hO:L.Ok):Small k:=by
 refine ⟨fun x hx i => ?_,fun x hx i => ?_⟩
 ·rw [hS.tubes] at hx
  obtain ⟨t,ht,rfl⟩:=List.mem_map.1 hx
  obtain ⟨h1,h2,g⟩:=hO.t1 t ht
  have g1:=g.x;have g2:=g.y;have g3:=g.box;have g4:=g.donor;have g5:=g.status;have g6:=g.thaws;have g7:=g.began;have g8:=g.left;have g9:=g.used;have g10:=g.lost
  match i with
  | 0=>show 0<=(t.1:Int)/\(t.1:Int)<=_;omega
  | 1=>show 0<=(t.2.donor:Int)/\(t.2.donor:Int)<=_;omega
  | 2=>show 0<=(t.2.began:Int)/\(t.2.began:Int)<=_;omega
  | 3=>show 0<=(t.2.left:Int)/\(t.2.left:Int)<=_;omega
  | 4=>show 0<=(t.2.used:Int)/\(t.2.used:Int)<=_;omega
  | 5=>show 0<=(t.2.lost:Int)/\(t.2.lost:Int)<=_;omega
  | 6=>show 0<=(t.2.status:Int)/\(t.2.status:Int)<=_;omega
  | 7=>show 0<=(t.2.thaws:Int)/\(t.2.thaws:Int)<=_;omega
  | 8=>show 0<=(t.2.box:Int)/\(t.2.box:Int)<=_;omega
  | 9=>show 0<=(t.2.x:Int)/\(t.2.x:Int)<=_;omega
  | 10=>show 0<=(t.2.y:Int)/\(t.2.y:Int)<=_;omega
  | i+11=>show 0<=(0:Int)/\(0:Int)<=_;omega
 ·obtain ⟨p,hp,rfl⟩:=hS.of_poured hx
  have h:=hO.p1 p hp
  match i with
  | 0=>show 0<=(p.1:Int)/\(p.1:Int)<=_;omega
  | 1=>show 0<=(p.2.1:Int)/\(p.2.1:Int)<=_;omega
  | 2=>show 0<=(p.2.2:Int)/\(p.2.2:Int)<=_;omega
  | i+3=>show 0<=(([p.1,p.2.1,p.2.2]:List Int).getD (i+3) 0)/\_<=_;simp [pF,mkP]
end
section
open Go.RowKit Go.Shelf
structure BkF (B:Nat) (w:World) (b:Nat) (vt vp:Value) (L:Led) (k:Bk):Prop where
 bk:BkAt w b vt vp k
 sim:Sim L k
 nt:k.tubes=[]->vt=.slice none 0 0
 np:k.poured=[]->vp=.slice none 0 0
 fb:B<=b
 ft:∀ g,vt.ownBlock=some g->B<=g
 fp:∀ g,vp.ownBlock=some g->B<=g
def BkX (B:Nat) (w:World) (b:Nat) (L:Led):Prop:=∃ vt vp k,BkF B w b vt vp L k
def DoPost (B:Nat) (w:World) (b:Nat) (L:Led) (m:Cm) (e:Ending) (w':World):Prop:=∃ v,e=.returned v/\IntsIn w' v (L.tell m)/\BkX B w' b (L.act m)/\Keeps (fun g=>B<=g) w w'
variable {B b:Nat} {w w':World} {vt vp:Value} {L:Led} {k:Bk} {m:Cm}
theorem BkF.below (h:BkF B w b vt vp L k) (hb:Below w.heap.size w w'):BkF B w' b vt vp L k:=⟨h.bk.below hb,h.sim,h.nt,h.np,h.fb,h.ft,h.fp⟩
theorem BkF.tubes (h:BkF B w b vt vp L k) {ts:List (Nat->Int)} {L':Led} (hs:Sim L' (k.withTubes ts)) (hk:BkAt w' b vt vp (k.withTubes ts)) (hl:ts.length=k.tubes.length):BkX B w' b L' :=
 ⟨vt,vp,_,hk,hs,fun e=>h.nt (List.eq_nil_of_length_eq_zero (by rw [<- hl,show ts=[] from e];rfl)),h.np,h.fb,h.ft,h.fp⟩
theorem kp_new {w1:World} (hb:Below w.heap.size w w1):Keeps (fun g=>B<=g) w w1:=below_toKeeps hb _
theorem BkAt.setSide (h:BkAt w b vt vp k) {j:Nat} (hj:j<10) (n:Int):BkAt (w.setCell ⟨b,j,none⟩ (.int .i64 n)) b vt vp { k with sides:=upd k.sides j n }:=by
 have ho:∀ i,i≠j->(w.setCell ⟨b,j,none⟩ (.int .i64 n)).cell? ⟨b,i,none⟩=w.cell? ⟨b,i,none⟩:=fun i hi=>World.cell?_setCell_other w ⟨b,j,none⟩ ⟨b,i,none⟩ _ (by intro h';injection h' with _ h2 _;exact hi h2.symm)
 refine ⟨by simpa using h.lt,fun i hi => ?_,(ho 10 (by omega)).trans h.ct,(ho 11 (by omega)).trans h.cp,fun i=>by rw [World.frozen?_setCell];exact h.fz i,h.tubes.setOther h.nt _,h.poured.setOther h.np _,h.nt,h.np,h.tp,h.few⟩
 by_cases e:i=j
 ·subst e
  show _=some (Value.int .i64 (upd k.sides i n i))
  unfold upd
  rw [if_pos rfl]
  have hc:=h.side i hi
  exact World.cell?_setCell_same w ⟨b,i,none⟩ _ hc
 ·show _=some (Value.int .i64 (upd k.sides j n i))
  unfold upd
  rw [if_neg e,ho i e]
  exact h.side i hi
theorem act_inv (hI:L.Inv) (hm:m.Ok) (he:L.err m=0):(L.act m).Inv:=by
 have:=Led.inv_step hI hm (L.act m).kvs.length
 unfold Led.stepL at this
 rwa [if_pos ⟨he,Nat.le_refl _⟩] at this
theorem turn_inv (hI:L.Inv) {c j:Nat} (hc:1<=c/\c<=9) (hs:L.sideN c≠0) (hj:j<=3):(L.mvB c (turnXY (L.sideN c) j)).Inv:=by
 by_cases h0:j=0
 ·subst h0
  have:L.mvB c (turnXY (L.sideN c) 0)=L:=Led.mvB_id (fun t _ _=>rfl)
  rw [this];exact hI
 ·rw [<- Led.turn_act hI hc.1]
  refine act_inv hI ?_ ?_
  ·constructor <;> simp [Led.cmTurn] <;> omega
  ·simp only [Led.err,Led.asksT,Led.asksO,Led.asksD,Led.asksB,Led.cmTurn]
   simp [askAll,askI,hs]
theorem one_int (w:World) (x:Int) (t:TypeId):IntsIn (w.alloc (.cells #[.int .i64 x] t)) (.slice (some ⟨w.heap.size,0,none⟩) 1 1) [x]:=by
 refine .inl ⟨w.heap.size,1,rfl,by simp,fun i hi => ?_⟩
 simp only [World.cell?,heap_alloc_new]
 match i,hi with
 | 0,_=>rfl
theorem BkX.below (h:BkX B w b L) (hb:Below w.heap.size w w'):BkX B w' b L:=by
 obtain ⟨vt,vp,k,hf⟩:=h
 exact ⟨vt,vp,k,hf.below hb⟩
end
section
open Go.RowKit Go.Shelf
variable {B b:Nat} {w w':World} {vt vp:Value} {L:Led} {k:Bk} {m:Cm}
theorem addT_ne (ts:List (Nat->Int)) (t:Nat->Int):addT ts t≠[]:=by unfold addT;simp
theorem ts_few (hf:L.kvs.length<=1000):L.ts.length<=1000/\L.ps.length<=1000:=by
 have h2:L.kvs.length=L.bs.length+L.ts.length+L.ps.length:=by simp [Led.kvs];omega
 omega
theorem Sim.few (hS:Sim L k) (hf:L.kvs.length<=1000):k.tubes.length<=1000/\k.poured.length<=1000:=by
 have:=ts_few hf
 rw [hS.tubes,List.length_map,hS.poured.length_eq,List.length_map]
 exact this
theorem badd_both (h:BkF B w b vt vp L k) (t:Nat->Int) (hf:L.kvs.length<=1000) :
  Calls prog 94 #[.pointer (some ⟨b,0,none⟩),.agg #[.int .i64 (t 0),.int .i64 (t 1),.int .i64 (t 2),.int .i64 (t 3),.int .i64 (t 4),.int .i64 (t 5),.int .i64 (t 6),.int .i64 (t 7),.int .i64 (t 8),.int .i64 (t 9),.int .i64 (t 10)]] w fun e w'=>e=.returned (.tuple #[])/\∃ vt',BkAt w' b vt' vp (k.withTubes (addT k.tubes t))/\(∀ g,vt'.ownBlock=some g->w.heap.size<=g)/\Keeps (fun g=>g=b) w w':=by
 by_cases he:k.tubes=[]
 ·have hb:=h.bk
  rw [h.nt he] at hb
  exact add_nil b vp k t w hb he
 ·have hb:=h.bk
  obtain ⟨oa,cap,e,_⟩:=hb.tubes.form
  subst e
  obtain ⟨g,rfl,hn,hcap,_⟩:=hb.tube (m:=0) (List.length_pos_iff.2 he)
  exact badd_any b vp g cap k t w hb hcap (by have:=h.sim.few hf;omega)
theorem bdo_reg (h:BkF B w b vt vp L k) (hI:L.Inv) (_hm:m.Ok) (hk:((m.k:Nat):Int)=2) (he:L.err m=0) (hB:B<=w.heap.size) (hf:L.kvs.length<=1000):Calls prog 63 #[.pointer (some ⟨b,0,none⟩),m.val] w (DoPost B w b L m):=by
 have hC0:=Cm.has_new w 31 m
 have hb0:=Cm.hb w m
 have hlt0:=has_new_lt w m
 have hF0:=h.below hb0
 have hK0:=hF0.bk
 have hkn:m.k=2:=by omega
 unfold Cm.val
 rw [hk] at hC0 hb0 hF0 hK0 hlt0 ⊢
 go_enter func63,ntmps63
 go_wp2_with (go_at_call 90;refine (find_any b _ _ k _ _ hK0).mono ?_;rintro e w' ⟨rfl,rfl⟩)
 generalize w.alloc (.cells #[.int .i64 2,.int .i64 m.t,.int .i64 m.o,.int .i64 m.d,.int .i64 m.v,.int .i64 m.b,.int .i64 m.x,.int .i64 m.y,.int .i64 m.n] 31)=w1 at *
 have c1:=hC0.1 1 (by omega)
 have c3:=hC0.1 3 (by omega)
 have c4:=hC0.1 4 (by omega)
 have c5:=hC0.1 5 (by omega)
 have c6:=hC0.1 6 (by omega)
 have c7:=hC0.1 7 (by omega)
 simp only [Cm.ints] at c1 c3 c4 c5 c6 c7
 have hno:=Led.no2 he hkn
 have htn:L.tube m.t=.none:=by cases hq:L.tube m.t with
  | none=>rfl
  | some q=>rw [hq] at hno;cases hno
 have HT:=hid (badd_both hF0 (tF (m.t,⟨m.x,m.y,m.b,m.d,1,0,m.v,m.v,0,0⟩)) hf)
 simp only [tF] at HT
 have HF:=hid hF0
 have HB0:=hid hb0
 have hsz:=hb0.size
 clear hC0 hF0 hK0 hb0
 go_wp2_with fail
 refine HT.out.mono ?_
 clear HT
 rintro e w2 ⟨rfl,vt2,hK2,hfr,hk2⟩
 have HX:=hid (show BkX B w2 b (L.act m) from by
  have e1:L.act m=L.putT m.t ⟨m.x,m.y,m.b,m.d,1,0,m.v,m.v,0,0⟩:=by simp [Led.act,hkn]
  rw [e1]
  exact ⟨vt2,vp,_,hK2,h.sim.add hI.ok htn _,fun e=>absurd e (addT_ne _ _),h.np,h.fb,fun g hg=>by have:=hfr g hg;omega,h.fp⟩)
 have HK:=hid ((kp_new (B:=B) HB0.out).trans (hk2.mono (fun g _ hg=>by rw [hg];exact h.fb)))
 clear hK2 hk2 hfr
 go_wp2
 go_ret
 exact ⟨_,rfl,.inr ⟨rfl,by simp [Led.tell,hkn]⟩,HX.out,HK.out⟩
theorem pourT_len (ts:List (Nat->Int)) (i j:Nat) (v:Int):(pourT ts i j v).length=ts.length:=by unfold pourT;rw [setT_len,setT_len]
theorem pourP_ne (hS:Sim L k) (hO:L.Ok) (a b v:Nat):pourP k.poured a b v≠[]:=by
 intro e
 have:=(hS.pourPs hO a b v).length_eq
 rw [e] at this
 unfold insP at this
 simp at this
theorem BkF.poured (h:BkF B w b vt vp L k) {ts ps:List (Nat->Int)} {vp':Value} {L':Led} {w1:World} (hs:Sim L' ((k.withTubes ts).withPoured ps)) (hk:BkAt w' b vt vp' ((k.withTubes ts).withPoured ps)) (hl:ts.length=k.tubes.length) (hp:ps≠[]) (hB:B<=w1.heap.size) (hv:vp'.ownBlock=vp.ownBlock\/∀ g,vp'.ownBlock=some g->w1.heap.size<=g):BkX B w' b L' :=
 ⟨vt,vp',_,hk,hs,fun e=>h.nt (List.eq_nil_of_length_eq_zero (by rw [<- hl,show ts=[] from e];rfl)),fun e=>absurd e hp,h.fb,h.ft,fun g hg=>by
  rcases hv with hv | hv
  ·exact h.fp g (by rw [<- hv];exact hg)
  ·have:=hv g hg;omega⟩
theorem own_ge (h:BkF B w b vt vp L k):∀ g,bkOwn b vt vp g->B<=g:=fun g hg=>by
 rcases hg with rfl | hg | hg
 ·exact h.fb
 ·exact h.ft g hg
 ·exact h.fp g hg
theorem bdo_pour (h:BkF B w b vt vp L k) (hI:L.Inv) (hm:m.Ok) (hk:((m.k:Nat):Int)=5) (he:L.err m=0) (hB:B<=w.heap.size) (hf:L.kvs.length<=1000):Calls prog 63 #[.pointer (some ⟨b,0,none⟩),m.val] w (DoPost B w b L m):=by
 have hC0:=Cm.has_new w 31 m
 have hb0:=Cm.hb w m
 have hlt0:=has_new_lt w m
 have hF0:=h.below hb0
 have hK0:=hF0.bk
 have hkn:m.k=5:=by omega
 unfold Cm.val
 rw [hk] at hC0 hb0 hF0 hK0 hlt0 ⊢
 go_enter func63,ntmps63
 go_wp2_with (go_at_call 90;refine (find_any b _ _ k _ _ hK0).mono ?_;rintro e w' ⟨rfl,rfl⟩)
 generalize w.alloc (.cells #[.int .i64 5,.int .i64 m.t,.int .i64 m.o,.int .i64 m.d,.int .i64 m.v,.int .i64 m.b,.int .i64 m.x,.int .i64 m.y,.int .i64 m.n] 31)=w1 at *
 have c1:=hC0.1 1 (by omega)
 have c2:=hC0.1 2 (by omega)
 have c4:=hC0.1 4 (by omega)
 simp only [Cm.ints] at c1 c2 c4
 obtain ⟨n1,n2,n3,n4,n5,n6,n7,n8⟩:=Led.no5 he hkn
 have hmv:=hm.v
 obtain ⟨qt,hqt,hDt⟩:=Led.tube_of n4
 obtain ⟨qo,hqo,hDo⟩:=Led.tube_of n5
 rw [hDt] at n2
 rw [hDo] at n6
 obtain ⟨i,hi,ei,hfi⟩:=h.sim.find_some hI.ok hqt
 obtain ⟨j,hj,ej,hfj⟩:=h.sim.find_some hI.ok hqo
 have hlen:k.tubes.length=L.ts.length:=by rw [h.sim.tubes,List.length_map]
 have hij:¬ i=j:=fun e=>by subst e;rw [ei] at ej;have:=congrArg Prod.fst ej;simp only at this;omega
 have hfw:=h.sim.few hf
 have HT:=hid (bpour_any b vt vp k m.t m.o m.v w1 hK0 (h.sim.small hI.ok) (by omega) i j (by omega) (by omega) hij hfi hfj (by omega))
 have HF:=hid hF0
 have HB0:=hid hb0
 have hsz:=hb0.size
 clear hC0 hF0 hK0 hb0
 go_wp2_with fail
 refine HT.out.mono ?_
 clear HT
 rintro e w2 ⟨rfl,vp2,hK2,hfr,hk2⟩
 have HX:=hid (show BkX B w2 b (L.act m) from by
  have e1:L.act m=L.pourL m:=by simp [Led.act,hkn]
  rw [e1]
  exact h.poured (w1:=w1) (h.sim.pourT hI.ok hqt hqo (by omega) n2 n6 hi hj ei ej) hK2 (pourT_len _ _ _ _) (pourP_ne h.sim hI.ok _ _ _) (by omega) hfr)
 have HK:=hid ((kp_new (B:=B) HB0.out).trans (hk2.mono (fun g _ hg=>own_ge h g hg)))
 clear hK2 hk2 hfr
 go_wp2
 go_ret
 exact ⟨_,rfl,.inr ⟨rfl,by simp [Led.tell,hkn]⟩,HX.out,HK.out⟩
end
section
open Go.RowKit Go.Shelf
variable {B b:Nat} {w w':World} {vt vp:Value} {L:Led} {k:Bk} {m:Cm}
theorem setT_first {ts:List (Nat->Int)} {i:Nat} (hi:i<ts.length) (f:Nat) (n:Int):setT ts i f n=ts.set i (upd ts[i] f n):=by unfold setT;rw [getD_T hi]
theorem tF_moved (t:Nat) (q:PT) (b x y:Nat) (hs:q.status=1):upd (upd (upd (tF (t,q)) 8 (b:Nat)) 9 (x:Nat)) 10 (y:Nat)=tF (t,q.stored b x y):=by
 funext i
 unfold upd
 match i with
 | 0=>rfl
 | 1=>rfl
 | 2=>rfl
 | 3=>rfl
 | 4=>rfl
 | 5=>rfl
 | 6=>show (q.status:Int)=1;omega
 | 7=>rfl
 | 8=>rfl
 | 9=>rfl
 | 10=>rfl
 | i+11=>rfl
theorem tF_back (t:Nat) (q:PT) (b x y:Nat):upd (upd (upd (upd (upd (tF (t,q)) 6 1) 7 ((min (q.thaws+1) 9:Nat):Int)) 8 (b:Nat)) 9 (x:Nat)) 10 (y:Nat)=tF (t,q.backAt b x y):=by
 funext i
 unfold upd
 match i with
 | 0=>rfl
 | 1=>rfl
 | 2=>rfl
 | 3=>rfl
 | 4=>rfl
 | 5=>rfl
 | 6=>rfl
 | 7=>rfl
 | 8=>rfl
 | 9=>rfl
 | 10=>rfl
 | i+11=>rfl
theorem tF_used (t:Nat) (q:PT) (v:Nat) (hv:v<=q.left):upd (upd (tF (t,q)) 3 ((q.left:Int) - (v:Nat))) 4 ((q.used:Int)+(v:Nat))=tF (t,q.usedBy v):=by
 funext i
 unfold upd
 match i with
 | 0=>rfl
 | 1=>rfl
 | 2=>rfl
 | 3=>show (q.left:Int) - v=((q.left - v:Nat):Int);omega
 | 4=>show (q.used:Int)+v=((q.used+v:Nat):Int);omega
 | 5=>rfl
 | 6=>rfl
 | 7=>rfl
 | 8=>rfl
 | 9=>rfl
 | 10=>rfl
 | i+11=>rfl
theorem tF_gone (t:Nat) (q:PT):upd (upd (upd (upd (tF (t,q)) 6 2) 8 0) 9 0) 10 0=tF (t,q.gone 2):=by
 funext i
 unfold upd
 match i with
 | 0=>rfl
 | 1=>rfl
 | 2=>rfl
 | 3=>rfl
 | 4=>rfl
 | 5=>rfl
 | 6=>rfl
 | 7=>rfl
 | 8=>rfl
 | 9=>rfl
 | 10=>rfl
 | i+11=>rfl
theorem bdo_move (h:BkF B w b vt vp L k) (hI:L.Inv) (_hm:m.Ok) (hk:((m.k:Nat):Int)=3) (he:L.err m=0) (_hB:B<=w.heap.size):Calls prog 63 #[.pointer (some ⟨b,0,none⟩),m.val] w (DoPost B w b L m):=by
 obtain ⟨q,hq,hD⟩:=Led.tube_of ((Led.no37 he (by omega)).2)
 obtain ⟨oa,cap,rfl,_⟩:=h.bk.tubes.form
 have hC0:=Cm.has_new w 31 m
 have hb0:=Cm.hb w m
 have hlt0:=has_new_lt w m
 have hF0:=h.below hb0
 have hK0:=hF0.bk
 have hkn:m.k=3:=by omega
 unfold Cm.val
 rw [hk] at hC0 hb0 hF0 hK0 hlt0 ⊢
 go_enter func63,ntmps63
 go_wp2_with (go_at_call 90;refine (find_any b _ _ k _ _ hK0).mono ?_;rintro e w' ⟨rfl,rfl⟩)
 generalize w.alloc (.cells #[.int .i64 3,.int .i64 m.t,.int .i64 m.o,.int .i64 m.d,.int .i64 m.v,.int .i64 m.b,.int .i64 m.x,.int .i64 m.y,.int .i64 m.n] 31)=w1 at *
 have c0:=hC0.1 0 (by omega)
 have c1:=hC0.1 1 (by omega)
 have c5:=hC0.1 5 (by omega)
 have c6:=hC0.1 6 (by omega)
 have c7:=hC0.1 7 (by omega)
 simp only [Cm.ints] at c0 c1 c5 c6 c7
 rw [hk] at c0
 obtain ⟨i,hi,ei,hf⟩:=h.sim.find_some hI.ok hq
 have hil:i<k.tubes.length:=by rw [h.sim.tubes,List.length_map];exact hi
 have e1:k.tubes[i]=tF (m.t,q):=by have:=h.sim.at hi;rw [getD_T hil,ei] at this;exact this
 obtain ⟨g,rfl,hn,hcap,hgl,t0,t1,t2,t3,t4,t5,t6,t7,t8,t9,t10,hfz⟩:=hK0.tube hil
 rw [e1] at t0 t1 t2 t3 t4 t5 t6 t7 t8 t9 t10
 simp only [tF] at t0 t1 t2 t3 t4 t5 t6 t7 t8 t9 t10
 rw [hf]
 have hct:=hK0.ct
 have hbl:=h.bk.lt
 have hg:(Value.slice (some ⟨g,0,none⟩) k.tubes.length cap).ownBlock=some g:=rfl
 have hgw:=h.bk.own_lt (g:=g) (.inr (.inl rfl))
 have hgb:¬ g=b:=fun e=>hK0.nt (by rw [<- e];rfl)
 have hbg:¬ b=g:=fun e=>hgb e.symm
 have hgc:¬ g=w.heap.size:=by omega
 have hcg:¬ w.heap.size=g:=by omega
 have hbc:¬ b=w.heap.size:=by omega
 have hi':(i:Int)<(k.tubes.length:Int):=by omega
 have hfB:=h.ft g rfl
 have hst:=(Led.no37 he (.inl hkn)).1
 rw [hD] at hst
 have l1:i<(setT k.tubes i 8 m.b).length:=by rw [setT_len];exact hil
 have l2:i<(setT (setT k.tubes i 8 m.b) i 9 m.x).length:=by rw [setT_len,setT_len];exact hil
 have R3:=hid (((((hK0.setTube hg (i:=i) hil (f:=8) (by omega) m.b).drew).setTube hg (i:=i) (f:=9) l1 (by omega) m.x).drew).setTube hg (i:=i) (f:=10) l2 (by omega) m.y).drew
 have HB0:=hid hb0
 clear l1 l2 t0 t1 t2 t3 t4 t5 t6 t7 hC0 hF0 hb0 hK0
 go_wp2_with fail
 go_region
 go_wp2_with fail
 go_region
 go_wp2_with fail
 go_region
 go_wp2
 go_ret
 have hX:BkX B (((((w1.setCell ⟨g,i*11+8,none⟩ (.int .i64 m.b)).drew).setCell ⟨g,i*11+9,none⟩ (.int .i64 m.x)).drew).setCell ⟨g,i*11+10,none⟩ (.int .i64 m.y)).drew b (L.act m):=by
  refine h.tubes ?_ R3.out (by show (setT (setT (setT k.tubes i 8 m.b) i 9 m.x) i 10 m.y).length=_;rw [setT_len,setT_len,setT_len])
  have eA:L.act m=L.putT m.t (q.stored m.b m.x m.y):=by simp [Led.act,hkn,hD]
  rw [eA]
  have:=h.sim.put hI.ok hi (show L.ts[i].1=m.t by rw [ei]) (q.stored m.b m.x m.y)
  have eS:setT (setT (setT k.tubes i 8 m.b) i 9 m.x) i 10 m.y=k.tubes.set i (tF (m.t,q.stored m.b m.x m.y)):=by
   rw [setT_first hil,setT_set _ _ hil,setT_set _ _ hil,e1,tF_moved m.t q m.b m.x m.y hst]
  show Sim _ (k.withTubes (setT (setT (setT k.tubes i 8 m.b) i 9 m.x) i 10 m.y))
  rw [eS];exact this
 exact ⟨_,rfl,.inr ⟨rfl,by simp [Led.tell,hkn]⟩,hX,((((((kp_new (B:=B) HB0.out).set1 hfB _ _).drew).set1 hfB _ _).drew).set1 hfB _ _).drew⟩
theorem bdo_use (h:BkF B w b vt vp L k) (hI:L.Inv) (hm:m.Ok) (hk:((m.k:Nat):Int)=6) (he:L.err m=0) (_hB:B<=w.heap.size):Calls prog 63 #[.pointer (some ⟨b,0,none⟩),m.val] w (DoPost B w b L m):=by
 obtain ⟨q,hq,hD⟩:=Led.tube_of ((Led.no6 he (by omega)).2.2.2)
 obtain ⟨oa,cap,rfl,_⟩:=h.bk.tubes.form
 have hC0:=Cm.has_new w 31 m
 have hb0:=Cm.hb w m
 have hlt0:=has_new_lt w m
 have hF0:=h.below hb0
 have hK0:=hF0.bk
 have hkn:m.k=6:=by omega
 unfold Cm.val
 rw [hk] at hC0 hb0 hF0 hK0 hlt0 ⊢
 go_enter func63,ntmps63
 go_wp2_with (go_at_call 90;refine (find_any b _ _ k _ _ hK0).mono ?_;rintro e w' ⟨rfl,rfl⟩)
 generalize w.alloc (.cells #[.int .i64 6,.int .i64 m.t,.int .i64 m.o,.int .i64 m.d,.int .i64 m.v,.int .i64 m.b,.int .i64 m.x,.int .i64 m.y,.int .i64 m.n] 31)=w1 at *
 have c1:=hC0.1 1 (by omega)
 have c4:=hC0.1 4 (by omega)
 simp only [Cm.ints] at c1 c4
 obtain ⟨i,hi,ei,hf⟩:=h.sim.find_some hI.ok hq
 have hil:i<k.tubes.length:=by rw [h.sim.tubes,List.length_map];exact hi
 have e1:k.tubes[i]=tF (m.t,q):=by have:=h.sim.at hi;rw [getD_T hil,ei] at this;exact this
 obtain ⟨g,rfl,hn,hcap,hgl,t0,t1,t2,t3,t4,t5,t6,t7,t8,t9,t10,hfz⟩:=hK0.tube hil
 rw [e1] at t0 t1 t2 t3 t4 t5 t6 t7 t8 t9 t10
 simp only [tF] at t0 t1 t2 t3 t4 t5 t6 t7 t8 t9 t10
 rw [hf]
 have hct:=hK0.ct
 have hbl:=h.bk.lt
 have hg:(Value.slice (some ⟨g,0,none⟩) k.tubes.length cap).ownBlock=some g:=rfl
 have hgw:=h.bk.own_lt (g:=g) (.inr (.inl rfl))
 have hgb:¬ g=b:=fun e=>hK0.nt (by rw [<- e];rfl)
 have hbg:¬ b=g:=fun e=>hgb e.symm
 have hgc:¬ g=w.heap.size:=by omega
 have hcg:¬ w.heap.size=g:=by omega
 have hbc:¬ b=w.heap.size:=by omega
 have hi':(i:Int)<(k.tubes.length:Int):=by omega
 have hfB:=h.ft g rfl
 obtain ⟨n1,n2,_,_⟩:=Led.no6 he hkn
 rw [hD] at n1 n2
 have hgq:=(hI.ok.t1 _ ((Led.tube_mem hI.ok).1 hq)).2.2
 have g8:q.left<=1000000:=hgq.left
 have g9:q.used<=1000000:=hgq.used
 have hmv:=hm.v
 have l1:i<(setT k.tubes i 3 ((q.left:Int) - (m.v:Nat))).length:=by rw [setT_len];exact hil
 have R3:=hid ((((hK0.setTube hg (i:=i) (f:=3) hil (by omega) ((q.left:Int) - (m.v:Nat))).drew).setTube hg (i:=i) (f:=4) l1 (by omega) ((q.used:Int)+(m.v:Nat))).drew)
 have HB0:=hid hb0
 clear l1 t0 t1 t2 t5 t6 t7 t8 t9 t10 hC0 hF0 hb0 hK0
 go_wp2_with fail
 go_region
 go_wp2_with fail
 go_region
 go_wp2
 go_ret
 have hX:BkX B (((((w1).setCell ⟨g,i*11+3,none⟩ (.int .i64 ((q.left:Int) - (m.v:Nat)))).drew).setCell ⟨g,i*11+4,none⟩ (.int .i64 ((q.used:Int)+(m.v:Nat)))).drew) b (L.act m):=by
  refine h.tubes ?_ R3.out (by show (setT (setT k.tubes i 3 ((q.left:Int) - (m.v:Nat))) i 4 ((q.used:Int)+(m.v:Nat))).length=_;rw [setT_len,setT_len])
  have eA:L.act m=L.putT m.t (q.usedBy m.v):=by simp [Led.act,hkn,hD]
  rw [eA]
  have:=h.sim.put hI.ok hi (show L.ts[i].1=m.t by rw [ei]) (q.usedBy m.v)
  have eS:setT (setT k.tubes i 3 ((q.left:Int) - (m.v:Nat))) i 4 ((q.used:Int)+(m.v:Nat))=k.tubes.set i (tF (m.t,q.usedBy m.v)):=by
   rw [setT_first hil,setT_set _ _ hil,e1,tF_used m.t q m.v n1]
  show Sim _ (k.withTubes (setT (setT k.tubes i 3 ((q.left:Int) - (m.v:Nat))) i 4 ((q.used:Int)+(m.v:Nat))))
  rw [eS];exact this
 exact ⟨_,rfl,.inr ⟨rfl,by simp [Led.tell,hkn]⟩,hX,(((((kp_new (B:=B) HB0.out).set1 hfB _ _).drew).set1 hfB _ _).drew)⟩
end
section
open Go.RowKit Go.Shelf
variable {B b:Nat} {w w':World} {vt vp:Value} {L:Led} {k:Bk} {m:Cm}
theorem bdo_back (h:BkF B w b vt vp L k) (hI:L.Inv) (_hm:m.Ok) (hk:((m.k:Nat):Int)=8) (he:L.err m=0) (_hB:B<=w.heap.size):Calls prog 63 #[.pointer (some ⟨b,0,none⟩),m.val] w (DoPost B w b L m):=by
 obtain ⟨q,hq,hD⟩:=Led.tube_of ((Led.no8 he (by omega)).2)
 obtain ⟨oa,cap,rfl,_⟩:=h.bk.tubes.form
 have hC0:=Cm.has_new w 31 m
 have hb0:=Cm.hb w m
 have hlt0:=has_new_lt w m
 have hF0:=h.below hb0
 have hK0:=hF0.bk
 have hkn:m.k=8:=by omega
 unfold Cm.val
 rw [hk] at hC0 hb0 hF0 hK0 hlt0 ⊢
 go_enter func63,ntmps63
 go_wp2_with fail
 refine (find_any b _ _ k _ _ hK0).mono ?_
 rintro e w' ⟨rfl,rfl⟩
 generalize w.alloc (.cells #[.int .i64 8,.int .i64 m.t,.int .i64 m.o,.int .i64 m.d,.int .i64 m.v,.int .i64 m.b,.int .i64 m.x,.int .i64 m.y,.int .i64 m.n] 31)=w1 at *
 have c0:=hC0.1 0 (by omega)
 have c1:=hC0.1 1 (by omega)
 have c5:=hC0.1 5 (by omega)
 have c6:=hC0.1 6 (by omega)
 have c7:=hC0.1 7 (by omega)
 simp only [Cm.ints] at c0 c1 c5 c6 c7
 rw [hk] at c0
 obtain ⟨i,hi,ei,hf⟩:=h.sim.find_some hI.ok hq
 have hil:i<k.tubes.length:=by rw [h.sim.tubes,List.length_map];exact hi
 have e1:k.tubes[i]=tF (m.t,q):=by have:=h.sim.at hi;rw [getD_T hil,ei] at this;exact this
 obtain ⟨g,rfl,hn,hcap,hgl,t0,t1,t2,t3,t4,t5,t6,t7,t8,t9,t10,hfz⟩:=hK0.tube hil
 rw [e1] at t0 t1 t2 t3 t4 t5 t6 t7 t8 t9 t10
 simp only [tF] at t0 t1 t2 t3 t4 t5 t6 t7 t8 t9 t10
 rw [hf]
 have hct:=hK0.ct
 have hbl:=h.bk.lt
 have hg:(Value.slice (some ⟨g,0,none⟩) k.tubes.length cap).ownBlock=some g:=rfl
 have hgw:=h.bk.own_lt (g:=g) (.inr (.inl rfl))
 have hgb:¬ g=b:=fun e=>hK0.nt (by rw [<- e];rfl)
 have hbg:¬ b=g:=fun e=>hgb e.symm
 have hgc:¬ g=w.heap.size:=by omega
 have hcg:¬ w.heap.size=g:=by omega
 have hbc:¬ b=w.heap.size:=by omega
 have hi':(i:Int)<(k.tubes.length:Int):=by omega
 have hfB:=h.ft g rfl
 have hgq:=(hI.ok.t1 _ ((Led.tube_mem hI.ok).1 hq)).2.2
 have g8:q.thaws<=9:=hgq.thaws
 have hmin:(if 9<(q.thaws:Int)+1 then (9:Int) else (q.thaws:Int)+1)=((min (q.thaws+1) 9:Nat):Int):=by split <;> omega
 have hmin2:min ((q.thaws:Int)+1) 9=((min (q.thaws+1) 9:Nat):Int):=by omega
 have l1:i<(setT k.tubes i 6 1).length:=by rw [setT_len];exact hil
 have R2:=hid (((hK0.setTube hg (i:=i) hil (f:=6) (by omega) 1).setTube hg (i:=i) (f:=7) l1 (by omega) ((min (q.thaws+1) 9:Nat):Int)).drew)
 have HB0:=hid hb0
 clear l1 t0 t1 t2 t3 t4 t5 hC0 hF0 hb0 hK0 hgq
 go_wp2_with fail
 go_region
 try simp only [hmin2]
 clear hmin hmin2
 generalize hmn:min (q.thaws+1) 9=mn at *
 have HMn:=hid hmn
 clear hmn
 have hkp2:Keeps (fun x=>x=g) w1 (((w1.setCell ⟨g,i*11+6,none⟩ (.int .i64 1)).setCell ⟨g,i*11+7,none⟩ (.int .i64 mn)).drew):=((((Keeps.refl (fun x=>x=g) w1).set1 rfl _ _).set1 rfl _ _).drew)
 have hl2:i<(setT (setT k.tubes i 6 1) i 7 (mn:Nat)).length:=by rw [setT_len,setT_len];exact hil
 obtain ⟨g',eg,hn2,hcap2,hgl2,-,-,-,-,-,-,-,-,u8,u9,u10,hfz2⟩:=R2.out.tube (m:=i) hl2
 injection eg with eg
 injection eg with eg _ _
 subst eg
 have c5:=(hkp2.cell (p:=⟨w.heap.size,5,none⟩) hlt0 hcg).trans c5
 have c6:=(hkp2.cell (p:=⟨w.heap.size,6,none⟩) hlt0 hcg).trans c6
 have c7:=(hkp2.cell (p:=⟨w.heap.size,7,none⟩) hlt0 hcg).trans c7
 have hct2:=R2.out.ct
 have HKp:=hid ((kp_new (B:=B) HB0.out).trans (hkp2.mono (fun x _ hx=>by rw [hx];exact hfB)))
 clear hkp2 hct t6 t7 t8 t9 t10 hfz hn2
 generalize ((w1.setCell ⟨g,i*11+6,none⟩ (.int .i64 1)).setCell ⟨g,i*11+7,none⟩ (.int .i64 mn)).drew=w2 at *
 have l3:i<(setT (setT (setT k.tubes i 6 1) i 7 (mn:Nat)) i 8 m.b).length:=by rw [setT_len];exact hl2
 have l4:i<(setT (setT (setT (setT k.tubes i 6 1) i 7 (mn:Nat)) i 8 m.b) i 9 m.x).length:=by rw [setT_len];exact l3
 have R3:=hid (((((R2.out.setTube hg (i:=i) (f:=8) hl2 (by omega) m.b).drew).setTube hg (i:=i) (f:=9) l3 (by omega) m.x).drew).setTube hg (i:=i) (f:=10) l4 (by omega) m.y).drew
 clear R2 l3 l4
 generalize ((k.withTubes (setT k.tubes i 6 1)).withTubes (setT (k.withTubes (setT k.tubes i 6 1)).tubes i 7 (mn:Nat))).tubes[i] 8=z8 at *
 generalize ((k.withTubes (setT k.tubes i 6 1)).withTubes (setT (k.withTubes (setT k.tubes i 6 1)).tubes i 7 (mn:Nat))).tubes[i] 9=z9 at *
 generalize ((k.withTubes (setT k.tubes i 6 1)).withTubes (setT (k.withTubes (setT k.tubes i 6 1)).tubes i 7 (mn:Nat))).tubes[i] 10=z10 at *
 go_wp2_with fail
 go_region
 go_wp2_with fail
 go_region
 go_wp2_with fail
 go_region
 go_wp2
 go_ret
 have hX:BkX B ((((((w2.setCell ⟨g,i*11+8,none⟩ (.int .i64 m.b)).drew).setCell ⟨g,i*11+9,none⟩ (.int .i64 m.x)).drew).setCell ⟨g,i*11+10,none⟩ (.int .i64 m.y)).drew) b (L.act m):=by
  refine h.tubes ?_ R3.out (by show (setT (setT (setT (setT (setT k.tubes i 6 1) i 7 (mn:Nat)) i 8 m.b) i 9 m.x) i 10 m.y).length=_;rw [setT_len,setT_len,setT_len,setT_len,setT_len])
  have eA:L.act m=L.putT m.t (q.backAt m.b m.x m.y):=by simp [Led.act,hkn,hD]
  rw [eA]
  have:=h.sim.put hI.ok hi (show L.ts[i].1=m.t by rw [ei]) (q.backAt m.b m.x m.y)
  have eS:setT (setT (setT (setT (setT k.tubes i 6 1) i 7 (mn:Nat)) i 8 m.b) i 9 m.x) i 10 m.y=k.tubes.set i (tF (m.t,q.backAt m.b m.x m.y)):=by
   rw [setT_first hil,setT_set _ _ hil,setT_set _ _ hil,setT_set _ _ hil,setT_set _ _ hil,e1,<- HMn.out,tF_back m.t q m.b m.x m.y]
  show Sim _ (k.withTubes (setT (setT (setT (setT (setT k.tubes i 6 1) i 7 (mn:Nat)) i 8 m.b) i 9 m.x) i 10 m.y))
  rw [eS];exact this
 exact ⟨_,rfl,.inr ⟨rfl,by simp [Led.tell,hkn]⟩,hX,(((((HKp.out.set1 hfB _ _).drew).set1 hfB _ _).drew).set1 hfB _ _).drew⟩
theorem bdo_take (h:BkF B w b vt vp L k) (hI:L.Inv) (_hm:m.Ok) (hk:((m.k:Nat):Int)=7) (he:L.err m=0) (_hB:B<=w.heap.size):Calls prog 63 #[.pointer (some ⟨b,0,none⟩),m.val] w (DoPost B w b L m):=by
 obtain ⟨q,hq,hD⟩:=Led.tube_of ((Led.no37 he (by omega)).2)
 obtain ⟨oa,cap,rfl,_⟩:=h.bk.tubes.form
 have hC0:=Cm.has_new w 31 m
 have hb0:=Cm.hb w m
 have hlt0:=has_new_lt w m
 have hF0:=h.below hb0
 have hK0:=hF0.bk
 have hkn:m.k=7:=by omega
 unfold Cm.val
 rw [hk] at hC0 hb0 hF0 hK0 hlt0 ⊢
 go_enter func63,ntmps63
 go_wp2_with fail
 refine (find_any b _ _ k _ _ hK0).mono ?_
 rintro e w' ⟨rfl,rfl⟩
 generalize w.alloc (.cells #[.int .i64 7,.int .i64 m.t,.int .i64 m.o,.int .i64 m.d,.int .i64 m.v,.int .i64 m.b,.int .i64 m.x,.int .i64 m.y,.int .i64 m.n] 31)=w1 at *
 have c0:=hC0.1 0 (by omega)
 have c1:=hC0.1 1 (by omega)
 simp only [Cm.ints] at c0 c1
 rw [hk] at c0
 obtain ⟨i,hi,ei,hf⟩:=h.sim.find_some hI.ok hq
 have hil:i<k.tubes.length:=by rw [h.sim.tubes,List.length_map];exact hi
 have e1:k.tubes[i]=tF (m.t,q):=by have:=h.sim.at hi;rw [getD_T hil,ei] at this;exact this
 obtain ⟨g,rfl,hn,hcap,hgl,t0,t1,t2,t3,t4,t5,t6,t7,t8,t9,t10,hfz⟩:=hK0.tube hil
 rw [e1] at t0 t1 t2 t3 t4 t5 t6 t7 t8 t9 t10
 simp only [tF] at t0 t1 t2 t3 t4 t5 t6 t7 t8 t9 t10
 rw [hf]
 have hct:=hK0.ct
 have hbl:=h.bk.lt
 have hg:(Value.slice (some ⟨g,0,none⟩) k.tubes.length cap).ownBlock=some g:=rfl
 have hgw:=h.bk.own_lt (g:=g) (.inr (.inl rfl))
 have hgb:¬ g=b:=fun e=>hK0.nt (by rw [<- e];rfl)
 have hbg:¬ b=g:=fun e=>hgb e.symm
 have hgc:¬ g=w.heap.size:=by omega
 have hcg:¬ w.heap.size=g:=by omega
 have hbc:¬ b=w.heap.size:=by omega
 have hi':(i:Int)<(k.tubes.length:Int):=by omega
 have hfB:=h.ft g rfl
 have r1:=hK0.setTube hg (i:=i) hil (f:=6) (by omega) 2
 have l1:i<(k.withTubes (setT k.tubes i 6 2)).tubes.length:=by show i<(setT k.tubes i 6 2).length;rw [setT_len];exact hil
 have HG:=hid (gone_any b _ vp (k.withTubes (setT k.tubes i 6 2)) i l1 _ r1)
 have HB0:=hid hb0
 clear r1 l1 t0 t1 t2 t3 t4 t5 hC0 hF0 hb0 hK0
 go_wp2_with fail
 refine HG.out.mono ?_
 clear HG
 rintro e w2 ⟨rfl,hK2,hk2⟩
 have HX:=hid (show BkX B w2 b (L.act m) from by
  refine h.tubes ?_ hK2 (by show (goneT (setT k.tubes i 6 2) i).length=_;unfold goneT;rw [setT_len,setT_len,setT_len,setT_len])
  have eA:L.act m=L.putT m.t (q.gone 2):=by simp [Led.act,hkn,hD]
  rw [eA]
  have:=h.sim.put hI.ok hi (show L.ts[i].1=m.t by rw [ei]) (q.gone 2)
  have eS:goneT (setT k.tubes i 6 2) i=k.tubes.set i (tF (m.t,q.gone 2)):=by
   unfold goneT
   rw [setT_first hil,setT_set _ _ hil,setT_set _ _ hil,setT_set _ _ hil,e1,tF_gone m.t q]
  show Sim _ (k.withTubes (goneT (setT k.tubes i 6 2) i))
  rw [eS];exact this)
 have HK:=hid (((kp_new (B:=B) HB0.out).set1 hfB (i*11+6) (.int .i64 2)).trans (hk2.mono (fun g' _ hg'=>h.ft g' hg')))
 clear hK2 hk2
 go_wp2
 go_ret
 exact ⟨_,rfl,.inr ⟨rfl,by simp [Led.tell,hkn]⟩,HX.out,HK.out⟩
end
end Go.Proofs.YtalncjhldkcmaaaGreat
