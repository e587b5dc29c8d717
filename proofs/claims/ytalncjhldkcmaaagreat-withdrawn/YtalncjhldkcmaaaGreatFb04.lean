import Derived.Test.YtalncjhldkcmaaaGreatFb02
namespace Go.Proofs.YtalncjhldkcmaaaGreat
open _root_.Go.Proofs.Tryz
set_option maxHeartbeats 16000000
set_option maxRecDepth 8000
section
open Go.RowKit Go.Shelf
def keyOf (es:List Ent):Int:=(es.head?.map Ent.key).getD 0
theorem above_any (n₀:Nat) (v:Value) (es:List Ent) (w:World) (hE:EntsAt n₀ w v es) (hne:es≠[]) :
  Calls prog 209 #[v] w fun e w'=>e=.returned (.agg #[.int .u32 (keyOf es),.string { data:=#[] },.pointer (some ⟨w.heap.size+1,0,none⟩)])/\w'.heap[w.heap.size+1]? = some (.cells #[v] 252)/\Below w.heap.size w w':=by
 obtain ⟨g,o,cap,rfl,h1,h2,h3,h4,h5⟩:=hE
 have hl:=List.length_pos_iff.2 hne
 obtain ⟨c0,c1,c2⟩:=h5 0 hl
 simp only [Nat.zero_mul,Nat.add_zero] at c0
 have hk:keyOf es=es[0].key:=by cases es with | nil=>exact absurd rfl hne | cons a r=>rfl
 have hl':(0:Int)<(es.length:Int):=by omega
 rw [hk]
 clear h5 hk c1 c2 hne
 generalize es[0].key=ky at *
 clear hl
 generalize es.length=len at *
 have hgs:g<w.heap.size:=by omega
 have c0':=(Below.cell (p:=⟨g,o,none⟩) ((Below.refl w.heap.size w).alloc nlr (.cells #[.int .u32 0,.string { data:=#[] },.pointer none] 254)) hgs).trans c0
 go_enter func209,ntmps209
 go_wp2
 refine bodyPost_ret (v:=.agg #[.int .u32 ky,.string { data:=#[] },.pointer (some ⟨w.heap.size+1,0,none⟩)]) (by simp [results,results209,go_sem]) rfl ⟨rfl,?_,((Below.refl _ w).alloc nlr _).alloc (by simp) _⟩
 have:=World.alloc_heap_new (w.alloc (.cells #[.int .u32 ky,.string { data:=#[] },.pointer (some ⟨w.heap.size+1,0,none⟩)] 254)) (.cells #[.slice (some ⟨g,o,none⟩) len cap] 252)
 rwa [World.size_alloc] at this
def splitL {α:Type} (l:List α):List (List α):=if l.length<=5 then [l] else [l.take (l.length / 2),l.drop (l.length / 2)]
theorem splitL_map {α β:Type} (f:α->β) (l:List α):splitL (l.map f)=(splitL l).map (List.map f):=by
 unfold splitL
 rw [List.length_map]
 split <;> simp
theorem splitL_flat {α:Type} (l:List α):(splitL l).flatten=l:=by unfold splitL;split <;> simp
theorem splitL_ne {α:Type} (l:List α) (h:l≠[]):∀ p∈splitL l,p≠[]:=by
 intro p hp
 unfold splitL at hp
 split at hp
 ·simp at hp;subst hp;exact h
 ·rename_i hl
  simp at hp
  rcases hp with rfl | rfl
  ·intro e;have:=congrArg List.length e;rw [List.length_take,List.length_nil] at this;omega
  ·intro e;have:=congrArg List.length e;rw [List.length_drop,List.length_nil] at this;omega
theorem above_in (n₀:Nat) (v:Value) (es:List Ent) (w:World) (hE:EntsAt n₀ w v es) (hne:es≠[]) (u:World) (hu:Below w.heap.size w u) :
  Calls prog 209 #[v] u fun e w'=>∃ nb,e=.returned (.agg #[.int .u32 (keyOf es),.string { data:=#[] },.pointer (some ⟨nb,0,none⟩)])/\u.heap.size<=nb/\nb<w'.heap.size/\w'.heap[nb]? = some (.cells #[v] 252)/\Below u.heap.size u w'/\Below w.heap.size w w':=by
 have hn:n₀<=w.heap.size:=by obtain ⟨_,_,_,_,_,_,h,_⟩:=hE;exact h
 refine (above_any n₀ v es u (hE.below (hu.mono hn)) hne).mono ?_
 rintro e w' ⟨rfl,h1,h2⟩
 exact ⟨_,rfl,by omega,(Array.getElem?_eq_some_iff.1 h1).1,h1,h2,hu.trans (h2.mono hu.size)⟩
def upEnt (p:(Nat×Value)×List Ent):Ent:=⟨keyOf p.2,⟨#[]⟩,some ⟨p.1.1,0,none⟩⟩
def SplitEnds (n₀:Nat) (es:List Ent) (w:World) (e:Ending) (w':World):Prop :=
 ∃ (v':Value) (ps:List ((Nat×Value)×List Ent)),e=.returned v'/\ps.map Prod.snd=splitL es/\EntsAt w'.heap.size w' v' (ps.map upEnt)/\Below w.heap.size w w' /\
  ∀ p∈ps,p.1.1<w'.heap.size/\w'.heap[p.1.1]? = some (.cells #[p.1.2] 252)/\EntsAt n₀ w' p.1.2 p.2
theorem new_ents (w:World) (t:TypeId) (es:List Ent) (arr:Array Value) (h:arr.toList=entCells es) (hl:es.length<1000000):EntsAt (w.alloc (.cells arr t)).heap.size (w.alloc (.cells arr t)) (.slice (some ⟨w.heap.size,0,none⟩) es.length es.length) es:=by
 have hn:(w.alloc (.cells arr t)).heap[w.heap.size]? = some (.cells arr t):=World.alloc_heap_new w _
 refine ⟨w.heap.size,0,es.length,rfl,Nat.le_refl _,by simp,Nat.le_refl _,hl,fun i hi => ?_⟩
 have c:∀ f (hf:f<3),(w.alloc (.cells arr t)).cell? ⟨w.heap.size,i*3+f,none⟩=(es[i].cells)[f]?:=fun f hf=>by
  rw [<- entCells_at es i f hi hf,<- h]
  simp only [World.cell?,hn]
  simp
 have a0:=c 0 (by omega)
 have a1:=c 1 (by omega)
 have a2:=c 2 (by omega)
 refine ⟨?_,?_,?_⟩
 ·rw [Nat.zero_add];exact a0
 ·rw [Nat.zero_add];exact a1
 ·rw [Nat.zero_add];exact a2
theorem split_two (n₀:Nat) (es:List Ent) (w u:World) (g o cap nb1 nb2:Nat) (k1 k2:Int) (h3:n₀<=w.heap.size) (hS:splitL es=[es.take (es.length / 2),es.drop (es.length / 2)]) (hk1:keyOf (es.take (es.length / 2))=k1) (hk2:keyOf (es.drop (es.length / 2))=k2)
  (E1:EntsAt n₀ w (.slice (some ⟨g,o,none⟩) (es.length / 2) cap) (es.take (es.length / 2))) (E2:EntsAt n₀ w (.slice (some ⟨g,o+es.length / 2*3,none⟩) (es.length - es.length / 2) (cap - es.length / 2)) (es.drop (es.length / 2)))
  (hX:Below w.heap.size w u) (hn1:u.heap[nb1]? = some (.cells #[.slice (some ⟨g,o,none⟩) (es.length / 2) cap] 252)) (hn2:u.heap[nb2]? = some (.cells #[.slice (some ⟨g,o+es.length / 2*3,none⟩) (es.length - es.length / 2) (cap - es.length / 2)] 252)) :
  SplitEnds n₀ es w (.returned (.slice (some ⟨u.heap.size,0,none⟩) 2 2)) (u.alloc (.cells #[.int .u32 k1,.string { data:=#[] },.pointer (some ⟨nb1,0,none⟩),.int .u32 k2,.string { data:=#[] },.pointer (some ⟨nb2,0,none⟩)] 254)):=by
 have hbn:Below u.heap.size u (u.alloc (.cells #[.int .u32 k1,.string { data:=#[] },.pointer (some ⟨nb1,0,none⟩),.int .u32 k2,.string { data:=#[] },.pointer (some ⟨nb2,0,none⟩)] 254)):=bal
 have l1:=(Array.getElem?_eq_some_iff.1 hn1).1
 have l2:=(Array.getElem?_eq_some_iff.1 hn2).1
 subst hk1;subst hk2
 have hall:=hX.trans (hbn.mono hX.size)
 refine ⟨_,[((nb1,.slice (some ⟨g,o,none⟩) (es.length / 2) cap),es.take (es.length / 2)),((nb2,.slice (some ⟨g,o+es.length / 2*3,none⟩) (es.length - es.length / 2) (cap - es.length / 2)),es.drop (es.length / 2))],rfl,by rw [hS];rfl,new_ents u _ [upEnt ((nb1,_),es.take (es.length / 2)),upEnt ((nb2,_),es.drop (es.length / 2))] _ rfl (by simp),hall,?_⟩
 intro p hp
 simp only [List.mem_cons,List.not_mem_nil,or_false] at hp
 rcases hp with rfl | rfl
 ·exact ⟨by simp;omega,(hbn.block nb1 l1).trans hn1,E1.below (hall.mono h3)⟩
 ·exact ⟨by simp;omega,(hbn.block nb2 l2).trans hn2,E2.below (hall.mono h3)⟩
theorem split_any (n₀:Nat) (v:Value) (es:List Ent) (w:World) (hE:EntsAt n₀ w v es) (hne:es≠[]) :
  Calls prog 206 #[v] w (SplitEnds n₀ es w):=by
 have hl:=List.length_pos_iff.2 hne
 by_cases h5:es.length<=5
 ·have hA:=above_in n₀ v es w hE hne w (Below.refl _ _)
  have HE:=hid hE
  have HS:Hid (splitL es=[es]):=hid (by simp [splitL,h5])
  obtain ⟨g,o,cap,rfl,h1,h2,h3,h4,_⟩:=hE
  have h5':(es.length:Int)<=5:=by omega
  go_enter func206,ntmps206
  go_wp2_with (go_at_call 209;refine hA.mono ?_;clear hA;rintro e w1 ⟨nb,rfl,hnb,hnl,hn1,hb1,_⟩)
  go_ret
  have hbn:Below w1.heap.size w1 (w1.alloc (.cells #[.int .u32 (keyOf es),.string { data:=#[] },.pointer (some ⟨nb,0,none⟩)] 254)):=bal
  refine ⟨_,[((nb,.slice (some ⟨g,o,none⟩) es.length cap),es)],rfl,by rw [HS.out];rfl,new_ents w1 _ [upEnt ((nb,.slice (some ⟨g,o,none⟩) es.length cap),es)] _ rfl (by simp),hb1.trans (hbn.mono hb1.size),?_⟩
  intro p hp
  rw [List.mem_singleton] at hp
  subst hp
  exact ⟨by simp;omega,(hbn.block nb hnl).trans hn1,HE.out.below ((hb1.trans (hbn.mono hb1.size)).mono h3)⟩
 ·have h5':(5:Int)<(es.length:Int):=by omega
  have HS:Hid (splitL es=[es.take (es.length / 2),es.drop (es.length / 2)]):=hid (by simp [splitL,h5])
  have hE':=hE
  obtain ⟨g,o,cap,rfl,h1,h2,h3,h4,hcs⟩:=hE'
  have E1:EntsAt n₀ w (.slice (some ⟨g,o,none⟩) (es.length / 2) cap) (es.take (es.length / 2)):=by
   refine ⟨g,o,cap,by rw [List.length_take];congr 1;omega,by rw [List.length_take];omega,h2,h3,by rw [List.length_take];omega,fun i hi => ?_⟩
   rw [List.length_take] at hi
   have:=hcs i (by omega)
   simpa using this
  have E2:EntsAt n₀ w (.slice (some ⟨g,o+es.length / 2*3,none⟩) (es.length - es.length / 2) (cap - es.length / 2)) (es.drop (es.length / 2)):=by
   refine ⟨g,o+es.length / 2*3,cap - es.length / 2,by rw [List.length_drop],by rw [List.length_drop];omega,h2,h3,by rw [List.length_drop];omega,fun i hi => ?_⟩
   rw [List.length_drop] at hi
   have:=hcs (es.length / 2+i) (by omega)
   rw [show o+(es.length / 2+i)*3=o+es.length / 2*3+i*3 by omega] at this
   simpa using this
  have A1:=above_in n₀ _ _ w E1 (by intro e;have:=congrArg List.length e;rw [List.length_take,List.length_nil] at this;omega)
  have A2:=above_in n₀ _ _ w E2 (by intro e;have:=congrArg List.length e;rw [List.length_drop,List.length_nil] at this;omega)
  have HE1:=hid E1
  have HE2:=hid E2
  have hD:Below w.heap.size w w.drew:=(Below.refl _ w).drew
  have hq1:es.length / 2<=es.length:=by omega
  have hq2:es.length / 2<cap:=by omega
  clear E1 E2 hcs hE hne hl
  generalize hk1:keyOf (es.take (es.length / 2))=k1 at *
  generalize hk2:keyOf (es.drop (es.length / 2))=k2 at *
  have HK1:=hid hk1
  have HK2:=hid hk2
  clear hk1 hk2
  go_enter func206,ntmps206
  go_wp2_with fail
  go_region_with (first
   | (go_at_call 209;refine (A1 _ ?_).mono ?_;(first | exact hX2 | exact hD);clear A1;rintro e w1 ⟨nb1,rfl,hnb1,hnl1,hn1,hb1,hX1⟩)
   | (go_at_call 209;refine (A2 _ ?_).mono ?_;(first | exact hX1 | exact hD);clear A2;rintro e w2 ⟨nb2,rfl,hnb2,hnl2,hn2,hb2,hX2⟩))
  all_goals go_wp2_with fail
  all_goals go_ret
  all_goals first
   | exact split_two n₀ es w w2 g o cap nb1 nb2 k1 k2 h3 HS.out HK1.out HK2.out HE1.out HE2.out hX2 ((hb2.block nb1 hnl1).trans hn1) hn2
   | exact split_two n₀ es w w1 g o cap nb1 nb2 k1 k2 h3 HS.out HK1.out HK2.out HE1.out HE2.out hX1 hn1 ((hb1.block nb2 hnl2).trans hn2)
end
section
open Go.RowKit
def insK (l:List KV) (k:Int) (s:ByteArray):List KV:=l.filter (fun x=>decide (x.1<k))++(k,s)::l.filter (fun x=>decide (k<x.1))
theorem insK_mid {A M B:List KV} {k:Int} (s:ByteArray) (hA:∀ x∈A,x.1<k) (hB:∀ x∈B,k<x.1):insK (A++M++B) k s=A++insK M k s++B:=by
 have a1:A.filter (fun x=>decide (x.1<k))=A:=List.filter_eq_self.2 fun x hx=>by simpa using hA x hx
 have a2:A.filter (fun x=>decide (k<x.1))=[]:=List.filter_eq_nil_iff.2 fun x hx=>by have:=hA x hx;simp;omega
 have b1:B.filter (fun x=>decide (x.1<k))=[]:=List.filter_eq_nil_iff.2 fun x hx=>by have:=hB x hx;simp;omega
 have b2:B.filter (fun x=>decide (k<x.1))=B:=List.filter_eq_self.2 fun x hx=>by simpa using hB x hx
 simp [insK,a1,a2,b1,b2]
theorem insK_nil (k:Int) (s:ByteArray):insK [] k s=[(k,s)]:=rfl
theorem insK_one (k:Int) (s t:ByteArray):insK [(k,t)] k s=[(k,s)]:=by simp [insK]
theorem insK_rise {l:List KV} (h:RiseK l) (k:Int) (s:ByteArray):RiseK (insK l k s):=by
 unfold insK RiseK
 rw [List.pairwise_append,List.pairwise_cons]
 refine ⟨h.sublist List.filter_sublist,⟨fun x hx => ?_,h.sublist List.filter_sublist⟩,fun x hx y hy => ?_⟩
 ·simpa using (List.mem_filter.1 hx).2
 ·have h1:x.1<k:=by simpa using (List.mem_filter.1 hx).2
  rcases List.mem_cons.1 hy with rfl | hy
  ·exact h1
  ·have h2:k<y.1:=by simpa using (List.mem_filter.1 hy).2
   omega
abbrev Twig:=Ent×List KV
def GoodTwig (n₀:Nat) (W:World) (ht:Nat) (z:Twig):Prop :=
 (ht=0/\z.1.below=none/\z.2=[z.1.kv])\/(∃ h c,ht=h+1/\z.1.below=some ⟨c,0,none⟩/\NodeAt n₀ W h c z.2/\(z.2.head?).map Prod.fst=some z.1.key)
theorem GoodTwig.below {n₀:Nat} {A B:World} {ht:Nat} {z:Twig} (h:GoodTwig n₀ A ht z) (hb:Below n₀ A B):GoodTwig n₀ B ht z :=
 h.imp id fun ⟨h',c,a,b,n,d⟩=>⟨h',c,a,b,n.below hb,d⟩
theorem GoodTwig.mono {n₀ n₁:Nat} {A:World} {ht:Nat} {z:Twig} (h:GoodTwig n₀ A ht z) (hn:n₀<=n₁) (hs:n₁<=A.heap.size):GoodTwig n₁ A ht z :=
 h.imp id fun ⟨h',c,a,b,n,d⟩=>⟨h',c,a,b,n.mono hn hs,d⟩
theorem GoodTwig.key {n₀:Nat} {A:World} {ht:Nat} {z:Twig} (h:GoodTwig n₀ A ht z):(z.2.head?).map Prod.fst=some z.1.key:=by
 rcases h with ⟨_,_,h⟩ | ⟨_,_,_,_,_,h⟩
 ·rw [h];rfl
 ·exact h
theorem node_of {n₀:Nat} {W:World} {ht b:Nat} {v:Value} {zs:List Twig} (hb:b<n₀) (hc:W.cell? ⟨b,0,none⟩=some v) (hE:EntsAt n₀ W v (zs.map Prod.fst)) (hne:zs≠[]) (hz:∀ z∈zs,GoodTwig n₀ W ht z) :
  NodeAt n₀ W ht b (zs.map Prod.snd).flatten:=by
 have hne':zs.map Prod.fst≠[]:=by simpa using hne
 cases ht with
 | zero =>
  refine ⟨hb,v,_,hc,hE,hne',?_,?_⟩
  ·intro e he
   obtain ⟨z,hz1,rfl⟩:=List.mem_map.1 he
   rcases hz z hz1 with ⟨_,h,_⟩ | ⟨h',c,h0,_⟩
   ·exact h
   ·omega
  ·clear hE hc hne hne'
   induction zs with
   | nil=>rfl
   | cons z r ih =>
    have h2:z.2=[z.1.kv]:=by
     rcases hz z (by simp) with ⟨_,_,h⟩ | ⟨h',c,h0,_⟩
     ·exact h
     ·omega
    simp only [List.map_cons,List.flatten_cons,h2,List.singleton_append]
    rw [ih (fun y hy=>hz y (by simp [hy]))]
 | succ h =>
  refine ⟨hb,v,_,zs.map Prod.snd,hc,hE,hne',by simp,rfl,fun i hi hj => ?_⟩
  have hl:i<zs.length:=by simpa using hi
  rcases hz zs[i] (List.getElem_mem hl) with ⟨h0,_⟩ | ⟨h',c,h0,h1,h2,h3⟩
  ·omega
  ·obtain rfl:h=h':=by omega
   exact ⟨c,by simpa using h1,by simpa using h2,by simpa using h3⟩
theorem NodeAt.twigs {n₀:Nat} {A:World} {ht b:Nat} {l:List KV} (h:NodeAt n₀ A ht b l) (hR:RiseK l):b<n₀/\∃ v zs,A.cell? ⟨b,0,none⟩=some v/\EntsAt n₀ A v (zs.map Prod.fst)/\zs≠[]/\l=(zs.map Prod.snd).flatten/\Parts (zs.map Prod.fst) (zs.map Prod.snd) l/\∀ z∈zs,GoodTwig n₀ A ht z:=by
 obtain ⟨hb,v,es,ls,hc,hE,hne,hP,h0,h1⟩:=h.parts hR
 have e1:(es.zip ls).map Prod.fst=es:=by rw [List.map_fst_zip];have:=hP.len;omega
 have e2:(es.zip ls).map Prod.snd=ls:=by rw [List.map_snd_zip];have:=hP.len;omega
 refine ⟨hb,v,es.zip ls,hc,by rw [e1];exact hE,fun e=>hne (by rw [<- e1,e];rfl),by rw [e2];exact hP.flat,by rw [e1,e2];exact hP,fun z hz => ?_⟩
 obtain ⟨i,hi,rfl⟩:=List.mem_iff_getElem.1 hz
 rw [List.length_zip] at hi
 have hi1:i<es.length:=by omega
 have hi2:i<ls.length:=by omega
 simp only [List.getElem_zip]
 cases ht with
 | zero=>exact .inl ⟨rfl,(h0 rfl i hi1 hi2).2,(h0 rfl i hi1 hi2).1⟩
 | succ h'=>obtain ⟨c,a,n⟩:=h1 h' rfl i hi1 hi2;exact .inr ⟨h',c,rfl,a,n,hP.head i hi1 hi2⟩
end
section
open Go.RowKit Go.Shelf
def NoNode (W:World) (g:Nat):Prop:=(∀ s l c,W.cell? ⟨g,0,none⟩≠some (.slice s l c))/\(∀ o k,W.cell? ⟨g,o,none⟩≠some (.int .u32 k))
theorem EntsAt.keptX {n₀:Nat} {A B:World} {X:Nat->Prop} (hs:A.heap.size<=B.heap.size) (hk:∀ g o v,¬ X g->A.cell? ⟨g,o,none⟩=some v->B.cell? ⟨g,o,none⟩=some v) (hx:∀ g,X g->NoNode A g) {v:Value} {es:List Ent} (h:EntsAt n₀ A v es) (hne:es≠[]):EntsAt n₀ B v es:=by
 obtain ⟨g,o,cap,rfl,h1,h2,h3,h4,h5⟩:=h
 have hX:¬ X g:=fun h=>(hx g h).2 _ _ (h5 0 (List.length_pos_iff.2 hne)).1
 exact ⟨g,o,cap,rfl,h1,h2,by omega,h4,fun i hi=>⟨hk _ _ _ hX (h5 i hi).1,hk _ _ _ hX (h5 i hi).2.1,hk _ _ _ hX (h5 i hi).2.2⟩⟩
theorem ents_slice {n₀:Nat} {A:World} {v:Value} {es:List Ent} (h:EntsAt n₀ A v es):∃ s l c,v=.slice s l c:=by obtain ⟨g,o,cap,rfl,_⟩:=h;exact ⟨_,_,_,rfl⟩
theorem NodeAt.keptX {n₀:Nat} {A B:World} {X:Nat->Prop} (hs:A.heap.size<=B.heap.size) (hk:∀ g o v,¬ X g->A.cell? ⟨g,o,none⟩=some v->B.cell? ⟨g,o,none⟩=some v) (hx:∀ g,X g->NoNode A g):∀ {h b:Nat} {l:List KV},NodeAt n₀ A h b l->NodeAt n₀ B h b l
 | 0,b,l,⟨h1,v,es,h2,h3,h4,h5⟩=>by
  obtain ⟨s,n,c,rfl⟩:=ents_slice h3
  exact ⟨h1,_,es,hk _ _ _ (fun h=>(hx b h).1 _ _ _ h2) h2,h3.keptX hs hk hx h4,h4,h5⟩
 | h+1,b,l,⟨h1,v,es,ls,h2,h3,h4,h5,h6,h7⟩=>by
  obtain ⟨s,n,c,rfl⟩:=ents_slice h3
  refine ⟨h1,_,es,ls,hk _ _ _ (fun h=>(hx b h).1 _ _ _ h2) h2,h3.keptX hs hk hx h4,h4,h5,h6,fun i hi hj => ?_⟩
  obtain ⟨c,c1,c2,c3⟩:=h7 i hi hj
  exact ⟨c,c1,NodeAt.keptX hs hk hx c2,c3⟩
theorem TreeIs.keptX {n₀:Nat} {A B:World} {X:Nat->Prop} (hs:A.heap.size<=B.heap.size) (hk:∀ g o v,¬ X g->A.cell? ⟨g,o,none⟩=some v->B.cell? ⟨g,o,none⟩=some v) (hx:∀ g,X g->NoNode A g) {r:Option Addr} {l:List KV} (h:TreeIs n₀ A r l):TreeIs n₀ B r l :=
 ⟨h.1,by have:=h.2.1;omega,h.2.2.imp id fun ⟨ht,b,e,hn⟩=>⟨ht,b,e,hn.keptX hs hk hx⟩⟩
def TreeBox (W:World) (b:Nat) (t:TypeId) (r:Option Addr) (n:Int):Prop:=W.heap[b]? = some (.cells #[.pointer r,.int .i64 n] t (0,0))
theorem TreeBox.c0 {W:World} {b:Nat} {t:TypeId} {r:Option Addr} {n:Int} (h:TreeBox W b t r n):W.cell? ⟨b,0,none⟩=some (.pointer r):=by simp only [World.cell?,show W.heap[b]? = _ from h];rfl
theorem TreeBox.c1 {W:World} {b:Nat} {t:TypeId} {r:Option Addr} {n:Int} (h:TreeBox W b t r n):W.cell? ⟨b,1,none⟩=some (.int .i64 n):=by simp only [World.cell?,show W.heap[b]? = _ from h];rfl
theorem TreeBox.fz {W:World} {b:Nat} {t:TypeId} {r:Option Addr} {n:Int} (h:TreeBox W b t r n) (i:Nat):W.frozen? ⟨b,i,none⟩=false:=by simp [World.frozen?,show W.heap[b]? = _ from h]
theorem TreeBox.lt {W:World} {b:Nat} {t:TypeId} {r:Option Addr} {n:Int} (h:TreeBox W b t r n):b<W.heap.size:=(Array.getElem?_eq_some_iff.1 h).1
theorem TreeBox.noNode {W:World} {b:Nat} {t:TypeId} {r:Option Addr} {n:Int} (h:TreeBox W b t r n):NoNode W b:=by
 refine ⟨fun s l c e => ?_,fun o k e => ?_⟩
 ·rw [h.c0] at e;cases e
 ·simp only [World.cell?,show W.heap[b]? = _ from h] at e
  match o with
  | 0=>simp at e
  | 1=>simp at e
  | o+2=>simp at e
theorem TreeBox.set0 {W:World} {b:Nat} {t:TypeId} {r:Option Addr} {n:Int} (h:TreeBox W b t r n) (r':Option Addr):TreeBox (W.setCell ⟨b,0,none⟩ (.pointer r')) b t r' n:=heap_setCell_same W b 0 _ t _ h
theorem TreeBox.set1 {W:World} {b:Nat} {t:TypeId} {r:Option Addr} {n:Int} (h:TreeBox W b t r n) (n':Int):TreeBox (W.setCell ⟨b,1,none⟩ (.int .i64 n')) b t r n':=heap_setCell_same W b 1 _ t _ h
theorem TreeIs.set {n₀:Nat} {W:World} {b:Nat} {t:TypeId} {r r0:Option Addr} {n:Int} {l:List KV} (h:TreeIs n₀ W r l) (hb:TreeBox W b t r0 n) (i:Nat) (v:Value):TreeIs n₀ (W.setCell ⟨b,i,none⟩ v) r l :=
 h.keptX (X:=fun g=>g=b) (by simp) (fun g o u hg hc=>by rw [World.cell?_of_block (w:=W) (Below.heap_setCell W ⟨b,i,none⟩ v g hg)];exact hc) (fun g hg=>by subst hg;exact hb.noNode)
theorem insK_len {l:List KV} (h:RiseK l) (k:Int) (s:ByteArray):(insK l k s).length=if (getK l k).isSome then l.length else l.length+1:=by
 have key:l=l.filter (fun x=>decide (x.1<k))++sel k k l++l.filter (fun x=>decide (k<x.1)):=by
  induction l with
  | nil=>rfl
  | cons a r ih =>
   obtain ⟨h1,h2⟩:=List.pairwise_cons.1 h
   have ih:=ih h2
   rcases Int.lt_trichotomy a.1 k with hl | he | hg
   ·have e1:sel k k (a::r)=sel k k r:=List.filter_cons_of_neg (by simp;omega)
    have e2:(a::r).filter (fun x=>decide (x.1<k))=a::r.filter (fun x=>decide (x.1<k)):=by simp [hl]
    have e3:(a::r).filter (fun x=>decide (k<x.1))=r.filter (fun x=>decide (k<x.1)):=List.filter_cons_of_neg (by simp;omega)
    rw [e1,e2,e3,List.cons_append,List.cons_append,<- ih]
   ·have f1:r.filter (fun x=>decide (x.1<k))=[]:=List.filter_eq_nil_iff.2 fun x hx=>by have:=h1 x hx;simp;omega
    have f2:sel k k r=[]:=sel_none fun x hx=>by have:=h1 x hx;omega
    have f3:r.filter (fun x=>decide (k<x.1))=r:=List.filter_eq_self.2 fun x hx=>by have:=h1 x hx;simp;omega
    have e1:sel k k (a::r)=a::sel k k r:=by simp [sel,he]
    have e2:(a::r).filter (fun x=>decide (x.1<k))=r.filter (fun x=>decide (x.1<k)):=by simp [he]
    have e3:(a::r).filter (fun x=>decide (k<x.1))=r.filter (fun x=>decide (k<x.1)):=by simp [he]
    rw [e1,e2,e3,f1,f2,f3];rfl
   ·have f1:r.filter (fun x=>decide (x.1<k))=[]:=List.filter_eq_nil_iff.2 fun x hx=>by have:=h1 x hx;simp;omega
    have f2:sel k k r=[]:=sel_none fun x hx=>by have:=h1 x hx;omega
    have f3:r.filter (fun x=>decide (k<x.1))=r:=List.filter_eq_self.2 fun x hx=>by have:=h1 x hx;simp;omega
    have e1:sel k k (a::r)=sel k k r:=List.filter_cons_of_neg (by simp;omega)
    have e2:(a::r).filter (fun x=>decide (x.1<k))=r.filter (fun x=>decide (x.1<k)):=List.filter_cons_of_neg (by simp;omega)
    have e3:(a::r).filter (fun x=>decide (k<x.1))=a::r.filter (fun x=>decide (k<x.1)):=by simp [hg]
    rw [e1,e2,e3,f1,f2,f3];rfl
 have hone:(sel k k l).length=if (getK l k).isSome then 1 else 0:=by
  unfold getK
  have hr:RiseK (sel k k l):=h.sublist List.filter_sublist
  have hm:∀ x∈sel k k l,x.1=k:=fun x hx=>by have:=(List.mem_filter.1 hx).2;simp at this;omega
  cases hq:sel k k l with
  | nil=>rfl
  | cons a r =>
   cases r with
   | nil=>rfl
   | cons c d =>
    rw [hq] at hr hm
    have h1:=List.rel_of_pairwise_cons hr (List.mem_cons_self (a:=c) (l:=d))
    have h2:=hm a (by simp)
    have h3:=hm c (by simp)
    omega
 unfold insK
 generalize l.filter (fun x=>decide (x.1<k))=A at key ⊢
 generalize l.filter (fun x=>decide (k<x.1))=B at key ⊢
 have hlen:l.length=A.length+(sel k k l).length+B.length:=by
  have:=congrArg List.length key
  rw [List.length_append,List.length_append] at this
  exact this
 rw [hone] at hlen
 rw [List.length_append,List.length_cons]
 by_cases hs:(getK l k).isSome=true
 ·rw [if_pos hs] at hlen ⊢;omega
 ·rw [if_neg hs] at hlen ⊢;omega
end
section
open Go.RowKit
def UpEnds (ht:Nat) (l:List KV) (w:World) (e:Ending) (w':World):Prop :=
 ∃ (v':Value) (zs:List Twig),e=.returned v'/\EntsAt w'.heap.size w' v' (zs.map Prod.fst)/\(∀ z∈zs,GoodTwig w'.heap.size w' (ht+1) z)/\zs≠[]/\zs.length<=2/\(zs.map Prod.snd).flatten=l/\Below w.heap.size w w'
theorem splitL_len {α:Type} (l:List α):(splitL l).length<=2/\0<(splitL l).length:=by unfold splitL;split <;> simp
theorem split_twigs {n₁ ht:Nat} {w w':World} {e:Ending} {zs:List Twig} (hz:∀ z∈zs,GoodTwig n₁ w ht z) (hne:zs≠[]) (hn:n₁<=w.heap.size) (h:SplitEnds n₁ (zs.map Prod.fst) w e w'):UpEnds ht (zs.map Prod.snd).flatten w e w':=by
 obtain ⟨v',ps,rfl,hps,hE,hb,hp⟩:=h
 rw [splitL_map] at hps
 have hl:ps.length=(splitL zs).length:=by have:=congrArg List.length hps;simpa using this
 have hlen:=splitL_len zs
 have e1:((ps.zip (splitL zs)).map fun x=>(upEnt x.1,(x.2.map Prod.snd).flatten)).map Prod.fst=ps.map upEnt:=by
  rw [List.map_map]
  have:(Prod.fst ∘ fun x:((Nat×Value)×List Ent)×List Twig=>(upEnt x.1,(x.2.map Prod.snd).flatten))=upEnt ∘ Prod.fst:=rfl
  rw [this,<- List.map_map,List.map_fst_zip (by omega)]
 have e2:((ps.zip (splitL zs)).map fun x=>(upEnt x.1,(x.2.map Prod.snd).flatten)).map Prod.snd=(splitL zs).map fun q=>(q.map Prod.snd).flatten:=by
  rw [List.map_map]
  have:(Prod.snd ∘ fun x:((Nat×Value)×List Ent)×List Twig=>(upEnt x.1,(x.2.map Prod.snd).flatten))=(fun q:List Twig=>(q.map Prod.snd).flatten) ∘ Prod.snd:=rfl
  rw [this,<- List.map_map,List.map_snd_zip (by omega)]
 refine ⟨v',(ps.zip (splitL zs)).map fun x=>(upEnt x.1,(x.2.map Prod.snd).flatten),rfl,by rw [e1];exact hE,?_,?_,?_,?_,hb⟩
 ·intro z hzz
  obtain ⟨x,hx,rfl⟩:=List.mem_map.1 hzz
  obtain ⟨i,hi,rfl⟩:=List.mem_iff_getElem.1 hx
  rw [List.length_zip] at hi
  have i1:i<ps.length:=by omega
  have i2:i<(splitL zs).length:=by omega
  simp only [List.getElem_zip]
  obtain ⟨a1,a2,a3⟩:=hp ps[i] (List.getElem_mem i1)
  have hq:ps[i].2=((splitL zs)[i]).map Prod.fst:=by
   have:=congrArg (fun l=>l[i]?) hps
   simpa [i1,i2] using this
  have hqm:∀ z∈(splitL zs)[i],z∈zs:=fun z hz'=>by
   have:z∈(splitL zs).flatten:=List.mem_flatten_of_mem (List.getElem_mem i2) hz'
   rwa [splitL_flat] at this
  have hqne:(splitL zs)[i]≠[]:=splitL_ne zs hne _ (List.getElem_mem i2)
  generalize (splitL zs)[i]=q at hq hqm hqne ⊢
  have hbn:Below n₁ w w':=hb.mono hn
  have hs:w.heap.size<=w'.heap.size:=hb.size
  refine .inr ⟨ht,ps[i].1.1,rfl,rfl,node_of a1 (by simp only [World.cell?,a2];rfl) ?_ hqne (fun z hz'=>((hz z (hqm z hz')).below hbn).mono (by omega) nlr),?_⟩
  ·rw [<- hq];exact a3.mono (by omega) nlr
  ·show _=some (keyOf ps[i].2)
   rw [hq]
   cases q with
   | nil=>exact absurd rfl hqne
   | cons z r =>
    have hk:=(hz z (hqm z (by simp))).key
    simp only [List.map_cons,List.flatten_cons,keyOf,List.head?_cons,Option.map_some,Option.getD_some]
    cases hz2:z.2 with
    | nil=>rw [hz2] at hk;simp at hk
    | cons y t=>rw [hz2] at hk;simpa using hk
 ·intro he
  have:=congrArg List.length he
  rw [List.length_map,List.length_zip,List.length_nil] at this
  omega
 ·rw [List.length_map,List.length_zip];omega
 ·rw [e2]
  have:(splitL zs).map (fun q=>(q.map Prod.snd).flatten)=((splitL zs).map (List.map Prod.snd)).map List.flatten:=by rw [List.map_map];rfl
  rw [this,<- List.flatten_flatten,<- List.map_flatten,splitL_flat]
theorem ents_nil {n₀:Nat} {W:World} (g o c:Nat) (hg:g<n₀) (hn:n₀<=W.heap.size):EntsAt n₀ W (.slice (some ⟨g,o,none⟩) 0 c) [] :=
 ⟨g,o,c,rfl,by simp,hg,hn,by simp,fun i hi=>by simp at hi⟩
theorem ents_take {n₀:Nat} {W:World} {g o len cap:Nat} {es:List Ent} (h:EntsAt n₀ W (.slice (some ⟨g,o,none⟩) len cap) es) (i:Nat) (hi:i<=es.length):EntsAt n₀ W (.slice (some ⟨g,o,none⟩) i cap) (es.take i):=by
 obtain ⟨g',o',cap',e,h1,h2,h3,h4,h5⟩:=h
 injection e with e1 e2 e3
 injection e1 with e1
 injection e1 with e4 e5
 subst e4;subst e5;subst e3
 have hl:(es.take i).length=i:=by rw [List.length_take];omega
 refine ⟨g,o,cap,by rw [hl],by omega,h2,h3,by omega,fun j hj => ?_⟩
 have:=h5 j (by omega)
 simpa using this
theorem ents_drop {n₀:Nat} {W:World} {g o len cap:Nat} {es:List Ent} (h:EntsAt n₀ W (.slice (some ⟨g,o,none⟩) len cap) es) (i:Nat) (hi:i<=es.length):EntsAt n₀ W (.slice (some ⟨g,o+i*3,none⟩) (es.length - i) (cap - i)) (es.drop i):=by
 obtain ⟨g',o',cap',e,h1,h2,h3,h4,h5⟩:=h
 injection e with e1 e2 e3
 injection e1 with e1
 injection e1 with e4 e5
 subst e4;subst e5;subst e3
 have hl:(es.drop i).length=es.length - i:=by rw [List.length_drop]
 refine ⟨g,o+i*3,cap - i,by rw [hl],by omega,h2,h3,by omega,fun j hj => ?_⟩
 have:=h5 (i+j) (by omega)
 rw [show o+(i+j)*3=o+i*3+j*3 by omega] at this
 simpa using this
theorem many_new (u:World) (t:TypeId) (v0 v1 v2:Value) (e0 e1 e2:List Ent) (h0:EntsAt u.heap.size u v0 e0) (h1:EntsAt u.heap.size u v1 e1) (h2:EntsAt u.heap.size u v2 e2) (hl:e0.length+e1.length+e2.length<100000) :
  ManyAt (u.alloc (.cells #[v0,v1,v2] t)) u.heap.size [(v0,e0),(v1,e1),(v2,e2)]:=by
 have hb:Below u.heap.size u (u.alloc (.cells #[v0,v1,v2] t)):=bal
 have hn:(u.alloc (.cells #[v0,v1,v2] t)).heap[u.heap.size]? = some (.cells #[v0,v1,v2] t):=World.alloc_heap_new u _
 have up:∀ {v es},EntsAt u.heap.size u v es->EntsAt (u.alloc (.cells #[v0,v1,v2] t)).heap.size (u.alloc (.cells #[v0,v1,v2] t)) v es:=fun h=>(h.below hb).mono (by simp) nlr
 refine ⟨by simp,?_,?_,by simp,by simp;omega⟩
 ·intro i hi
  simp only [List.length_cons,List.length_nil] at hi
  have:i=0\/i=1\/i=2:=by omega
  rcases this with rfl | rfl | rfl <;> (simp only [World.cell?,hn];rfl)
 ·intro i hi
  simp only [List.length_cons,List.length_nil] at hi
  have:i=0\/i=1\/i=2:=by omega
  rcases this with rfl | rfl | rfl
  ·exact up h0
  ·exact up h1
  ·exact up h2
end
section
open Go.RowKit
theorem leaf_new {es:List Ent} {ls:List (List KV)} {l:List KV} (hP:Parts es ls l) {k:Int} {i:Nat} (hC:Cut es k i) (h0:∀ j (hj:j<es.length) (hl:j<ls.length),ls[j]=[es[j].kv]) (hno:∀ hi:i<es.length,es[i].key≠k) (s:ByteArray) :
  (ls.take i).flatten++[(k,s)]++(ls.drop i).flatten=insK l k s:=by
 have hl:=hP.len
 rw [hP.flat,flat_split ls i]
 have:=insK_mid (A:=(ls.take i).flatten) (M:=[]) (B:=(ls.drop i).flatten) s (k:=k) ?_ ?_
 ·rw [List.append_nil] at this;rw [this,insK_nil]
 ·intro x hx
  obtain ⟨j,hj,hij,hm⟩:=mem_take_flat hx
  rw [h0 j (by omega) hj,List.mem_singleton] at hm
  subst hm
  exact hC.2.1 j (by omega) hij
 ·intro x hx
  obtain ⟨j,hj,hij,hm⟩:=mem_drop_flat hx
  have hje:j<es.length:=by omega
  rw [h0 j hje hj,List.mem_singleton] at hm
  subst hm
  show k<es[j].key
  have h1:=hC.2.2 j hje hij
  have hi:i<es.length:=by omega
  have h2:=hC.2.2 i hi nlr
  have h3:=hno hi
  have h4:=rise_le hP.riseE hi hje hij
  omega
theorem leaf_old {es:List Ent} {ls:List (List KV)} {l:List KV} (hP:Parts es ls l) {k:Int} {i:Nat} (hC:Cut es k i) (h0:∀ j (hj:j<es.length) (hl:j<ls.length),ls[j]=[es[j].kv]) (hi:i<es.length) (hk:es[i].key=k) (s:ByteArray) :
  (ls.take i).flatten++[(k,s)]++(ls.drop (i+1)).flatten=insK l k s:=by
 have hl:=hP.len
 have hil:i<ls.length:=by omega
 rw [hP.flat,flat_split ls (i+1),flat_take ls i hil,h0 i hi hil]
 have:=insK_mid (A:=(ls.take i).flatten) (M:=[es[i].kv]) (B:=(ls.drop (i+1)).flatten) s (k:=k) ?_ ?_
 ·rw [this];have e:es[i].kv=(k,es[i].val):=by rw [<- hk];rfl
  rw [e,insK_one]
 ·intro x hx
  obtain ⟨j,hj,hij,hm⟩:=mem_take_flat hx
  rw [h0 j (by omega) hj,List.mem_singleton] at hm
  subst hm
  exact hC.2.1 j (by omega) hij
 ·intro x hx
  obtain ⟨j,hj,hij,hm⟩:=mem_drop_flat hx
  have hje:j<es.length:=by omega
  rw [h0 j hje hj,List.mem_singleton] at hm
  subst hm
  show k<es[j].key
  have:=rise_lt hP.riseE hi hje (by omega)
  omega
theorem cut_of_way0 {es:List Ent} {t:Int} {i:Nat} (h:wayI 0 es t i):Cut es t i:=by
 obtain ⟨_,⟨c,_⟩ | ⟨h0,_⟩⟩:=h
 ·exact c
 ·exact absurd rfl h0
theorem concat3 (u:World) (v0 v1 v2:Value) (e0 e1 e2:List Ent) (h0:EntsAt u.heap.size u v0 e0) (h1:EntsAt u.heap.size u v1 e1) (h2:EntsAt u.heap.size u v2 e2) (hl:e0.length+e1.length+e2.length<100000) (hp:0<e1.length) :
  Calls prog 207 #[.slice (some ⟨u.heap.size,0,none⟩) 3 3] (u.alloc (.cells #[v0,v1,v2] 250)) fun e w'=>∃ v,e=.returned v/\EntsAt w'.heap.size w' v (e0++e1++e2)/\Below u.heap.size u w':=by
 refine (concat_any u.heap.size [(v0,e0),(v1,e1),(v2,e2)] _ (e0++e1++e2) (many_new u _ v0 v1 v2 e0 e1 e2 h0 h1 h2 hl) (by simp) (by simp;omega)).mono ?_
 rintro e w' ⟨v,rfl,hE,hb⟩
 exact ⟨v,rfl,hE,((Below.refl u.heap.size u).alloc nlr (.cells #[v0,v1,v2] 250)).trans (hb.mono (by simp))⟩
theorem ends_of {ht n₁:Nat} {w u w':World} {e:Ending} {zs:List Twig} {l:List KV} (hz:∀ z∈zs,GoodTwig n₁ u ht z) (hne:zs≠[]) (hn:n₁<=u.heap.size) (h:SplitEnds n₁ (zs.map Prod.fst) u e w') (hl:(zs.map Prod.snd).flatten=l) (hb:Below w.heap.size w u):UpEnds ht l w e w':=by
 obtain ⟨v',zs',a,b,c,d,f,g,i⟩:=split_twigs hz hne hn h
 exact ⟨v',zs',a,b,c,d,f,by rw [g];exact hl,hb.trans (i.mono hb.size)⟩
theorem leaf_end {n₀ i j:Nat} {k:Int} {s:ByteArray} {zs:List Twig} {es:List Ent} {l:List KV} {w w5 w6:World} {e:Ending} (hz:∀ z∈zs,GoodTwig n₀ w 0 z) (hes:zs.map Prod.fst=es) (hS:SplitEnds w5.heap.size (es.take i++[⟨k,s,none⟩]++es.drop j) w5 e w6)
  (hl:((zs.map Prod.snd).take i).flatten++[(k,s)]++((zs.map Prod.snd).drop j).flatten=insK l k s) (hn:n₀<=w.heap.size) (hb:Below w.heap.size w w5):UpEnds 0 (insK l k s) w e w6:=by
 refine ends_of (zs:=zs.take i++[(⟨k,s,none⟩,[(k,s)])]++zs.drop j) (n₁:=w5.heap.size) ?_ (by simp) nlr ?_ ?_ hb
 ·intro z hzz
  have old:z∈zs->GoodTwig w5.heap.size w5 0 z:=fun h=>((hz z h).below (hb.mono hn)).mono (by have:=hb.size;omega) nlr
  simp only [List.mem_append,List.mem_singleton] at hzz
  rcases hzz with (h | h) | h
  ·exact old (List.mem_of_mem_take h)
  ·subst h;exact .inl ⟨rfl,rfl,rfl⟩
  ·exact old (List.mem_of_mem_drop h)
 ·rw [<- hes] at hS
  simpa [List.map_take,List.map_drop] using hS
 ·rw [<- hl];simp [List.map_take,List.map_drop]
theorem leaf_h0 {n₀:Nat} {zs:List Twig} {es:List Ent} {w:World} (hz:∀ z∈zs,GoodTwig n₀ w 0 z) (hes:zs.map Prod.fst=es):∀ j (hj:j<es.length) (hl:j<(zs.map Prod.snd).length),(zs.map Prod.snd)[j]=[es[j].kv]:=by
 subst hes
 intro j hj hl
 have hjz:j<zs.length:=by simpa using hl
 rcases hz zs[j] (List.getElem_mem hjz) with ⟨_,_,h⟩ | ⟨h',c,h0,_⟩
 ·simpa using h
 ·omega
theorem twigs_le {n₀ ht:Nat} {w:World} {zs:List Twig} (hz:∀ z∈zs,GoodTwig n₀ w ht z):zs.length<=((zs.map Prod.snd).flatten).length:=by
 induction zs with
 | nil=>simp
 | cons z r ih =>
  have h1:=ih fun y hy=>hz y (by simp [hy])
  have hk:=(hz z (by simp)).key
  have h2:0<z.2.length:=by cases hq:z.2 with | nil=>rw [hq] at hk;simp at hk | cons=>simp
  simp only [List.map_cons,List.flatten_cons,List.length_append,List.length_cons]
  omega
theorem put_concat (w4:World) (k:Int) (s:ByteArray) (v0 v2:Value) (e0 e2:List Ent) (h0:EntsAt w4.heap.size w4 v0 e0) (h2:EntsAt w4.heap.size w4 v2 e2) (hl:e0.length+e2.length<90000) :
  Calls prog 207 #[.slice (some ⟨w4.heap.size+1,0,none⟩) 3 3] ((w4.alloc (.cells #[.int .u32 k,.string s,.pointer none] 254)).alloc (.cells #[v0,.slice (some ⟨w4.heap.size,0,none⟩) 1 1,v2] 250)) fun e w'=>∃ v,e=.returned v/\EntsAt w'.heap.size w' v (e0++[⟨k,s,none⟩]++e2)/\Below w4.heap.size w4 w':=by
 have hb:Below w4.heap.size w4 (w4.alloc (.cells #[.int .u32 k,.string s,.pointer none] 254)):=bal
 have h:=concat3 (w4.alloc (.cells #[.int .u32 k,.string s,.pointer none] 254)) v0 (.slice (some ⟨w4.heap.size,0,none⟩) 1 1) v2 e0 [⟨k,s,none⟩] e2 ((h0.below hb).mono (by simp) nlr) (new_ents w4 _ [⟨k,s,none⟩] _ rfl (by simp)) ((h2.below hb).mono (by simp) nlr) (by simp;omega) (by simp)
 rw [World.size_alloc] at h
 refine h.mono ?_
 rintro e w' ⟨v,a,b,c⟩
 exact ⟨v,a,b,hb.trans (c.mono (by simp))⟩
end
section
open Go.RowKit Go.Shelf
theorem put_leaf (n₀ b:Nat) (l:List KV) (k:Int) (s:ByteArray) (w:World) (hN:NodeAt n₀ w 0 b l) (hn:n₀<=w.heap.size) (hR:RiseK l) (hL:l.length<10000) :
  Calls prog 187 #[.pointer (some ⟨b,0,none⟩),.agg #[.int .u32 k,.string s,.pointer none]] w (UpEnds 0 (insK l k s) w):=by
 obtain ⟨hb,v,zs,hc,hE,hne,hfl,hP,hz⟩:=hN.twigs hR
 generalize hes:zs.map Prod.fst=es at hE hP
 obtain ⟨i0,hi0⟩:=way_exists 0 hP.riseE k
 have hil:i0<=es.length:=hi0.1
 -- the entry in a block of its own
 obtain ⟨w1,hw1⟩:∃ w1,w.alloc (.cells #[.int .u32 k,.string s,.pointer none] 254)=w1:=⟨_,rfl⟩
 have hb1:Below w.heap.size w w1:=by rw [<- hw1];exact bal
 have hx1:w1.heap[w.heap.size]? = some (.cells #[.int .u32 k,.string s,.pointer none] 254):=by rw [<- hw1];exact World.alloc_heap_new w _
 have hxl:=(Array.getElem?_eq_some_iff.1 hx1).1
 have hbn1:Below n₀ w w1:=hb1.mono hn
 have hwy:=way_at n₀ 0 b l v _ k w1 (hN.below hbn1) ((hbn1.cell (p:=⟨b,0,none⟩) hb).trans hc) (hE.below hbn1) hP.riseE i0 hi0
 have HW1:=hid hw1
 have HB1:=hid hb1
 have HX1:=hid hx1
 have HN:=hid hN
 have HI:=hid hi0
 have HP:=hid hP
 have HZ:=hid hz
 have HE:=hid hE
 have HF:=hid hfl
 have HES:=hid hes
 have HLE:Hid (es.length<10000):=hid (by rw [<- hes];have:=twigs_le hz;rw [<- hfl] at this;simp;omega)
 have HNE:=hid hne
 have hE':=hE
 obtain ⟨g,o,cap,rfl,h1,h2,h3,h4,h5⟩:=hE'
 have H5:=hid h5
 clear hw1 hb1 hx1 hN hi0 hP hz hE hfl h5 hes hL hne
 go_enter func187,ntmps187
 go_wp2_with (go_at_call 180;rw [HW1.out];refine hwy.mono ?_;clear hwy;rintro e w2 ⟨rfl,hb2⟩)
 have hB2:Below w.heap.size w w2:=HB1.out.trans (hb2.mono HB1.out.size)
 have hc2:=((hB2.mono hn).cell (p:=⟨b,0,none⟩) hb).trans hc
 have hX2:=(hb2.block _ hxl).trans HX1.out
 have hs2:w.heap.size<w2.heap.size:=by have:=hb2.size;omega
 clear hb2 hbn1 hxl hc HW1 HB1 HX1
 by_cases hlt:i0<es.length
 ·have hcc:i0<cap:=by omega
  go_quiet (fail)
  have hB3:Below w.heap.size w (w2.drewN nq):=below_drewN hB2 nq
  have hX3:(w2.drewN nq).heap[w.heap.size]? = some (.cells #[.int .u32 k,.string s,.pointer none] 254):=hX2
  have hs3:w.heap.size<(w2.drewN nq).heap.size:=hs2
  clear hB2 hX2 hs2 hc2
  generalize w2.drewN nq=w3 at *
  have hx0:w3.cell? ⟨w.heap.size,0,none⟩=some (.int .u32 k):=by simp only [World.cell?,hX3];rfl
  have hx1:w3.cell? ⟨w.heap.size,1,none⟩=some (.string s):=by simp only [World.cell?,hX3];rfl
  have hx2:w3.cell? ⟨w.heap.size,2,none⟩=some (.pointer none):=by simp only [World.cell?,hX3];rfl
  have hgw:g<w.heap.size:=by omega
  have ck:=(hB3.cell (p:=⟨g,o+i0*3,none⟩) hgw).trans (H5.out i0 hlt).1
  have hpos:0<es.length - i0:=by omega
  have hdp:decide (0<es.length - i0)=true:=by simpa using hpos
  by_cases hk:es[i0].key=k
  ·have HK:=hid (leaf_old HP.out (cut_of_way0 HI.out) (leaf_h0 HZ.out HES.out) hlt hk s)
   have HK1:=hid hk
   rw [hk] at ck
   clear hk
   have hp1:(1:Int)<=((es.length - i0:Nat):Int):=by omega
   rcases Nat.lt_or_eq_of_le (show 1<=cap - i0 by omega) with hc1 | hc1
   ·have hlen1:1<=es.length - i0:=by omega
    go_wp2_with (go_at_call 205;refine (isLeaf_any n₀ 0 b l _ (HN.out.below (hB3.mono hn))).mono ?_;rintro e w' ⟨rfl,rfl⟩)
    go_quiet (fail)
    have hB4:Below w.heap.size w (w'.drewN nq):=below_drewN hB3 nq
    have hx0':(w'.drewN nq).cell? ⟨w.heap.size,0,none⟩=some (.int .u32 k):=hx0
    have hx1':(w'.drewN nq).cell? ⟨w.heap.size,1,none⟩=some (.string s):=hx1
    have hx2':(w'.drewN nq).cell? ⟨w.heap.size,2,none⟩=some (.pointer none):=hx2
    clear hB3 hx0 hx1 hx2 hX3 hs3 ck
    generalize w'.drewN nq=w4 at *
    have eB:=((ents_drop HE.out (i0+1) (by omega)).below (hB4.mono hn)).mono (n₁:=w4.heap.size) (by have:=hB4.size;omega) nlr
    rw [show o+(i0+1)*3=o+i0*3+3 by omega,show es.length - (i0+1)=es.length - i0 - 1 by omega,show cap - (i0+1)=cap - i0 - 1 by omega] at eB
    have HC:=put_concat w4 k s (.slice (some ⟨g,o,none⟩) i0 cap) (.slice (some ⟨g,o+i0*3+3,none⟩) (es.length - i0 - 1) (cap - i0 - 1)) (es.take i0) (es.drop (i0+1)) (((ents_take HE.out i0 hil).below (hB4.mono hn)).mono (by have:=hB4.size;omega) nlr) eB (by have:=HLE.out;rw [List.length_take,List.length_drop];omega)
    go_wp2_with (first
     | (go_at_call 207;refine HC.mono ?_;clear HC;rintro e w5 ⟨v5,rfl,hE5,hb5⟩)
     | (go_at_call 206;refine (split_any w5.heap.size v5 _ w5 hE5 (by simp)).mono ?_;intro e w6 hS6;obtain ⟨v6,ps6,rfl,hq6⟩:=hS6))
    go_ret
    exact leaf_end (j:=i0+1) HZ.out HES.out ⟨v6,ps6,rfl,hq6⟩ HK.out hn (hB4.trans (hb5.mono hB4.size))
   ·have hl1:es.length - i0=1:=by omega
    have hl2:cap - i0=1:=by omega
    have HD:Hid (es.drop (i0+1)=[]):=hid (List.drop_eq_nil_of_le (by omega))
    clear hc1
    have hdp1:decide (0<1)=true:=rfl
    clear hdp hp1 hpos
    go_wp2_with (go_at_call 205;refine (isLeaf_any n₀ 0 b l _ (HN.out.below (hB3.mono hn))).mono ?_;rintro e w' ⟨rfl,rfl⟩)
    go_quiet (fail)
    have hB4:Below w.heap.size w (w'.drewN nq):=below_drewN hB3 nq
    have hx0':(w'.drewN nq).cell? ⟨w.heap.size,0,none⟩=some (.int .u32 k):=hx0
    have hx1':(w'.drewN nq).cell? ⟨w.heap.size,1,none⟩=some (.string s):=hx1
    have hx2':(w'.drewN nq).cell? ⟨w.heap.size,2,none⟩=some (.pointer none):=hx2
    clear hB3 hx0 hx1 hx2 hX3 hs3 ck
    generalize w'.drewN nq=w4 at *
    have eB:EntsAt w4.heap.size w4 (.slice (some ⟨g,o+i0*3,none⟩) 0 0) (es.drop (i0+1)):=by rw [HD.out];exact ents_nil g _ 0 (by have:=hB4.size;omega) nlr
    have HC:=put_concat w4 k s (.slice (some ⟨g,o,none⟩) i0 cap) (.slice (some ⟨g,o+i0*3,none⟩) 0 0) (es.take i0) (es.drop (i0+1)) (((ents_take HE.out i0 hil).below (hB4.mono hn)).mono (by have:=hB4.size;omega) nlr) eB (by have:=HLE.out;rw [List.length_take,List.length_drop];omega)
    go_wp2_with (first
     | (go_at_call 207;refine HC.mono ?_;clear HC;rintro e w5 ⟨v5,rfl,hE5,hb5⟩)
     | (go_at_call 206;refine (split_any w5.heap.size v5 _ w5 hE5 (by simp)).mono ?_;intro e w6 hS6;obtain ⟨v6,ps6,rfl,hq6⟩:=hS6))
    go_ret
    exact leaf_end (j:=i0+1) HZ.out HES.out ⟨v6,ps6,rfl,hq6⟩ HK.out hn (hB4.trans (hb5.mono hB4.size))
  ·have HK:=hid (leaf_new HP.out (cut_of_way0 HI.out) (leaf_h0 HZ.out HES.out) (fun _=>hk) s)
   generalize es[i0].key=ky at *
   have hkb:(ky == k)=false:=by simpa using hk
   go_wp2_with (go_at_call 205;refine (isLeaf_any n₀ 0 b l _ (HN.out.below (hB3.mono hn))).mono ?_;rintro e w' ⟨rfl,rfl⟩)
   go_quiet (fail)
   have hB4:Below w.heap.size w (w'.drewN nq):=below_drewN hB3 nq
   have hx0':(w'.drewN nq).cell? ⟨w.heap.size,0,none⟩=some (.int .u32 k):=hx0
   have hx1':(w'.drewN nq).cell? ⟨w.heap.size,1,none⟩=some (.string s):=hx1
   have hx2':(w'.drewN nq).cell? ⟨w.heap.size,2,none⟩=some (.pointer none):=hx2
   clear hB3 hx0 hx1 hx2 hX3 hs3 ck
   generalize w'.drewN nq=w4 at *
   have HC:=put_concat w4 k s (.slice (some ⟨g,o,none⟩) i0 cap) (.slice (some ⟨g,o+i0*3,none⟩) (es.length - i0) (cap - i0)) (es.take i0) (es.drop i0) (((ents_take HE.out i0 hil).below (hB4.mono hn)).mono (by have:=hB4.size;omega) nlr) (((ents_drop HE.out i0 hil).below (hB4.mono hn)).mono (by have:=hB4.size;omega) nlr) (by have:=HLE.out;rw [List.length_take,List.length_drop];omega)
   go_wp2_with (first
    | (go_at_call 207;refine HC.mono ?_;clear HC;rintro e w5 ⟨v5,rfl,hE5,hb5⟩)
    | (go_at_call 206;refine (split_any w5.heap.size v5 _ w5 hE5 (by simp)).mono ?_;intro e w6 hS6;obtain ⟨v6,ps6,rfl,hq6⟩:=hS6))
   go_ret
   exact leaf_end HZ.out HES.out ⟨v6,ps6,rfl,hq6⟩ HK.out hn (hB4.trans (hb5.mono hB4.size))
 ·obtain rfl:i0=es.length:=by omega
  have HD:Hid (es.drop es.length=[]):=hid (List.drop_length)
  have HK:=hid (leaf_new HP.out (cut_of_way0 HI.out) (leaf_h0 HZ.out HES.out) (fun h=>absurd h hlt) s)
  clear hlt
  rcases Nat.lt_or_eq_of_le h1 with hcc | hcc
  ·have hz0:es.length - es.length=0:=Nat.sub_self _
   have hx0:w2.cell? ⟨w.heap.size,0,none⟩=some (.int .u32 k):=by simp only [World.cell?,hX2];rfl
   have hx1:w2.cell? ⟨w.heap.size,1,none⟩=some (.string s):=by simp only [World.cell?,hX2];rfl
   have hx2:w2.cell? ⟨w.heap.size,2,none⟩=some (.pointer none):=by simp only [World.cell?,hX2];rfl
   go_quiet (fail)
   have hB3:Below w.heap.size w (w2.drewN nq):=below_drewN hB2 nq
   have hx0':(w2.drewN nq).cell? ⟨w.heap.size,0,none⟩=some (.int .u32 k):=hx0
   have hx1':(w2.drewN nq).cell? ⟨w.heap.size,1,none⟩=some (.string s):=hx1
   have hx2':(w2.drewN nq).cell? ⟨w.heap.size,2,none⟩=some (.pointer none):=hx2
   clear hB2 hX2 hs2 hc2 hx0 hx1 hx2
   generalize w2.drewN nq=w3 at *
   go_wp2_with (go_at_call 205;refine (isLeaf_any n₀ 0 b l _ (HN.out.below (hB3.mono hn))).mono ?_;rintro e w' ⟨rfl,rfl⟩)
   go_quiet (fail)
   have hB4:Below w.heap.size w (w'.drewN nq):=below_drewN hB3 nq
   have hx0:(w'.drewN nq).cell? ⟨w.heap.size,0,none⟩=some (.int .u32 k):=hx0'
   have hx1:(w'.drewN nq).cell? ⟨w.heap.size,1,none⟩=some (.string s):=hx1'
   have hx2:(w'.drewN nq).cell? ⟨w.heap.size,2,none⟩=some (.pointer none):=hx2'
   clear hB3 hx0' hx1' hx2'
   generalize w'.drewN nq=w4 at *
   have eB:EntsAt w4.heap.size w4 (.slice (some ⟨g,o+es.length*3,none⟩) 0 (cap - es.length)) (es.drop es.length):=by rw [HD.out];exact ents_nil g _ _ (by have:=hB4.size;omega) nlr
   have HC:=put_concat w4 k s (.slice (some ⟨g,o,none⟩) es.length cap) (.slice (some ⟨g,o+es.length*3,none⟩) 0 (cap - es.length)) (es.take es.length) (es.drop es.length) (((ents_take HE.out es.length hil).below (hB4.mono hn)).mono (by have:=hB4.size;omega) nlr) eB (by have:=HLE.out;rw [List.length_take,List.length_drop];omega)
   go_wp2_with (first
    | (go_at_call 207;refine HC.mono ?_;clear HC;rintro e w5 ⟨v5,rfl,hE5,hb5⟩)
    | (go_at_call 206;refine (split_any w5.heap.size v5 _ w5 hE5 (by simp)).mono ?_;intro e w6 hS6;obtain ⟨v6,ps6,rfl,hq6⟩:=hS6))
   go_ret
   exact leaf_end (j:=es.length) HZ.out HES.out ⟨v6,ps6,rfl,hq6⟩ HK.out hn (hB4.trans (hb5.mono hB4.size))
  ·subst hcc
   have hx0:w2.cell? ⟨w.heap.size,0,none⟩=some (.int .u32 k):=by simp only [World.cell?,hX2];rfl
   have hx1:w2.cell? ⟨w.heap.size,1,none⟩=some (.string s):=by simp only [World.cell?,hX2];rfl
   have hx2:w2.cell? ⟨w.heap.size,2,none⟩=some (.pointer none):=by simp only [World.cell?,hX2];rfl
   go_quiet (fail)
   have hB3:Below w.heap.size w (w2.drewN nq):=below_drewN hB2 nq
   have hx0':(w2.drewN nq).cell? ⟨w.heap.size,0,none⟩=some (.int .u32 k):=hx0
   have hx1':(w2.drewN nq).cell? ⟨w.heap.size,1,none⟩=some (.string s):=hx1
   have hx2':(w2.drewN nq).cell? ⟨w.heap.size,2,none⟩=some (.pointer none):=hx2
   clear hB2 hX2 hs2 hc2 hx0 hx1 hx2
   generalize w2.drewN nq=w3 at *
   go_wp2_with (go_at_call 205;refine (isLeaf_any n₀ 0 b l _ (HN.out.below (hB3.mono hn))).mono ?_;rintro e w' ⟨rfl,rfl⟩)
   go_quiet (fail)
   have hB4:Below w.heap.size w (w'.drewN nq):=below_drewN hB3 nq
   have hx0:(w'.drewN nq).cell? ⟨w.heap.size,0,none⟩=some (.int .u32 k):=hx0'
   have hx1:(w'.drewN nq).cell? ⟨w.heap.size,1,none⟩=some (.string s):=hx1'
   have hx2:(w'.drewN nq).cell? ⟨w.heap.size,2,none⟩=some (.pointer none):=hx2'
   clear hB3 hx0' hx1' hx2'
   generalize w'.drewN nq=w4 at *
   have eB:EntsAt w4.heap.size w4 (.slice (some ⟨g,o,none⟩) 0 0) (es.drop es.length):=by rw [HD.out];exact ents_nil g _ _ (by have:=hB4.size;omega) nlr
   have HC:=put_concat w4 k s (.slice (some ⟨g,o,none⟩) es.length es.length) (.slice (some ⟨g,o,none⟩) 0 0) (es.take es.length) (es.drop es.length) (((ents_take HE.out es.length hil).below (hB4.mono hn)).mono (by have:=hB4.size;omega) nlr) eB (by have:=HLE.out;rw [List.length_take,List.length_drop];omega)
   go_wp2_with (first
    | (go_at_call 207;refine HC.mono ?_;clear HC;rintro e w5 ⟨v5,rfl,hE5,hb5⟩)
    | (go_at_call 206;refine (split_any w5.heap.size v5 _ w5 hE5 (by simp)).mono ?_;intro e w6 hS6;obtain ⟨v6,ps6,rfl,hq6⟩:=hS6))
   go_ret
   exact leaf_end (j:=es.length) HZ.out HES.out ⟨v6,ps6,rfl,hq6⟩ HK.out hn (hB4.trans (hb5.mono hB4.size))
end
end Go.Proofs.YtalncjhldkcmaaaGreat
