import Derived.Test.YtalncjhldkcmaaaGreatFb04
namespace Go.Proofs.YtalncjhldkcmaaaGreat
set_option maxHeartbeats 16000000
set_option maxRecDepth 8000
section
open Go.RowKit Go.Shelf
theorem inner_mid {es:List Ent} {ls:List (List KV)} {l:List KV} (hP:Parts es ls l) {h i:Nat} {k:Int} (hw:wayI (h+1) es k i) (hi:i<es.length) (hil:i<ls.length) (s:ByteArray) :
  insK l k s=(ls.take i).flatten++insK ls[i] k s++(ls.drop (i+1)).flatten:=by
 have hl:=hP.len
 rw [hP.flat,flat_split ls (i+1),flat_take ls i hil]
 have key:∀ hi1:i+1<es.length,k<es[i+1].key:=by
  intro hi1
  obtain ⟨_,⟨⟨_,_,hc⟩,ho⟩ | ⟨h1,j,⟨hj0,hj1,hj2⟩,he,hno⟩⟩:=hw
  ·rcases ho with h0 | ⟨_,hk⟩
   ·omega
   ·have:=rise_lt hP.riseE hi hi1 (by omega);omega
  ·have hjl:j<=i+1:=by omega
   have h2:=hj2 (i+1) hi1 hjl
   rcases Nat.lt_or_eq_of_le hjl with hlt | rfl
   ·have h3:=hj2 i hi (by omega)
    have:=rise_lt hP.riseE hi hi1 (by omega);omega
   ·have:es[i+1].key≠k:=fun e=>hno ⟨hi1,e⟩
    omega
 refine insK_mid s ?_ ?_
 ·intro x hx
  obtain ⟨j,hj,hij,hm⟩:=mem_take_flat hx
  obtain ⟨y,hy,hky,_⟩:=hP.headKv hi hil
  have h1:=hP.cross hj hil hij hm hy
  have h2:es[i].key<=k:=by
   obtain ⟨_,⟨⟨_,_,hc⟩,ho⟩ | ⟨h1,j',⟨hj0,hj1,hj2⟩,he,hno⟩⟩:=hw
   ·rcases ho with h0 | ⟨_,hk⟩
    ·omega
    ·omega
   ·have:=hj1 i hi (by omega);omega
  omega
 ·intro x hx
  obtain ⟨j,hj,hij,hm⟩:=mem_drop_flat hx
  have hje:j<es.length:=by omega
  have h1:=hP.least hje hj hm
  have h2:=key (by omega)
  have h3:=rise_le hP.riseE (show i+1<es.length by omega) hje hij
  omega
theorem inner_end {n₀ h i:Nat} {zs zs':List Twig} {es:List Ent} {l m:List KV} {w u w5 w6:World} {e:Ending} (hz:∀ z∈zs,GoodTwig n₀ w (h+1) z) (hes:zs.map Prod.fst=es) (hz':∀ z∈zs',GoodTwig u.heap.size u (h+1) z) (hne:zs'≠[])
  (hS:SplitEnds w5.heap.size (es.take i++zs'.map Prod.fst++es.drop (i+1)) w5 e w6) (hm:(zs'.map Prod.snd).flatten=m)
  (hl:l=((zs.map Prod.snd).take i).flatten++m++((zs.map Prod.snd).drop (i+1)).flatten) (hn:n₀<=w.heap.size) (hb:Below w.heap.size w w5) (hbu:Below u.heap.size u w5):UpEnds (h+1) l w e w6:=by
 refine ends_of (zs:=zs.take i++zs'++zs.drop (i+1)) (n₁:=w5.heap.size) ?_ (by simp [hne]) nlr ?_ ?_ hb
 ·intro z hzz
  have old:z∈zs->GoodTwig w5.heap.size w5 (h+1) z:=fun h=>((hz z h).below (hb.mono hn)).mono (by have:=hb.size;omega) nlr
  simp only [List.mem_append] at hzz
  rcases hzz with (h | h) | h
  ·exact old (List.mem_of_mem_take h)
  ·exact ((hz' z h).below hbu).mono hbu.size nlr
  ·exact old (List.mem_of_mem_drop h)
 ·rw [<- hes] at hS
  simpa [List.map_take,List.map_drop] using hS
 ·rw [hl,<- hm];simp [List.map_take,List.map_drop]
theorem put_any (ht:Nat):∀ (n₀ b:Nat) (l:List KV) (k:Int) (s:ByteArray) (w:World),NodeAt n₀ w ht b l->n₀<=w.heap.size->RiseK l->l.length<10000 ->
  Calls Tryz.prog 187 #[.pointer (some ⟨b,0,none⟩),.agg #[.int .u32 k,.string s,.pointer none]] w (UpEnds ht (insK l k s) w):=by
 induction ht with
 | zero=>exact put_leaf
 | succ h ih =>
  intro n₀ b l k s w hN hn hR hL
  obtain ⟨hb,v,zs,hc,hE,hne,hfl,hP,hz⟩:=hN.twigs hR
  have hnz:(zs.map Prod.fst)≠[]:=by simpa using hne
  generalize hes:zs.map Prod.fst=es at hE hP hnz
  obtain ⟨i0,hi0⟩:=way_exists (h+1) hP.riseE k
  have hil:=way_inner hi0 (by omega) hnz
  have hilz:i0<zs.length:=by have:=congrArg List.length hes;simp at this;omega
  have hils:i0<(zs.map Prod.snd).length:=by simpa using hilz
  obtain ⟨w1,hw1⟩:∃ w1,w.alloc (.cells #[.int .u32 k,.string s,.pointer none] 254)=w1:=⟨_,rfl⟩
  have hb1:Below w.heap.size w w1:=by rw [<- hw1];exact bal
  have hx1:w1.heap[w.heap.size]? = some (.cells #[.int .u32 k,.string s,.pointer none] 254):=by rw [<- hw1];exact World.alloc_heap_new w _
  have hxl:=(Array.getElem?_eq_some_iff.1 hx1).1
  have hbn1:Below n₀ w w1:=hb1.mono hn
  have hwy:=way_at n₀ (h+1) b l v _ k w1 (hN.below hbn1) ((hbn1.cell (p:=⟨b,0,none⟩) hb).trans hc) (hE.below hbn1) hP.riseE i0 hi0
  obtain ⟨c,hcb,hcn⟩:∃ c,es[i0].below=some ⟨c,0,none⟩/\NodeAt n₀ w h c (zs.map Prod.snd)[i0]:=by
   rcases hz zs[i0] (List.getElem_mem hilz) with ⟨h0,_⟩ | ⟨h',c,h0,h1,h2,_⟩
   ·omega
   ·obtain rfl:h=h':=by omega
    refine ⟨c,?_,by simpa using h2⟩
    subst hes;simpa using h1
  have hpr:=hP.part hils
  have hple:((zs.map Prod.snd)[i0]).length<10000:=by
   have:(zs.map Prod.snd)[i0].length<=l.length:=by rw [hfl];exact (List.sublist_flatten_of_mem (List.getElem_mem hils)).length_le
   omega
  have HMid:=hid (inner_mid hP hi0 hil hils s)
  have HLE:Hid (es.length<10000):=hid (by rw [<- hes];have:=twigs_le hz;rw [<- hfl] at this;simp;omega)
  generalize (zs.map Prod.snd)[i0]=m at hcn hpr hple HMid
  have HW1:=hid hw1
  have HB1:=hid hb1
  have HX1:=hid hx1
  have HN:=hid hN
  have HZ:=hid hz
  have HE:=hid hE
  have HES:=hid hes
  have HCN:=hid hcn
  have HPR:=hid hpr
  have HPL:=hid hple
  have HI:=hid ih
  have hE':=hE
  obtain ⟨g,o,cap,rfl,h1,h2,h3,h4,h5⟩:=hE'
  have cb:=(h5 i0 hil).2.2
  rw [hcb] at cb
  clear hw1 hb1 hx1 hN hi0 hP hz hE hfl h5 hes hL hne hcb hcn hpr hple hnz hils ih hilz
  have hcc:i0<cap:=by omega
  have hgw:g<w.heap.size:=by omega
  have hlen1:1<=es.length - i0:=by omega
  have hlen1':(1:Int)<=((es.length - i0:Nat):Int):=by omega
  have hlen0:(0:Int)<((es.length - i0:Nat):Int):=by omega
  go_enter Tryz.func187,Tryz.ntmps187
  go_wp2_with (go_at_call 180;rw [HW1.out];refine hwy.mono ?_;clear hwy;rintro e w2 ⟨rfl,hb2⟩)
  have hB2:Below w.heap.size w w2:=HB1.out.trans (hb2.mono HB1.out.size)
  have hc2:=((hB2.mono hn).cell (p:=⟨b,0,none⟩) hb).trans hc
  have hX2:=(hb2.block _ hxl).trans HX1.out
  have hs2:w.heap.size<w2.heap.size:=by have:=hb2.size;omega
  clear hb2 hbn1 hxl hc HW1 HB1 HX1
  go_quiet (fail)
  have hB3:Below w.heap.size w (w2.drewN nq):=below_drewN hB2 nq
  have hX3:(w2.drewN nq).heap[w.heap.size]? = some (.cells #[.int .u32 k,.string s,.pointer none] 254):=hX2
  have hs3:w.heap.size<(w2.drewN nq).heap.size:=hs2
  clear hB2 hX2 hs2 hc2
  generalize w2.drewN nq=w3 at *
  have hx0:w3.cell? ⟨w.heap.size,0,none⟩=some (.int .u32 k):=by simp only [World.cell?,hX3];rfl
  have hx1:w3.cell? ⟨w.heap.size,1,none⟩=some (.string s):=by simp only [World.cell?,hX3];rfl
  have hx2:w3.cell? ⟨w.heap.size,2,none⟩=some (.pointer none):=by simp only [World.cell?,hX3];rfl
  have cb3:=(hB3.cell (p:=⟨g,o+i0*3+2,none⟩) hgw).trans cb
  have hB4:Below w.heap.size w w3.drew:=hB3.drew
  have HPut:=HI.out n₀ c m k s w3.drew (HCN.out.below (hB4.mono hn)) (by have:=hB4.size;omega) HPR.out HPL.out
  clear HI cb
  have HA:Hid (∀ u,Below w.heap.size w u->EntsAt u.heap.size u (.slice (some ⟨g,o,none⟩) i0 cap) (es.take i0)):=hid fun u hu=>((ents_take HE.out i0 (Nat.le_of_lt hil)).below (hu.mono hn)).mono (by have:=hu.size;omega) nlr
  have HLn:Hid (∀ q:List Twig,q.length<=2->(es.take i0).length+(q.map Prod.fst).length+(es.drop (i0+1)).length<100000):=hid fun q hq=>by have:=HLE.out;rw [List.length_take,List.length_drop,List.length_map];omega
  have HPo:Hid (∀ q:List Twig,q≠[]->0<(q.map Prod.fst).length):=hid fun q hq=>by rw [List.length_map];exact List.length_pos_iff.2 hq
  rcases Nat.lt_or_eq_of_le (show 1<=cap - i0 by omega) with hc1 | hc1
  ·have HBf:Hid (∀ u,Below w.heap.size w u->EntsAt u.heap.size u (.slice (some ⟨g,o+i0*3+3,none⟩) (es.length - i0 - 1) (cap - i0 - 1)) (es.drop (i0+1))):=hid fun u hu=>by
    have:=((ents_drop HE.out (i0+1) hil).below (hu.mono hn)).mono (n₁:=u.heap.size) (by have:=hu.size;omega) nlr
    rw [show o+(i0+1)*3=o+i0*3+3 by omega,show es.length - (i0+1)=es.length - i0 - 1 by omega,show cap - (i0+1)=cap - i0 - 1 by omega] at this
    exact this
   go_wp2_with (go_at_call 205;refine (isLeaf_any n₀ (h+1) b l _ (HN.out.below (hB3.mono hn))).mono ?_;rintro e w' ⟨rfl,rfl⟩)
   go_region_with (first
    | (go_at_call 187;refine HPut.mono ?_;clear HPut;rintro e w4 ⟨v4,zs4,rfl,hE4,hz4,hne4,hl4,hm4,hb4⟩;have hB5:=hB4.trans (hb4.mono hB4.size);have HE4:=hid hE4;obtain ⟨g4,o4,cap4,rfl,_⟩:=hE4;have HC:=hid (concat3 w4 _ _ _ _ _ _ (HA.out w4 hB5) HE4.out (HBf.out w4 hB5) (HLn.out zs4 hl4) (HPo.out zs4 hne4));rw [List.length_map] at HC)
    | (go_at_call 207;refine HC.out.mono ?_;clear HC;rintro e w5 ⟨v5,rfl,hE5,hb5⟩)
    | (go_at_call 206;refine (split_any w5.heap.size v5 _ w5 hE5 (by simp [hne4])).mono ?_;clear hE5;rintro e w6 ⟨v6,ps6,rfl,hq6⟩))
   all_goals go_wp2_with fail
   all_goals go_ret
   all_goals exact inner_end HZ.out HES.out hz4 hne4 ⟨v6,ps6,rfl,hq6⟩ hm4 HMid.out hn (hB5.trans (hb5.mono hB5.size)) hb5
  ·have hl1:es.length - i0=1:=by omega
   have hl2:cap - i0=1:=by omega
   have HD:Hid (es.drop (i0+1)=[]):=hid (List.drop_eq_nil_of_le (by omega))
   have HBf:Hid (∀ u,Below w.heap.size w u->EntsAt u.heap.size u (.slice (some ⟨g,o+i0*3,none⟩) 0 0) (es.drop (i0+1))):=hid fun u hu=>by
    rw [HD.out];exact ents_nil g _ 0 (by have:=hu.size;omega) nlr
   clear hc1 hlen1 hlen1' hlen0
   go_wp2_with (go_at_call 205;refine (isLeaf_any n₀ (h+1) b l _ (HN.out.below (hB3.mono hn))).mono ?_;rintro e w' ⟨rfl,rfl⟩)
   go_region_with (first
    | (go_at_call 187;refine HPut.mono ?_;clear HPut;rintro e w4 ⟨v4,zs4,rfl,hE4,hz4,hne4,hl4,hm4,hb4⟩;have hB5:=hB4.trans (hb4.mono hB4.size);have HE4:=hid hE4;obtain ⟨g4,o4,cap4,rfl,_⟩:=hE4;have HC:=hid (concat3 w4 _ _ _ _ _ _ (HA.out w4 hB5) HE4.out (HBf.out w4 hB5) (HLn.out zs4 hl4) (HPo.out zs4 hne4));rw [List.length_map] at HC)
    | (go_at_call 207;refine HC.out.mono ?_;clear HC;rintro e w5 ⟨v5,rfl,hE5,hb5⟩)
    | (go_at_call 206;refine (split_any w5.heap.size v5 _ w5 hE5 (by simp [hne4])).mono ?_;clear hE5;rintro e w6 ⟨v6,ps6,rfl,hq6⟩))
   all_goals go_wp2_with fail
   all_goals go_ret
   all_goals exact inner_end HZ.out HES.out hz4 hne4 ⟨v6,ps6,rfl,hq6⟩ hm4 HMid.out hn (hB5.trans (hb5.mono hB5.size)) hb5
end
end Go.Proofs.YtalncjhldkcmaaaGreat
