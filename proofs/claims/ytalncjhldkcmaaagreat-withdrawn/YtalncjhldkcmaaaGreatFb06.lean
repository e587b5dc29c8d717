import Derived.Test.YtalncjhldkcmaaaGreatFb05
import Derived.Test.YtalncjhldkcmaaaGreatFb04
import Derived.Test.YtalncjhldkcmaaaGreatFb02
import Derived.Test.YtalncjhldkcmaaaGreatSH0
import Derived.Lib.QuietBelow
namespace Go.Proofs.YtalncjhldkcmaaaGreat
open _root_.Go.Proofs.Tryz
set_option maxHeartbeats 16000000
set_option maxRecDepth 8000
section
open Go.RowKit Go.Shelf
structure TreeAt (n₀:Nat) (W:World) (b:Nat) (t:TypeId) (l:List KV):Prop where
 box:∃ r,TreeBox W b t r l.length/\TreeIs n₀ W r l
 few:l.length<9000
def PutEnds (b:Nat) (t:TypeId) (l:List KV) (w:World) (e:Ending) (w':World):Prop:=e=.returned (.tuple #[])/\TreeAt w'.heap.size w' b t l/\Keeps (fun g=>g=b) w w'
theorem treeBox_below {W W':World} {b:Nat} {t:TypeId} {r:Option Addr} {n:Int} (h:TreeBox W b t r n) (hb:Below W.heap.size W W'):TreeBox W' b t r n:=(hb.block b h.lt).trans h
theorem node_new (w:World) (k:Int) (s:ByteArray):NodeAt ((w.alloc (.cells #[.int .u32 k,.string s,.pointer none] 254)).alloc (.cells #[.slice (some ⟨w.heap.size,0,none⟩) 1 1] 252)).heap.size ((w.alloc (.cells #[.int .u32 k,.string s,.pointer none] 254)).alloc (.cells #[.slice (some ⟨w.heap.size,0,none⟩) 1 1] 252)) 0 (w.heap.size+1) [(k,s)]:=by
 have hb:Below (w.alloc (.cells #[.int .u32 k,.string s,.pointer none] 254)).heap.size (w.alloc (.cells #[.int .u32 k,.string s,.pointer none] 254)) ((w.alloc (.cells #[.int .u32 k,.string s,.pointer none] 254)).alloc (.cells #[.slice (some ⟨w.heap.size,0,none⟩) 1 1] 252)):=bal
 have hB:=Boxed.new (w.alloc (.cells #[.int .u32 k,.string s,.pointer none] 254)) 252 (.slice (some ⟨w.heap.size,0,none⟩) 1 1)
 rw [World.size_alloc] at hB
 exact ⟨by simp,_,[⟨k,s,none⟩],hB.cell,((new_ents w _ [⟨k,s,none⟩] _ rfl (by simp)).below hb).mono (by simp) nlr,by simp,by simp,rfl⟩
theorem treePut_nil (n₀ b:Nat) (t:TypeId) (k:Int) (s:ByteArray) (w:World) (hB:TreeBox w b t none 0) (hT:TreeIs n₀ w none []) :
  Calls prog 135 #[.pointer (some ⟨b,0,none⟩),.int .u32 k,.string s] w (PutEnds b t [(k,s)] w):=by
 have hg:=get_any n₀ none 0 k [] w hT
 have c0:=hB.c0
 have c1:=hB.c1
 have HB:=hid hB
 clear hB
 go_enter func135,ntmps135
 go_upto_region 3 with (go_at_call 186;refine hg.mono ?_;clear hg;rintro e w1 ⟨rfl,hb1⟩;rw [show getK [] k=none from rfl];have d1:=(hb1.cell (p:=⟨b,1,none⟩) HB.out.lt).trans c1;have hB1:TreeBox w1 b t none 0:=treeBox_below HB.out hb1;have f1:=hB1.fz 1)
 have hB2:=hB1.set1 1
 have hk2:Keeps (fun g=>g=b) w (w1.setCell ⟨b,1,none⟩ (.int .i64 1)):=(below_toKeeps hb1 (fun g=>g=b)).setCell (p:=⟨b,1,none⟩) (.inl rfl) _
 clear hB1 hb1 d1 f1 c0 c1
 generalize w1.setCell ⟨b,1,none⟩ (.int .i64 1)=w2 at *
 go_upto_region 4 with fail
 have hb3:Below w2.heap.size w2 (w2.alloc (.cells #[.int .u32 k,.string s,.pointer none] 254)):=bal
 have hx3:(w2.alloc (.cells #[.int .u32 k,.string s,.pointer none] 254)).heap[w2.heap.size]? = some (.cells #[.int .u32 k,.string s,.pointer none] 254):=World.alloc_heap_new w2 _
 generalize w2.alloc (.cells #[.int .u32 k,.string s,.pointer none] 254)=w3 at *
 have hB3:=treeBox_below hB2 hb3
 have d0:=hB3.c0
 have f0:=hB3.fz 0
 have x0:w3.cell? ⟨w2.heap.size,0,none⟩=some (.int .u32 k):=by simp only [World.cell?,hx3];rfl
 have x1:w3.cell? ⟨w2.heap.size,1,none⟩=some (.string s):=by simp only [World.cell?,hx3];rfl
 have x2:w3.cell? ⟨w2.heap.size,2,none⟩=some (.pointer none):=by simp only [World.cell?,hx3];rfl
 clear hx3
 have hl3:=hB3.lt
 have hbN:Below w3.heap.size w3 ((w3.alloc (.cells #[.int .u32 k,.string s,.pointer none] 254)).alloc (.cells #[.slice (some ⟨w3.heap.size,0,none⟩) 1 1] 252)):=(bal).alloc (by simp) _
 have d0':=(hbN.cell (p:=⟨b,0,none⟩) hl3).trans d0
 have f0':=(hbN.frozen (p:=⟨b,0,none⟩) hl3).trans f0
 have HN:=hid (node_new w3 k s)
 have HBN:=hid hbN
 clear hbN
 go_wp2_with fail
 refine bodyPost_ret (v:=.tuple #[]) (by simp [results,results135,go_sem]) rfl ⟨rfl,?_,?_⟩
 ·have hB4:=hB3.set0 (some ⟨w3.heap.size+1,0,none⟩)
  have hN:=node_new (w3.setCell ⟨b,0,none⟩ (.pointer (some ⟨w3.heap.size+1,0,none⟩))) k s
  have hs4:(w3.setCell ⟨b,0,none⟩ (.pointer (some ⟨w3.heap.size+1,0,none⟩))).heap.size=w3.heap.size:=by simp
  generalize w3.setCell ⟨b,0,none⟩ (.pointer (some ⟨w3.heap.size+1,0,none⟩))=w4 at *
  rw [<- hs4] at hB4 ⊢
  exact ⟨⟨_,treeBox_below hB4 ((bal).alloc (by simp) _),by simp [RiseK],Nat.le_refl _,.inr ⟨0,_,rfl,hN⟩⟩,by simp⟩
 ·exact (((hk2.below hb3 hk2.size).setCell (p:=⟨b,0,none⟩) (.inl rfl) _).alloc _).alloc _
end
section
open Go.RowKit Go.Shelf
theorem up_first {ht:Nat} {l:List KV} {u:World} {zs:List Twig} {v:Value} (hE:EntsAt u.heap.size u v (zs.map Prod.fst)) (hz:∀ z∈zs,GoodTwig u.heap.size u (ht+1) z) (hne:zs≠[]) :
  ∃ g o cap c,v=.slice (some ⟨g,o,none⟩) zs.length cap/\zs.length<=cap/\g<u.heap.size/\u.cell? ⟨g,o+2,none⟩=some (.pointer (some ⟨c,0,none⟩))/\(zs.length=1->(zs.map Prod.snd).flatten=l->NodeAt u.heap.size u ht c l):=by
 obtain ⟨g,o,cap,hv,h1,h2,h3,h4,h5⟩:=hE
 have hp:0<(zs.map Prod.fst).length:=by rw [List.length_map];exact List.length_pos_iff.2 hne
 have hc:=(h5 0 hp).2.2
 rw [List.length_map] at hv h1
 have hp':0<zs.length:=List.length_pos_iff.2 hne
 rcases hz zs[0] (List.getElem_mem hp') with ⟨h0,_⟩ | ⟨h',c,h0,hb,hn,_⟩
 ·omega
 ·obtain rfl:ht=h':=by omega
  refine ⟨g,o,cap,c,hv,h1,h2,?_,fun h1 hl => ?_⟩
  ·rw [Nat.zero_mul,Nat.add_zero] at hc
   rw [hc,List.getElem_map,hb]
  ·cases zs with
   | nil=>simp at h1
   | cons z r =>
    have hr:r=[]:=by simpa using h1
    subst hr
    rw [<- hl];simpa using hn
theorem GoodTwig.keptX {n₀ ht:Nat} {A B:World} {X:Nat->Prop} (hs:A.heap.size<=B.heap.size) (hk:∀ g o v,¬ X g->A.cell? ⟨g,o,none⟩=some v->B.cell? ⟨g,o,none⟩=some v) (hx:∀ g,X g->NoNode A g) {z:Twig} (h:GoodTwig n₀ A ht z):GoodTwig n₀ B ht z :=
 h.imp id fun ⟨h',c,a,b,n,d⟩=>⟨h',c,a,b,n.keptX hs hk hx,d⟩
theorem put_close1 {b c ht:Nat} {t:TypeId} {r:Option Addr} {L:List KV} {n:Int} {w u:World} (hB:TreeBox u b t r n) (hn:n=L.length) (hN:NodeAt u.heap.size u ht c L) (hR:RiseK L) (hl:L.length<9000) (hk:Keeps (fun g=>g=b) w u):PutEnds b t L w (.returned (.tuple #[])) (u.setCell ⟨b,0,none⟩ (.pointer (some ⟨c,0,none⟩))):=by
 refine ⟨rfl,⟨⟨_,by rw [<- hn];exact hB.set0 _,?_⟩,hl⟩,hk.setCell (p:=⟨b,0,none⟩) (.inl rfl) _⟩
 have:TreeIs u.heap.size u (some ⟨c,0,none⟩) L:=⟨hR,Nat.le_refl _,.inr ⟨ht,c,rfl,hN⟩⟩
 have:=this.set hB 0 (.pointer (some ⟨c,0,none⟩))
 simpa using this
theorem put_close2 {b ht:Nat} {t:TypeId} {r:Option Addr} {L:List KV} {n:Int} {w u:World} {v:Value} {zs:List Twig} (hB:TreeBox u b t r n) (hn:n=L.length) (hE:EntsAt u.heap.size u v (zs.map Prod.fst)) (hz:∀ z∈zs,GoodTwig u.heap.size u (ht+1) z) (hne:zs≠[]) (hL:(zs.map Prod.snd).flatten=L) (hR:RiseK L) (hl:L.length<9000) (hk:Keeps (fun g=>g=b) w u) :
  PutEnds b t L w (.returned (.tuple #[])) ((u.setCell ⟨b,0,none⟩ (.pointer (some ⟨u.heap.size,0,none⟩))).alloc (.cells #[v] 252)):=by
 have hs:(u.setCell ⟨b,0,none⟩ (.pointer (some ⟨u.heap.size,0,none⟩))).heap.size=u.heap.size:=by simp
 have kk:∀ g o x,¬ g=b->u.cell? ⟨g,o,none⟩=some x->(u.setCell ⟨b,0,none⟩ (.pointer (some ⟨u.heap.size,0,none⟩))).cell? ⟨g,o,none⟩=some x:=fun g o x hg hc=>by
  rw [World.cell?_of_block (w:=u) (Below.heap_setCell u ⟨b,0,none⟩ _ g hg)];exact hc
 have kx:∀ g,g=b->NoNode u g:=fun g hg=>by subst hg;exact hB.noNode
 have hne':zs.map Prod.fst≠[]:=by simpa using hne
 have hE2:=hE.keptX (X:=fun g=>g=b) (by omega) kk kx hne'
 have hz2:∀ z∈zs,GoodTwig u.heap.size (u.setCell ⟨b,0,none⟩ (.pointer (some ⟨u.heap.size,0,none⟩))) (ht+1) z:=fun z h=>(hz z h).keptX (X:=fun g=>g=b) (by omega) kk kx
 have hB2:=hB.set0 (some ⟨u.heap.size,0,none⟩)
 have hk2:Keeps (fun g=>g=b) w (u.setCell ⟨b,0,none⟩ (.pointer (some ⟨u.heap.size,0,none⟩))):=hk.setCell (p:=⟨b,0,none⟩) (.inl rfl) _
 clear kk kx hE hz hB hk
 generalize u.setCell ⟨b,0,none⟩ (.pointer (some ⟨u.heap.size,0,none⟩))=u2 at *
 have hb:Below u2.heap.size u2 (u2.alloc (.cells #[v] 252)):=bal
 have hb':=hb.mono (Nat.le_of_eq hs.symm)
 have hBx:=Boxed.new u2 252 v
 rw [hs] at hBx
 refine ⟨rfl,⟨⟨_,by rw [<- hn];exact treeBox_below hB2 hb,hR,Nat.le_refl _,.inr ⟨ht+1,_,rfl,?_⟩⟩,hl⟩,hk2.alloc _⟩
 rw [<- hL]
 exact node_of (by simp;omega) hBx.cell ((hE2.below hb').mono (by simp;omega) nlr) hne (fun z h=>((hz2 z h).below hb').mono (by simp;omega) nlr)
theorem set_keeps {b i:Nat} {u:World} (v:Value):∀ g o x,¬ g=b->u.cell? ⟨g,o,none⟩=some x->(u.setCell ⟨b,i,none⟩ v).cell? ⟨g,o,none⟩=some x:=fun g o x hg hc=>by
 rw [World.cell?_of_block (w:=u) (Below.heap_setCell u ⟨b,i,none⟩ _ g hg)];exact hc
theorem treePut_new (n₀ b c ht:Nat) (t:TypeId) (l:List KV) (k:Int) (s:ByteArray) (w:World) (hB:TreeBox w b t (some ⟨c,0,none⟩) l.length) (hR:RiseK l) (hn:n₀<=w.heap.size) (hN:NodeAt n₀ w ht c l) (hL:l.length<8000) (hg0:getK l k=none) :
  Calls prog 135 #[.pointer (some ⟨b,0,none⟩),.int .u32 k,.string s] w (PutEnds b t (insK l k s) w):=by
 have hg:=get_any n₀ (some ⟨c,0,none⟩) l.length k l w ⟨hR,hn,.inr ⟨ht,c,rfl,hN⟩⟩
 have c0:=hB.c0
 have c1:=hB.c1
 have HB:=hid hB
 have HN:=hid hN
 have HG:=hid hg0
 have HLN:Hid ((insK l k s).length=l.length+1):=hid (by rw [insK_len hR,hg0];rfl)
 clear hB hN hg0
 go_enter func135,ntmps135
 go_upto_region 3 with (go_at_call 186;refine hg.mono ?_;clear hg;rintro e w1 ⟨rfl,hb1⟩;rw [HG.out];have d1:=(hb1.cell (p:=⟨b,1,none⟩) HB.out.lt).trans c1;have hB1:TreeBox w1 b t (some ⟨c,0,none⟩) l.length:=treeBox_below HB.out hb1;have f1:=hB1.fz 1)
 have hN2:=(HN.out.below (hb1.mono hn)).keptX (X:=fun g=>g=b) (B:=w1.setCell ⟨b,1,none⟩ (.int .i64 (l.length+1))) (by simp) (fun g o u hg hc=>by rw [World.cell?_of_block (w:=w1) (Below.heap_setCell w1 ⟨b,1,none⟩ _ g hg)];exact hc) (fun g hg=>by subst hg;exact hB1.noNode)
 have hB2:=hB1.set1 (l.length+1)
 have hk2:Keeps (fun g=>g=b) w (w1.setCell ⟨b,1,none⟩ (.int .i64 (l.length+1))):=(below_toKeeps hb1 (fun g=>g=b)).setCell (p:=⟨b,1,none⟩) (.inl rfl) _
 clear hB1 hb1 d1 f1 c0 c1
 generalize w1.setCell ⟨b,1,none⟩ (.int .i64 (l.length+1))=w2 at *
 have hn2:n₀<=w2.heap.size:=Nat.le_trans hn hk2.size
 go_upto_region 4 with fail
 have hb3:Below w2.heap.size w2 (w2.alloc (.cells #[.int .u32 k,.string s,.pointer none] 254)):=bal
 have hx3:(w2.alloc (.cells #[.int .u32 k,.string s,.pointer none] 254)).heap[w2.heap.size]? = some (.cells #[.int .u32 k,.string s,.pointer none] 254):=World.alloc_heap_new w2 _
 generalize w2.alloc (.cells #[.int .u32 k,.string s,.pointer none] 254)=w3 at *
 have hB3:=treeBox_below hB2 hb3
 have d0:=hB3.c0
 have x0:w3.cell? ⟨w2.heap.size,0,none⟩=some (.int .u32 k):=by simp only [World.cell?,hx3];rfl
 have x1:w3.cell? ⟨w2.heap.size,1,none⟩=some (.string s):=by simp only [World.cell?,hx3];rfl
 have x2:w3.cell? ⟨w2.heap.size,2,none⟩=some (.pointer none):=by simp only [World.cell?,hx3];rfl
 clear hx3
 have hl3:=hB3.lt
 have hN3:=hN2.below (hb3.mono hn2)
 have hk3:=hk2.below hb3 hk2.size
 have hn3:n₀<=w3.drew.heap.size:=Nat.le_trans hn2 hb3.size
 have HPut:=put_any ht n₀ c l k s w3.drew (hN3.below ((Below.refl _ _).drew)) hn3 hR (by omega)
 have HK3:=hid hk3
 clear hb3 hN2 hN3 hB2 hk2 hk3 HN HB
 go_wp2_with fail
 go_region_with (go_at_call 187;refine HPut.mono ?_;clear HPut;rintro e w4 ⟨v4,zs4,rfl,hE4,hz4,hne4,hl4,hm4,hb4⟩;have HE4:=hid hE4;have HZ4:=hid hz4;obtain ⟨g4,o4,cap4,c4,rfl,hc4,hg4,cc4,hN4⟩:=up_first (l:=insK l k s) hE4 hz4 hne4)
 all_goals
  have hk4:Keeps (fun g=>g=b) w w4:=(HK3.out.drew).below hb4 (by have:=HK3.out.size;exact this)
  have hB4:TreeBox w4 b t (some ⟨c,0,none⟩) (l.length+1):=treeBox_below (W:=w3.drew) hB3 hb4
  have e0:=hB4.c0
  have f0:=hB4.fz 0
  have hl4':0<zs4.length:=List.length_pos_iff.2 hne4
  have hl0:(0:Int)<(zs4.length:Int):=by omega
  have hq:zs4.length=1\/zs4.length=2:=by omega
  clear hB3 d0 x0 x1 x2 hl3 hn3 HK3 hb4 hl4
  have HB4:=hid hB4
  clear hB4
  rcases hq with hq | hq
  ·rw [hq] at hE4 hc4 hl0 ⊢
   clear hl4'
   go_wp2_with fail
   go_end0
   exact put_close1 HB4.out (by rw [HLN.out];push_cast;rfl) (hN4 hq hm4) (insK_rise hR k s) (by rw [HLN.out];omega) hk4
  ·rw [hq] at hE4 hc4 hl0 ⊢
   clear hl4'
   go_upto_region 9 with fail
   have hB5:=HB4.out.set0 (some ⟨c4,0,none⟩)
   have hE5:=hE4.keptX (X:=fun g=>g=b) (B:=w4.setCell ⟨b,0,none⟩ (.pointer (some ⟨c4,0,none⟩))) (by simp) (set_keeps _) (fun g hg=>by subst hg;exact HB4.out.noNode) (by simpa using hne4)
   have hz5:∀ z∈zs4,GoodTwig w4.heap.size (w4.setCell ⟨b,0,none⟩ (.pointer (some ⟨c4,0,none⟩))) (ht+1) z:=fun z h=>(hz4 z h).keptX (X:=fun g=>g=b) (by simp) (set_keeps _) (fun g hg=>by subst hg;exact HB4.out.noNode)
   have hk5:Keeps (fun g=>g=b) w (w4.setCell ⟨b,0,none⟩ (.pointer (some ⟨c4,0,none⟩))):=hk4.setCell (p:=⟨b,0,none⟩) (.inl rfl) _
   have hs5:(w4.setCell ⟨b,0,none⟩ (.pointer (some ⟨c4,0,none⟩))).heap.size=w4.heap.size:=by simp
   clear hE4 hz4 hk4 e0 f0 HB4 cc4 hN4 HE4 HZ4 hg4
   generalize w4.setCell ⟨b,0,none⟩ (.pointer (some ⟨c4,0,none⟩))=w5 at *
   rw [<- hs5] at hE5 hz5
   clear hs5
   have hb6:Below w5.heap.size w5 (w5.alloc (.cells #[.slice (some ⟨g4,o4,none⟩) 2 cap4] 252)):=bal
   have e0:=(hb6.cell (p:=⟨b,0,none⟩) hB5.lt).trans hB5.c0
   have f0:=(hb6.frozen (p:=⟨b,0,none⟩) hB5.lt).trans (hB5.fz 0)
   have hlt5:=hB5.lt
   have HE5:=hid hE5
   have HZ5:=hid hz5
   clear hE5 hz5 hb6
   go_wp2_with fail
   go_end0
   exact put_close2 hB5 (by rw [HLN.out];push_cast;rfl) HE5.out HZ5.out hne4 hm4 (insK_rise hR k s) (by rw [HLN.out];omega) hk5
end
section
open Go.RowKit Go.Shelf
theorem treePut_old (n₀ b c ht:Nat) (t:TypeId) (l:List KV) (k:Int) (s:ByteArray) (w:World) (hB:TreeBox w b t (some ⟨c,0,none⟩) l.length) (hR:RiseK l) (hn:n₀<=w.heap.size) (hN:NodeAt n₀ w ht c l) (hL:l.length<8000) (old:ByteArray) (hg0:getK l k=some old) :
  Calls prog 135 #[.pointer (some ⟨b,0,none⟩),.int .u32 k,.string s] w (PutEnds b t (insK l k s) w):=by
 have hg:=get_any n₀ (some ⟨c,0,none⟩) l.length k l w ⟨hR,hn,.inr ⟨ht,c,rfl,hN⟩⟩
 have c0:=hB.c0
 have c1:=hB.c1
 have HB:=hid hB
 have HN:=hid hN
 have HG:=hid hg0
 have HLN:Hid ((insK l k s).length=l.length):=hid (by rw [insK_len hR,hg0];rfl)
 clear hB hN hg0
 go_enter func135,ntmps135
 go_upto_region 3 with (go_at_call 186;refine hg.mono ?_;clear hg;rintro e w1 ⟨rfl,hb1⟩;rw [HG.out];have d1:=(hb1.cell (p:=⟨b,1,none⟩) HB.out.lt).trans c1;have hB1:TreeBox w1 b t (some ⟨c,0,none⟩) l.length:=treeBox_below HB.out hb1;have f1:=hB1.fz 1)
 have hN2:=HN.out.below (hb1.mono hn)
 have hB2:=hB1
 have hk2:Keeps (fun g=>g=b) w w1:=below_toKeeps hb1 (fun g=>g=b)
 clear hB1 hb1 d1 f1 c0 c1
 obtain ⟨w2,rfl⟩:∃ w2,w2=w1:=⟨_,rfl⟩
 have hn2:n₀<=w2.heap.size:=Nat.le_trans hn hk2.size
 go_upto_region 4 with fail
 have hb3:Below w2.heap.size w2 (w2.alloc (.cells #[.int .u32 k,.string s,.pointer none] 254)):=bal
 have hx3:(w2.alloc (.cells #[.int .u32 k,.string s,.pointer none] 254)).heap[w2.heap.size]? = some (.cells #[.int .u32 k,.string s,.pointer none] 254):=World.alloc_heap_new w2 _
 generalize w2.alloc (.cells #[.int .u32 k,.string s,.pointer none] 254)=w3 at *
 have hB3:=treeBox_below hB2 hb3
 have d0:=hB3.c0
 have x0:w3.cell? ⟨w2.heap.size,0,none⟩=some (.int .u32 k):=by simp only [World.cell?,hx3];rfl
 have x1:w3.cell? ⟨w2.heap.size,1,none⟩=some (.string s):=by simp only [World.cell?,hx3];rfl
 have x2:w3.cell? ⟨w2.heap.size,2,none⟩=some (.pointer none):=by simp only [World.cell?,hx3];rfl
 clear hx3
 have hl3:=hB3.lt
 have hN3:=hN2.below (hb3.mono hn2)
 have hk3:=hk2.below hb3 hk2.size
 have hn3:n₀<=w3.drew.heap.size:=Nat.le_trans hn2 hb3.size
 have HPut:=put_any ht n₀ c l k s w3.drew (hN3.below ((Below.refl _ _).drew)) hn3 hR (by omega)
 have HK3:=hid hk3
 clear hb3 hN2 hN3 hB2 hk2 hk3 HN HB
 go_wp2_with fail
 go_region_with (go_at_call 187;refine HPut.mono ?_;clear HPut;rintro e w4 ⟨v4,zs4,rfl,hE4,hz4,hne4,hl4,hm4,hb4⟩;have HE4:=hid hE4;have HZ4:=hid hz4;obtain ⟨g4,o4,cap4,c4,rfl,hc4,hg4,cc4,hN4⟩:=up_first (l:=insK l k s) hE4 hz4 hne4)
 all_goals
  have hk4:Keeps (fun g=>g=b) w w4:=(HK3.out.drew).below hb4 (by have:=HK3.out.size;exact this)
  have hB4:TreeBox w4 b t (some ⟨c,0,none⟩) l.length:=treeBox_below (W:=w3.drew) hB3 hb4
  have e0:=hB4.c0
  have f0:=hB4.fz 0
  have hl4':0<zs4.length:=List.length_pos_iff.2 hne4
  have hl0:(0:Int)<(zs4.length:Int):=by omega
  have hq:zs4.length=1\/zs4.length=2:=by omega
  clear hB3 d0 x0 x1 x2 hl3 hn3 HK3 hb4 hl4
  have HB4:=hid hB4
  clear hB4
  rcases hq with hq | hq
  ·rw [hq] at hE4 hc4 hl0 ⊢
   clear hl4'
   go_wp2_with fail
   go_end0
   exact put_close1 HB4.out (by rw [HLN.out]) (hN4 hq hm4) (insK_rise hR k s) (by rw [HLN.out];omega) hk4
  ·rw [hq] at hE4 hc4 hl0 ⊢
   clear hl4'
   go_upto_region 9 with fail
   have hB5:=HB4.out.set0 (some ⟨c4,0,none⟩)
   have hE5:=hE4.keptX (X:=fun g=>g=b) (B:=w4.setCell ⟨b,0,none⟩ (.pointer (some ⟨c4,0,none⟩))) (by simp) (set_keeps _) (fun g hg=>by subst hg;exact HB4.out.noNode) (by simpa using hne4)
   have hz5:∀ z∈zs4,GoodTwig w4.heap.size (w4.setCell ⟨b,0,none⟩ (.pointer (some ⟨c4,0,none⟩))) (ht+1) z:=fun z h=>(hz4 z h).keptX (X:=fun g=>g=b) (by simp) (set_keeps _) (fun g hg=>by subst hg;exact HB4.out.noNode)
   have hk5:Keeps (fun g=>g=b) w (w4.setCell ⟨b,0,none⟩ (.pointer (some ⟨c4,0,none⟩))):=hk4.setCell (p:=⟨b,0,none⟩) (.inl rfl) _
   have hs5:(w4.setCell ⟨b,0,none⟩ (.pointer (some ⟨c4,0,none⟩))).heap.size=w4.heap.size:=by simp
   clear hE4 hz4 hk4 e0 f0 HB4 cc4 hN4 HE4 HZ4 hg4
   generalize w4.setCell ⟨b,0,none⟩ (.pointer (some ⟨c4,0,none⟩))=w5 at *
   rw [<- hs5] at hE5 hz5
   clear hs5
   have hb6:Below w5.heap.size w5 (w5.alloc (.cells #[.slice (some ⟨g4,o4,none⟩) 2 cap4] 252)):=bal
   have e0:=(hb6.cell (p:=⟨b,0,none⟩) hB5.lt).trans hB5.c0
   have f0:=(hb6.frozen (p:=⟨b,0,none⟩) hB5.lt).trans (hB5.fz 0)
   have hlt5:=hB5.lt
   have HE5:=hid hE5
   have HZ5:=hid hz5
   clear hE5 hz5 hb6
   go_wp2_with fail
   go_end0
   exact put_close2 hB5 (by rw [HLN.out]) HE5.out HZ5.out hne4 hm4 (insK_rise hR k s) (by rw [HLN.out];omega) hk5
theorem treePut_any (n₀ b:Nat) (t:TypeId) (l:List KV) (k:Int) (s:ByteArray) (w:World) (h:TreeAt n₀ w b t l) (hL:l.length<8000) :
  Calls prog 135 #[.pointer (some ⟨b,0,none⟩),.int .u32 k,.string s] w (PutEnds b t (insK l k s) w):=by
 obtain ⟨⟨r,hB,hT⟩,_⟩:=h
 obtain ⟨hR,hn,(⟨rfl,rfl⟩ | ⟨ht,c,rfl,hN⟩)⟩:=hT
 ·exact treePut_nil n₀ b t k s w hB ⟨hR,hn,.inl ⟨rfl,rfl⟩⟩
 ·cases hg:getK l k with
  | none=>exact treePut_new n₀ b c ht t l k s w hB hR hn hN hL hg
  | some old=>exact treePut_old n₀ b c ht t l k s w hB hR hn hN hL old hg
end
section
open Go.RowKit Go.Shelf
def fl5 (n:Nat):Nat:=match n with
 | 0=>0
 | 1=>4607182418800017408
 | 2=>4611686018427387904
 | 3=>4613937818241073152
 | _=>4616189618054758400
def fl (n:Nat):Nat:=if n<5 then fl5 n else floatOfInt FloatKind.f64 (n:Int)
def pl (x y:Nat):Value:=.complex .f64 (fl x) (fl y)
theorem lt5 {n:Nat} (h:n<5):n=0\/n=1\/n=2\/n=3\/n=4:=by omega
theorem lt16 {n:Nat} (h:n<16):n=0\/n=1\/n=2\/n=3\/n=4\/n=5\/n=6\/n=7\/n=8\/n=9\/n=10\/n=11\/n=12\/n=13\/n=14\/n=15:=by omega
theorem lt256 {n:Nat} (h:n<256):∃ a b,a<16/\b<16/\n=16*a+b:=⟨n / 16,n % 16,by omega,by omega,by omega⟩
theorem fl_of {n:Nat} (_:n<256):floatOfInt FloatKind.f64 (n:Int)=fl n:=by
 by_cases h5:n<5
 ·rcases lt5 h5 with rfl | rfl | rfl | rfl | rfl <;> kernel_rfl
 ·unfold fl;rw [if_neg h5]
theorem fl_back {n:Nat} (h:n<256) (w:World):(convert 268 3 (.float .f64 (fl n))).run prog w=.ok (.int .i64 n) w:=by
 obtain ⟨a,b,ha,hb,rfl⟩:=lt256 h
 rcases lt16 ha with rfl | rfl | rfl | rfl | rfl | rfl | rfl | rfl | rfl | rfl | rfl | rfl | rfl | rfl | rfl | rfl <;> rcases lt16 hb with rfl | rfl | rfl | rfl | rfl | rfl | rfl | rfl | rfl | rfl | rfl | rfl | rfl | rfl | rfl | rfl <;> kernel_rfl
theorem placeAt_any {x y:Nat} (hx:x<256) (hy:y<256) (w:World) :
  Calls prog 147 #[.int .i64 x,.int .i64 y] w fun e w'=>e=.returned (pl x y)/\w'=w:=by
 have h1:=fl_of hx
 have h2:=fl_of hy
 go_enter func147,ntmps147
 go_wp2
 go_ret
 exact ⟨rfl,rfl⟩
theorem x_any {x y:Nat} (hx:x<256) (w:World) :
  Calls prog 171 #[pl x y] w fun e w'=>e=.returned (.int .i64 x)/\w'=w:=by
 have h1:=fl_back hx w
 unfold pl
 generalize fl x=a at *
 generalize fl y=b at *
 go_enter func171,ntmps171
 go_wp2
 go_ret
 exact ⟨rfl,rfl⟩
theorem y_any {x y:Nat} (hy:y<256) (w:World) :
  Calls prog 172 #[pl x y] w fun e w'=>e=.returned (.int .i64 y)/\w'=w:=by
 have h1:=fl_back hy w
 unfold pl
 generalize fl x=a at *
 generalize fl y=b at *
 go_enter func172,ntmps172
 go_wp2
 go_ret
 exact ⟨rfl,rfl⟩
theorem isIn_any {x y:Nat} (hx:x<256) (hy:y<256) (s:Int) (w:World) :
  Calls prog 149 #[pl x y,.int .i64 s] w fun e w'=>e=.returned (.bool (decide ((x:Int)<s)&&decide ((y:Int)<s)))/\w'=w:=by
 have h1:=@x_any x y hx
 have h2:=@y_any x y hy
 generalize pl x y=p at *
 go_enter func149,ntmps149
 by_cases hs:(x:Int)<s
 ·by_cases ht:(y:Int)<s
  ·go_wp2_with (first | (go_at_call 171;refine (h1 _).mono ?_;rintro e w' ⟨rfl,rfl⟩) | (go_at_call 172;refine (h2 _).mono ?_;rintro e w' ⟨rfl,rfl⟩))
   go_ret
   exact ⟨by simp [hs,ht],rfl⟩
  ·go_wp2_with (first | (go_at_call 171;refine (h1 _).mono ?_;rintro e w' ⟨rfl,rfl⟩) | (go_at_call 172;refine (h2 _).mono ?_;rintro e w' ⟨rfl,rfl⟩))
   go_ret
   have hd:decide ((y:Int)<s)=false:=by simpa using ht
   exact ⟨by simp [hs,hd],rfl⟩
 ·go_wp2_with (first | (go_at_call 171;refine (h1 _).mono ?_;rintro e w' ⟨rfl,rfl⟩) | (go_at_call 172;refine (h2 _).mono ?_;rintro e w' ⟨rfl,rfl⟩))
  go_ret
  have hd:decide ((x:Int)<s)=false:=by simpa using hs
  exact ⟨by simp [hd],rfl⟩
def hf (s:Nat):Nat:=match s with
 | 1=>0
 | 2=>4602678819172646912
 | 3=>4607182418800017408
 | 4=>4609434218613702656
 | _=>4611686018427387904
theorem side5 {s:Nat} (h:1<=s) (h':s<6):s=1\/s=2\/s=3\/s=4\/s=5:=by omega
theorem fl_sub {s:Nat} (h:1<=s) (h':s<6):floatOfInt FloatKind.f64 ((s:Int) - 1)=fl (s - 1):=by
 have:=fl_of (n:=s - 1) (by omega)
 rw [<- this];congr 1;omega
theorem hf_of {s:Nat} (h:1<=s) (h':s<6) (w:World):(binOp BinOp.quo 268 (.float .f64 (fl (s - 1))) (.float .f64 4611686018427387904)).run prog w=.ok (.float .f64 (hf s)) w:=by
 rcases side5 h h' with rfl | rfl | rfl | rfl | rfl <;> kernel_rfl
theorem middle_any {s:Nat} (h:1<=s) (h':s<6) (w:World) :
  Calls prog 198 #[.int .i64 s] w fun e w'=>e=.returned (.complex .f64 (hf s) (hf s))/\w'=w:=by
 have h1:=fl_sub h h'
 have h2:=hf_of h h' w
 have h3:(1:Int)<=s:=by omega
 have h4:(s:Int)<6:=by omega
 generalize fl (s - 1)=a at *
 generalize hf s=c at *
 go_enter func198,ntmps198
 go_wp2
 go_ret
 exact ⟨rfl,rfl⟩
theorem turned_of {p d q r m:Value} {s:Nat} (h:1<=s) (h':s<6) (hm:m=.complex .f64 (hf s) (hf s)) (h1:∀ w,(binOp BinOp.sub 214 p m).run prog w=.ok d w) (h2:∀ w,(binOp BinOp.mul 214 d (.complex .f64 0 4607182418800017408)).run prog w=.ok q w) (h3:∀ w,(binOp BinOp.add 214 q m).run prog w=.ok r w) (w:World) :
  Calls prog 167 #[p,.int .i64 s] w fun e w'=>e=.returned r/\w'=w:=by
 have hc:=@middle_any s h h'
 rw [<- hm] at hc
 clear hm h h'
 go_enter func167,ntmps167
 go_wp2_with (go_at_call 198;refine (hc _).mono ?_;rintro e w' ⟨rfl,rfl⟩)
 go_ret
 exact ⟨rfl,rfl⟩
def plH (s x:Nat):Nat:=[13835058055282163712,13832806255468478464,13830554455654793216,13826050856027422720,0,4602678819172646912,4607182418800017408,4609434218613702656,4611686018427387904].getD (2*x+5-s) 0
def plN (a:Nat):Nat:=if a<9223372036854775808 then a+9223372036854775808 else a-9223372036854775808
def plQ (a b:Nat):Value:=.complex .f64 (if b=0 then (if a<9223372036854775808 then 0 else 9223372036854775808) else plN b) a
theorem turned_any {s x y:Nat} (hx:x<s) (hy:y<s) (hs:s<6) (w:World) :
  Calls prog 167 #[pl x y,.int .i64 s] w fun e w'=>e=.returned (pl (s - 1 - y) x)/\w'=w:=by
 refine turned_of (d:=.complex .f64 (plH s x) (plH s y)) (q:=plQ (plH s x) (plH s y)) (by omega) hs rfl ?_ ?_ ?_ w <;> (rcases side5 (show 1<=s by omega) hs with rfl | rfl | rfl | rfl | rfl <;> rcases lt5 (show x<5 by omega) with rfl | rfl | rfl | rfl | rfl <;> rcases lt5 (show y<5 by omega) with rfl | rfl | rfl | rfl | rfl <;> first | (exfalso;omega) | (intro v;kernel_rfl))
theorem flipped_of {p q q2 r m:Value} {dr di ni s:Nat} (h:1<=s) (h':s<6) (hm:m=.complex .f64 (hf s) (hf s)) (h1:∀ w,(binOp BinOp.sub 214 p m).run prog w=.ok (.complex .f64 dr di) w) (h0:∀ w,(Op.unary UnOp.neg (.float .f64 di)).run prog w=.ok (.float .f64 ni) w) (h2:∀ w,(binOp BinOp.mul 214 (.complex .f64 dr ni) (.complex .f64 0 4607182418800017408)).run prog w=.ok q w) (h2b:∀ w,(binOp BinOp.mul 214 q (.complex .f64 0 4607182418800017408)).run prog w=.ok q2 w) (h3:∀ w,(binOp BinOp.add 214 q2 m).run prog w=.ok r w) (w:World) :
  Calls prog 169 #[p,.int .i64 s] w fun e w'=>e=.returned r/\w'=w:=by
 have hc:=@middle_any s h h'
 rw [<- hm] at hc
 clear hm h h'
 go_enter func169,ntmps169
 go_wp2_with (go_at_call 198;refine (hc _).mono ?_;rintro e w' ⟨rfl,rfl⟩)
 go_ret
 exact ⟨rfl,rfl⟩
theorem flipped_any {s x y:Nat} (hx:x<s) (hy:y<s) (hs:s<6) (w:World) :
  Calls prog 169 #[pl x y,.int .i64 s] w fun e w'=>e=.returned (pl (s - 1 - x) y)/\w'=w:=by
 refine flipped_of (dr:=plH s x) (di:=plH s y) (ni:=plN (plH s y)) (q:=.complex .f64 (plH s y) (plH s x)) (q2:=plQ (plH s y) (plH s x)) (by omega) hs rfl ?_ ?_ ?_ ?_ ?_ w <;> (rcases side5 (show 1<=s by omega) hs with rfl | rfl | rfl | rfl | rfl <;> rcases lt5 (show x<5 by omega) with rfl | rfl | rfl | rfl | rfl <;> rcases lt5 (show y<5 by omega) with rfl | rfl | rfl | rfl | rfl <;> first | (exfalso;omega) | (intro v;kernel_rfl))
end
section
open Go.RowKit Go.Shelf
def vol (n:Nat):List UInt8:=[UInt8.ofNat (n / 65536),UInt8.ofNat (n / 256),UInt8.ofNat n]
def volN (l:List UInt8) (j:Nat):Nat:=(l.getD j 0).toNat*65536+(l.getD (j+1) 0).toNat*256+(l.getD (j+2) 0).toNat
theorem volN_vol {n:Nat} (hn:n<16777216):volN (vol n) 0=n:=by
 simp [volN,vol,UInt8.toNat_ofNat'];omega
theorem w64 (x:Int) (h0:0<=x) (h1:x<2 ^ 62):wrap64 x=x:=by unfold wrap64;omega
theorem or3 (a b c:Nat) (ha:a<256) (hb:b<256) (hc:c<256) :
  bits BinOp.or IntKind.i64 (bits BinOp.or IntKind.i64 (wrap64 (wrap64 (a:Int)*65536)) (wrap64 (wrap64 (b:Int)*256))) (wrap64 (c:Int))=((a*65536+b*256+c:Nat):Int):=by
 rw [w64 (a:Int) (by omega) (by omega),w64 (b:Int) (by omega) (by omega),w64 (c:Int) (by omega) (by omega),w64 _ (by omega) (by omega),w64 _ (by omega) (by omega)]
 rw [bits_join .i64 63 (by decide) wraps63 16 ((a:Int)*65536) ((b:Int)*256) (by omega) (by omega) (by omega) (by omega) (by omega) (by omega)]
 rw [bits_join .i64 63 (by decide) wraps63 8 ((a:Int)*65536+(b:Int)*256) (c:Int) (by omega) (by omega) (by omega) (by omega) (by omega) (by omega)]
 omega
theorem conv_new (w:World) (l:List UInt8) (arr:Array Value) (h:arr.toList=byteCells l) :
  (convert 51 9 (.slice (some ⟨w.heap.size,0,none⟩) l.length l.length)).run prog (w.alloc (.cells arr 5))=.ok (.string ⟨l.toArray⟩) (w.alloc (.cells arr 5)):=by
 refine own_conv (l:=l) ?_
 intro j hj
 rw [addr_add]
 have hn:(w.alloc (.cells arr 5)).heap[w.heap.size]? = some (.cells arr 5):=World.alloc_heap_new w _
 simp only [World.cell?,hn]
 have:arr[j]? = (byteCells l)[j]?:=by rw [<- h];simp
 simp [this,byteCells,hj]
theorem volText_any (n:Nat) (hn:n<16777216) (w:World) :
  Calls prog 195 #[.int .i64 n] w fun e w'=>e=.returned (.string ⟨(vol n).toArray⟩)/\Below w.heap.size w w':=by
 have hn':(n:Int)<16777216:=by omega
 have hcv:=conv_new w (vol n) #[.int .u8 ((n:Int) / 65536),.int .u8 ((n:Int) / 256 % 256),.int .u8 ((n:Int) % 256)] (by
  simp only [byteCells,vol,List.map,UInt8.toNat_ofNat']
  have e1:((n / 65536 % 2 ^ 8:Nat):Int)=(n:Int) / 65536:=by omega
  have e2:((n / 256 % 2 ^ 8:Nat):Int)=(n:Int) / 256 % 256:=by omega
  have e3:((n % 2 ^ 8:Nat):Int)=(n:Int) % 256:=by omega
  rw [e1,e2,e3])
 have hb:Below w.heap.size w (w.alloc (.cells #[.int .u8 ((n:Int) / 65536),.int .u8 ((n:Int) / 256 % 256),.int .u8 ((n:Int) % 256)] 5)):=bal
 have HB:=hid hb
 clear hb
 simp only [show (vol n).length=3 from rfl] at hcv
 generalize (vol n).toArray=v at *
 go_enter func195,ntmps195
 go_wp2
 go_ret
 exact ⟨rfl,HB.out⟩
theorem readVol_any (s:ByteArray) (hs:3<=s.size) (w:World) :
  Calls prog 193 #[.string s] w fun e w'=>e=.returned (.int .i64 (volN s.data.toList 0:Nat))/\∃ n,w'=w.drewN n:=by
 have g0:0<s.size:=by omega
 have g1:(1:Int)<(s.size:Int):=by omega
 have g2:(2:Int)<(s.size:Int):=by omega
 go_enter func193,ntmps193
 go_wp2_with fail
 go_quiet (fail)
 go_wp2
 go_ret
 refine ⟨ret_int ?_,_,rfl⟩
 rw [or3 _ _ _ (byte_lt _) (byte_lt _) (byte_lt _)]
 rw [<- getD_bytes s 0 (by omega),<- getD_bytes s 1 (by omega),<- getD_bytes s 2 (by omega)]
 rfl
end
section
open Go.RowKit Go.Shelf
theorem conv_at (w:World) (t:TypeId) (l:List UInt8) (arr:Array Value) (h:arr.toList=byteCells l) :
  (convert 51 9 (.slice (some ⟨w.heap.size,0,none⟩) l.length l.length)).run prog (w.alloc (.cells arr t))=.ok (.string ⟨l.toArray⟩) (w.alloc (.cells arr t)):=by
 refine own_conv (l:=l) ?_
 intro j hj
 rw [addr_add]
 have hn:(w.alloc (.cells arr t)).heap[w.heap.size]? = some (.cells arr t):=World.alloc_heap_new w _
 simp only [World.cell?,hn]
 have:arr[j]? = (byteCells l)[j]?:=by rw [<- h];simp
 simp [this,byteCells,hj]
def nb (n k:Nat):Value:=.int .u8 ((n8 n).getD k 0).toNat
def n8c (n k:Nat):Array Value:=#[if 0<k then nb n 0 else .int .u8 0,if 1<k then nb n 1 else .int .u8 0,if 2<k then nb n 2 else .int .u8 0,if 3<k then nb n 3 else .int .u8 0,if 4<k then nb n 4 else .int .u8 0,if 5<k then nb n 5 else .int .u8 0,if 6<k then nb n 6 else .int .u8 0,if 7<k then nb n 7 else .int .u8 0]
theorem nb_of {n j d:Nat} (h:(n8 n).getD j 0=UInt8.ofNat (n / d)) {x:Int} (hx:x=((n / d % 256:Nat):Int)):Value.int .u8 x=nb n j:=by
 unfold nb;rw [h,hx,UInt8.toNat_ofNat']
theorem n8c_set {n k:Nat} {v:Value} (hk:k<8) (hv:v=nb n k):(n8c n k).setIfInBounds k v=n8c n (k+1):=by
 subst hv
 have:k=0\/k=1\/k=2\/k=3\/k=4\/k=5\/k=6\/k=7:=by omega
 rcases this with rfl | rfl | rfl | rfl | rfl | rfl | rfl | rfl <;> rfl
theorem numberText_any (n:Nat) (hn:n<18446744073709551616) (w:World) :
  Calls prog 127 #[.int .u64 n] w fun e w'=>e=.returned (.string ⟨(n8 n).toArray⟩)/\Below w.heap.size w w':=by
 have HC:=hid (conv_at w 249 (n8 n) (n8c n 8) (by rfl))
 go_enter func127,ntmps127
 go_wp2_with fail
 go_loopg [4,5] 8 (fun gk v i wr=>∃ k:Nat,i=.int .i64 k/\k<=8/\gk=8 - k/\wr=w.alloc (.cells (n8c n k) 249))
 case atStart=>exact ⟨0,rfl,Nat.zero_le _,rfl,rfl⟩
 case round =>
  obtain ⟨k,rfl,hk,rfl,rfl⟩:=hrel
  have hkk:k=0\/k=1\/k=2\/k=3\/k=4\/k=5\/k=6\/k=7\/k=8:=by omega
  rcases hkk with rfl | rfl | rfl | rfl | rfl | rfl | rfl | rfl | rfl
  ·go_wp2
   go_roundg (8 - 1)
   case measure=>omega
   case rel =>
    refine ⟨1,rfl,by omega,rfl,congrArg (fun c=>w.alloc (.cells c 249)) (n8c_set (by omega) (nb_of (d:=72057594037927936) (by simp [n8]) (by omega)))⟩
  ·go_wp2
   go_roundg (8 - 2)
   case measure=>omega
   case rel =>
    refine ⟨2,rfl,by omega,rfl,congrArg (fun c=>w.alloc (.cells c 249)) (n8c_set (by omega) (nb_of (d:=281474976710656) (by simp [n8]) (by omega)))⟩
  ·go_wp2
   go_roundg (8 - 3)
   case measure=>omega
   case rel =>
    refine ⟨3,rfl,by omega,rfl,congrArg (fun c=>w.alloc (.cells c 249)) (n8c_set (by omega) (nb_of (d:=1099511627776) (by simp [n8]) (by omega)))⟩
  ·go_wp2
   go_roundg (8 - 4)
   case measure=>omega
   case rel =>
    refine ⟨4,rfl,by omega,rfl,congrArg (fun c=>w.alloc (.cells c 249)) (n8c_set (by omega) (nb_of (d:=4294967296) (by simp [n8]) (by omega)))⟩
  ·go_wp2
   go_roundg (8 - 5)
   case measure=>omega
   case rel =>
    refine ⟨5,rfl,by omega,rfl,congrArg (fun c=>w.alloc (.cells c 249)) (n8c_set (by omega) (nb_of (d:=16777216) (by simp [n8]) (by omega)))⟩
  ·go_wp2
   go_roundg (8 - 6)
   case measure=>omega
   case rel =>
    refine ⟨6,rfl,by omega,rfl,congrArg (fun c=>w.alloc (.cells c 249)) (n8c_set (by omega) (nb_of (d:=65536) (by simp [n8]) (by omega)))⟩
  ·go_wp2
   go_roundg (8 - 7)
   case measure=>omega
   case rel =>
    refine ⟨7,rfl,by omega,rfl,congrArg (fun c=>w.alloc (.cells c 249)) (n8c_set (by omega) (nb_of (d:=256) (by simp [n8]) (by omega)))⟩
  ·go_wp2
   go_roundg (8 - 8)
   case measure=>omega
   case rel =>
    refine ⟨8,rfl,by omega,rfl,congrArg (fun c=>w.alloc (.cells c 249)) (n8c_set (by omega) (nb_of (d:=1) (by simp [n8]) (by omega)))⟩
  ·have hc:=HC.out
   simp only [n8_len] at hc
   have hb:Below w.heap.size w (w.alloc (.cells (n8c n 8) 249)):=bal
   have HB:=hid hb
   clear hb HC
   obtain ⟨v,hv⟩:∃ v,v=(n8 n).toArray:=⟨_,rfl⟩
   rw [<- hv] at hc
   have HV:=hid hv
   clear hv
   generalize n8c n 8=c8 at *
   go_wp2
   go_ret
   rw [<- HV.out]
   exact ⟨rfl,HB.out⟩
end
section
open Go.RowKit Go.Shelf
open Go.Sort (grow)
theorem rep0 (n:Nat) (hn:n<=1000) (w:World) :
  Calls prog 75 #[.string ⟨#[0]⟩,.int .i64 n] w fun e w'=>e=.returned (.string ⟨(List.replicate n 0).toArray⟩)/\Below w.heap.size w w':=by
 have h:=Tryz.strings_Repeat ⟨#[0]⟩ n w (by omega) (by show 1*n<=_;omega)
 have e:Lib.repeatL [0] n=List.replicate n (0:UInt8):=by have:=Lib.repeatL_replicate 0 1 n;simpa using this
 rw [show (⟨#[0]⟩:ByteArray).data.toList=[0] from rfl,e] at h
 exact h
theorem headB_arr (t n s:Nat):(headB t n s).toArray=((n8 t).toArray++(n8 n).toArray++(n8 s).toArray)++(List.replicate 96 0).toArray++(n8 t).toArray:=by simp [headB]
theorem headText_any (t n s:Nat) (ht:t<18446744073709551616) (hn:n<18446744073709551616) (hs:s<18446744073709551616) (w:World) :
  Calls prog 77 #[.agg #[.int .u64 t,.int .u64 n,.int .u64 s]] w fun e w'=>e=.returned (.string ⟨(headB t n s).toArray⟩)/\Below w.heap.size w w':=by
 have hmx:prog.follows .mixedOrders=true:=by kernel_rfl
 go_enter func77,ntmps77
 go_wp2_with fail
 have hb1:Below w.heap.size w (w.alloc (.cells #[.int .u64 t,.int .u64 n,.int .u64 s] 157)):=bal
 have hN:=World.alloc_heap_new w (.cells #[.int .u64 t,.int .u64 n,.int .u64 s] 157)
 have c0:(w.alloc (.cells #[.int .u64 t,.int .u64 n,.int .u64 s] 157)).cell? ⟨w.heap.size,0,none⟩=some (.int .u64 t):=by simp only [World.cell?,hN];rfl
 have c1:(w.alloc (.cells #[.int .u64 t,.int .u64 n,.int .u64 s] 157)).cell? ⟨w.heap.size,1,none⟩=some (.int .u64 n):=by simp only [World.cell?,hN];rfl
 have c2:(w.alloc (.cells #[.int .u64 t,.int .u64 n,.int .u64 s] 157)).cell? ⟨w.heap.size,2,none⟩=some (.int .u64 s):=by simp only [World.cell?,hN];rfl
 have q0:=cell_regrown c0
 have q1:=cell_regrown c1
 have q2:=cell_regrown c2
 have HB:=hid hb1
 have l8:∀ k,(ByteArray.mk (n8 k).toArray).size=8:=fun k=>rfl
 clear hN hb1
 generalize w.alloc (.cells #[.int .u64 t,.int .u64 n,.int .u64 s] 157)=w1 at *
 have kN:=fun (m:Nat) (hm:m<18446744073709551616) d os=>Calls.regrown_of (numberText_any m hm (grow (redrawn w1 d) os))
 refine wp_region_quiet_below hmx (by kernel_rfl) ?_
 repeat (quiet_step (exact kN _ (by assumption) _ _))
 refine wpQuiet_nil ?_
 intro _ hw'
 obtain ⟨⟨dq,osq⟩,hw''⟩:=hw'
 subst hw''
 have hb2:=below_regrown w1 dq osq
 have d0:=q0 dq osq
 clear q0 q1 q2 kN c0 c1 c2
 simp only
 generalize grow (redrawn w1 dq) osq=w2 at *
 have HA:=hid (headB_arr t n s)
 have sA:(ByteArray.mk (n8 t).toArray++ByteArray.mk (n8 n).toArray++ByteArray.mk (n8 s).toArray).size=24:=rfl
 have eA:(ByteArray.mk (n8 t).toArray++ByteArray.mk (n8 n).toArray++ByteArray.mk (n8 s).toArray)=ByteArray.mk ((n8 t).toArray++(n8 n).toArray++(n8 s).toArray):=by
  apply ByteArray.ext;simp
 rw [eA] at sA
 simp only [eA]
 have HNt:=hid (numberText_any t ht w2)
 have HR:Hid (∀ u,Calls prog 75 #[.string ⟨#[0]⟩,.int .i64 96] u fun e w'=>e=.returned (.string ⟨(List.replicate 96 0).toArray⟩)/\Below u.heap.size u w'):=hid (fun u=>rep0 96 (by omega) u)
 have sT:(ByteArray.mk (n8 t).toArray).size=8:=rfl
 clear l8 eA
 have hAe:ByteArray.mk ((n8 t).toArray++(n8 n).toArray++(n8 s).toArray)++ByteArray.mk (List.replicate 96 0).toArray++ByteArray.mk (n8 t).toArray=ByteArray.mk (headB t n s).toArray:=by
  rw [HA.out];apply ByteArray.ext;simp
 have sZ:(ByteArray.mk (List.replicate 96 0).toArray).size=96:=by show (List.replicate 96 (0:UInt8)).toArray.size=96;rw [List.size_toArray,List.length_replicate]
 have sA2:(ByteArray.mk ((n8 t).toArray++(n8 n).toArray++(n8 s).toArray)++ByteArray.mk (List.replicate 96 0).toArray).size=120:=by rw [ByteArray.size_append,sA,sZ]
 obtain ⟨A,hA⟩:∃ A,A=ByteArray.mk ((n8 t).toArray++(n8 n).toArray++(n8 s).toArray):=⟨_,rfl⟩
 rw [<- hA] at sA sA2 hAe
 simp only [<- hA]
 obtain ⟨Z,hZ⟩:∃ Z,Z=ByteArray.mk (List.replicate 96 0).toArray:=⟨_,rfl⟩
 rw [<- hZ] at sZ sA2 hAe HR
 obtain ⟨T,hT⟩:∃ T,T=ByteArray.mk (n8 t).toArray:=⟨_,rfl⟩
 rw [<- hT] at sT hAe HNt
 clear hA hZ hT
 have HE:=hid hAe
 have HB2:=hid hb2
 clear HA hAe hb2
 go_wp2_with (first
  | (go_at_call 127;refine HNt.out.mono ?_;clear HNt;rintro e w3 ⟨rfl,hb3⟩;have HB3:=hid hb3;clear hb3)
  | (go_at_call 75;refine (HR.out _).mono ?_;clear HR;rintro e w4 ⟨rfl,hb4⟩;have HB4:=hid hb4;clear hb4))
 go_ret
 rw [<- HE.out]
 have b1:=HB.out
 have b2:=b1.trans (HB2.out.mono b1.size)
 have b3:=b2.trans (HB3.out.mono b2.size)
 exact ⟨rfl,b3.trans (HB4.out.mono b3.size)⟩
end
section
open Go.RowKit Go.Shelf
open Go.Sort (grow)
theorem first_any (n t u:Nat) (hn:n<=100000) (hu:u<18446744073709551616) (w:World) :
  Calls prog 73 #[.agg #[.int .i64 n,.int .u64 t],.int .u64 u] w fun e w'=>e=.returned (.int .i64 (u % 2*(n / 2):Nat))/\Below w.heap.size w w':=by
 have hb:Below w.heap.size w (w.alloc (.cells #[.int .i64 n,.int .u64 t] 106)):=bal
 have HB:=hid hb
 have hnI:(n:Int)<=100000:=by omega
 have e1:(u:Int) % 2=((u % 2:Nat):Int):=by omega
 have e2:(n:Int) / 2=((n / 2:Nat):Int):=by omega
 have hm:u % 2=0\/u % 2=1:=by omega
 have hd:n / 2<=50000:=by omega
 have hd2:((n / 2:Nat):Int)<=50000:=by omega
 clear hb
 generalize u % 2=r at *
 generalize n / 2=h at *
 go_enter func73,ntmps73
 rcases hm with rfl | rfl
 all_goals
  go_wp2
  go_ret
  exact ⟨by simp,HB.out⟩
theorem room_any (n t:Nat) (h1:2<=n) (hn:n<=100000) (w:World) :
  Calls prog 84 #[.agg #[.int .i64 n,.int .u64 t]] w fun e w'=>e=.returned (.int .u64 ((n / 2 - 1)*128:Nat))/\Below w.heap.size w w':=by
 have hb:Below w.heap.size w (w.alloc (.cells #[.int .i64 n,.int .u64 t] 106)):=bal
 have HB:=hid hb
 obtain ⟨h,hh⟩:∃ h,n / 2=h+1:=⟨n / 2 - 1,by omega⟩
 have e2:(n:Int) / 2=((h:Nat):Int)+1:=by omega
 have e3:n / 2 - 1=h:=by omega
 rw [e3]
 have hb2:h<=50000:=by omega
 have e4:IntKind.u64.wrap (h:Int)=(h:Int):=by rw [wrapU];omega
 have e5:IntKind.u64.wrap ((h:Int)*128)=(h:Int)*128:=by rw [show (h:Int)*128=((h*128:Nat):Int) by omega,wrapU];omega
 have hb3:(h:Int)<=50000:=by omega
 clear hb hh e3
 go_enter func84,ntmps84
 go_wp2
 go_ret
 exact ⟨by simp,HB.out⟩
theorem mark_any (n t h:Nat) (hh:h<2) (h1:16<=n) (hn:n<=256) (s:ByteArray) (hs:s.size=n*128) (w:World) :
  Calls prog 131 #[.agg #[.int .i64 n,.int .u64 t],.string s,.int .u64 h] w fun e w'=>e=.returned (.int .u8 (s.data.toList.getD (markO n h) 0).toNat)/\Below w.heap.size w w':=by
 have hb:Below w.heap.size w (w.alloc (.cells #[.int .i64 n,.int .u64 t] 106)):=bal
 have HF:=hid (first_any n t h (by omega) (by omega) (w.alloc (.cells #[.int .i64 n,.int .u64 t] 106)))
 have HB:=hid hb
 have e0:h % 2=h:=by omega
 rw [e0] at HF
 have hx:h*(n / 2)<=128:=by
  have:h=0\/h=1:=by omega
  rcases this with rfl | rfl <;> omega
 have hlt:markO n h<s.size:=by
  unfold markO;rw [hs]
  have:h=0\/h=1:=by omega
  rcases this with rfl | rfl <;> omega
 have hm:((h*(n / 2):Nat):Int)*128+128 - 1=((markO n h:Nat):Int):=by unfold markO;omega
 have hm1:(((h*(n / 2):Nat):Int)+1)*128 - 1=((markO n h:Nat):Int):=by unfold markO;omega
 have hgd:s.data.toList.getD (markO n h) 0=s[markO n h]'hlt:=by
  rw [List.getD_eq_getElem?_getD,List.getElem?_eq_getElem (by simpa using hlt)];rfl
 rw [hgd]
 have hxI:((h*(n / 2):Nat):Int)<=128:=by omega
 have hltI:((markO n h:Nat):Int)<(s.size:Int):=by omega
 generalize h*(n / 2)=q at *
 generalize markO n h=mk at *
 clear hs hb hgd
 go_enter func131,ntmps131
 go_wp2_with (go_at_call 73;refine HF.out.mono ?_;clear HF;rintro e w1 ⟨rfl,hb1⟩;have HB1:=hid hb1;clear hb1)
 go_ret
 exact ⟨rfl,HB.out.trans (HB1.out.mono HB.out.size)⟩
theorem newest_any (n t:Nat) (h1:16<=n) (hn:n<=256) (s:ByteArray) (hs:s.size=n*128) (w:World) :
  Calls prog 82 #[.agg #[.int .i64 n,.int .u64 t],.string s] w fun e w'=>e=.returned (.int .u64 (newH s.data.toList n))/\Below w.heap.size w w':=by
 have hmx:prog.follows .mixedOrders=true:=by kernel_rfl
 go_enter func82,ntmps82
 go_wp2_with fail
 have hb1:Below w.heap.size w (w.alloc (.cells #[.int .i64 n,.int .u64 t] 106)):=bal
 have hN:=World.alloc_heap_new w (.cells #[.int .i64 n,.int .u64 t] 106)
 have c0:(w.alloc (.cells #[.int .i64 n,.int .u64 t] 106)).cell? ⟨w.heap.size,0,none⟩=some (.int .i64 n):=by simp only [World.cell?,hN];rfl
 have c1:(w.alloc (.cells #[.int .i64 n,.int .u64 t] 106)).cell? ⟨w.heap.size,1,none⟩=some (.int .u64 t):=by simp only [World.cell?,hN];rfl
 have q0:=cell_regrown c0
 have q1:=cell_regrown c1
 have HB:=hid hb1
 clear hN hb1
 generalize w.alloc (.cells #[.int .i64 n,.int .u64 t] 106)=w1 at *
 obtain ⟨A,hA⟩:∃ A,A=s.data.toList.getD (markO n 1) 0:=⟨_,rfl⟩
 obtain ⟨B,hB⟩:∃ B,B=s.data.toList.getD (markO n 0) 0:=⟨_,rfl⟩
 have kA:∀ d os,Calls prog 131 #[.agg #[.int .i64 n,.int .u64 t],.string s,.int .u64 1] (grow (redrawn w1 d) os) fun e w''=>e=.returned (.int .u8 A.toNat)/\∃ p:Regrown,w''=grow (redrawn w1 p.d) p.os:=fun d os=>by
  rw [hA];exact Calls.regrown_of (mark_any n t 1 (by omega) h1 hn s hs (grow (redrawn w1 d) os))
 have kB:∀ d os,Calls prog 131 #[.agg #[.int .i64 n,.int .u64 t],.string s,.int .u64 0] (grow (redrawn w1 d) os) fun e w''=>e=.returned (.int .u8 B.toNat)/\∃ p:Regrown,w''=grow (redrawn w1 p.d) p.os:=fun d os=>by
  rw [hB];exact Calls.regrown_of (mark_any n t 0 (by omega) h1 hn s hs (grow (redrawn w1 d) os))
 have HE:=hid (show newH s.data.toList n=if A=B+1 then 1 else 0 by rw [hA,hB];rfl)
 clear hA hB
 refine wp_region_quiet_below hmx (by kernel_rfl) ?_
 repeat (quiet_step (first | with_reducible exact kA _ _ | with_reducible exact kB _ _))
 refine wpQuiet_nil ?_
 intro _ hw'
 obtain ⟨⟨dq,osq⟩,hw''⟩:=hw'
 subst hw''
 have hb2:=below_regrown w1 dq osq
 clear q0 q1 kA kB c0 c1
 simp only
 generalize grow (redrawn w1 dq) osq=w2 at *
 have HB2:=hid hb2
 clear hb2
 by_cases hab:A=B+1
 ·have hd:((A.toNat:Int) == IntKind.u8.wrap ((B.toNat:Int)+1))=true:=by
   have hw:IntKind.u8.wrap ((B.toNat:Int)+1)=((B.toNat:Int)+1) % 256:=by simp only [IntKind.wrap,IntKind.bits,IntKind.signed];simp
   rw [hab,hw];simp [UInt8.toNat_add]
  go_wp2
  go_ret
  rw [HE.out,if_pos hab]
  exact ⟨rfl,HB.out.trans (HB2.out.mono HB.out.size)⟩
 ·have hd:((A.toNat:Int) == IntKind.u8.wrap ((B.toNat:Int)+1))=false:=by
   have hw:IntKind.u8.wrap ((B.toNat:Int)+1)=((B.toNat:Int)+1) % 256:=by simp only [IntKind.wrap,IntKind.bits,IntKind.signed];simp
   rw [hw]
   have hBl:=B.toNat_lt
   rw [beq_eq_false_iff_ne]
   intro he
   apply hab
   apply UInt8.toNat.inj
   simp only [UInt8.toNat_add]
   have e1:(1:UInt8).toNat=1:=rfl
   rw [e1];omega
  go_wp2
  go_ret
  rw [HE.out,if_neg hab]
  exact ⟨rfl,HB.out.trans (HB2.out.mono HB.out.size)⟩
end
end Go.Proofs.YtalncjhldkcmaaaGreat
