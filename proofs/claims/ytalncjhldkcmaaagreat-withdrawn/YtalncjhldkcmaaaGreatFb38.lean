import Derived.Test.YtalncjhldkcmaaaGreatSH0
import Derived.Test.YtalncjhldkcmaaaGreatFb02
import Derived.Test.YtalncjhldkcmaaaGreatFb06
import Derived.Lib.FrozenHead2
import Derived.Test.YtalncjhldkcmaaaGreatFb34
import Derived.Test.YtalncjhldkcmaaaGreatFb37
import Derived.Test.YtalncjhldkcmaaaGreatFb32
namespace Go.Proofs.YtalncjhldkcmaaaGreat
open _root_.Go.Proofs.Tryz
set_option maxHeartbeats 16000000
set_option maxRecDepth 8000
section
open Go.RowKit Go.Shelf
theorem bString (B b:Nat) (l:List UInt8) (w:World) (h:Lib.IsBuilderF 160 5 B b (Lib.byteCells l) w) (hBw:B<=w.heap.size) :
  Calls prog 81 #[.pointer (some ⟨b,0,none⟩)] w fun e w'=>e=.returned (.string ⟨l.toArray⟩)/\(Lib.IsBuilderF 160 5 B b (Lib.byteCells l) w'/\Below B w w'/\Lib.OthersKept 5 (some b) w w') :=
 Any.Builder_String_any_k { Tryz.lays105 with } Tryz.Builder_Extra_105 B b l w h hBw
theorem bCopyOwn (b:Nat) (v:Value) (w:World) (p:Value) (hp:p=.pointer none\/p=.pointer (some ⟨b,0,none⟩)) (h:RecAt w b #[p,v] 160) :
  Calls prog 130 #[.pointer (some ⟨b,0,none⟩)] w fun e w'=>e=.returned (.tuple #[])/\RecAt w' b #[.pointer (some ⟨b,0,none⟩),v] 160/\Keeps (fun k=>k=b) w w':=by
 have c0:w.cell? ⟨b,0,none⟩=some p:=h.cell 0
 rcases hp with rfl | rfl
 ·have hsh:w.shape? b=some (160,2):=by simp [World.shape?,show w.heap[b]? = _ from h]
  refine (show Calls prog 130 #[.pointer (some ⟨b,0,none⟩)] w fun e w'=>e=.returned (.tuple #[])/\w'=w.setCell ⟨b,0,none⟩ (.pointer (some ⟨b,0,none⟩)) from Any.Builder_copyCheck_fresh { Tryz.lays105 with } { Tryz.Builder_Extra_105 with } b w c0 hsh (h.fz 0)).mono ?_
  rintro e w' ⟨rfl,rfl⟩
  exact ⟨rfl,h.set 0 _,(Keeps.refl (fun k=>k=b) w).setCell (p:=⟨b,0,none⟩) (.inl rfl) _⟩
 ·refine (show Calls prog 130 #[.pointer (some ⟨b,0,none⟩)] w fun e w'=>e=.returned (.tuple #[])/\w'=w from Any.Builder_copyCheck_used { Tryz.lays105 with } { Tryz.Builder_Extra_105 with } b w c0).mono ?_
  rintro e w' ⟨rfl,rfl⟩
  exact ⟨rfl,h,Keeps.refl _ _⟩
theorem rowF_keep {w w':World} {B n:Nat} {e:TypeId} {v:Value} {xs:List Value} (h:w.ownsRowF B e 1 v n xs) (hb:∀ k,B<=k->k<w.heap.size->w'.heap[k]? = w.heap[k]?):w'.ownsRowF B e 1 v n xs:=by
 refine ⟨h.1,h.2.imp id ?_⟩
 rintro ⟨gr,cp,cur,fz,hv,h1,h2,h3⟩
 refine ⟨gr,cp,cur,fz,hv,h1,?_,h3⟩
 rw [hb gr h1 (Array.getElem?_eq_some_iff.1 h2).1];exact h2
def BAt (w:World) (B b:Nat) (l:List UInt8):Prop :=
 ∃ p v,(p=.pointer none\/p=.pointer (some ⟨b,0,none⟩))/\RecAt w b #[p,v] 160/\w.ownsRowF B 5 1 v l.length (Lib.byteCells l)/\v.ownBlock≠some b
theorem bWrite (B b g:Nat) (l m:List UInt8) (cap:Nat) (w:World) (h:BAt w B b l) (hBw:B<=w.heap.size) (hBb:b<B) (hlen:l.length+m.length<=1000000) (hm:0<m.length)
  (hg:∀ j u,(Lib.byteCells m)[j]? = some u->w.cell? ⟨g,j,none⟩=some u) (hgl:g<w.heap.size) (hgb:g≠b) :
  Calls prog 79 #[.pointer (some ⟨b,0,none⟩),.slice (some ⟨g,0,none⟩) m.length cap] w fun e w'=>e=.returned (.tuple #[.int .i64 m.length,.nilIface])/\BAt w' B b (l++m)/\Keeps (fun k=>k=b\/B<=k) w w':=by
 obtain ⟨p,v,hp,hR,hown,hne⟩:=h
 have HC:=hid (bCopyOwn b v w p hp hR)
 obtain ⟨i0,hi,hz0,hz1,hz2⟩:=info_parts Tryz.infoByte
 go_enter func79,ntmps79
 go_wp2_with fail
 refine HC.out.mono ?_
 clear HC
 rintro e w1 ⟨rfl,hR1,hk1⟩
 have c1:w1.cell? ⟨b,1,none⟩=some v:=hR1.cell 1
 have hown1:w1.ownsRowF B 5 1 v l.length (Lib.byteCells l):=rowF_keep hown (fun k h1 h2=>hk1.block k h2 (by omega))
 have hg1:∀ j u,(Lib.byteCells m)[j]? = some u->w1.cell? ((⟨g,0,none⟩:Addr).add j)=some u:=fun j u hu=>by
  rw [addr_add,hk1.cell (p:=⟨g,j,none⟩) hgl hgb];exact hg j u hu
 have hs1:=hk1.size
 have hml:(Lib.byteCells m).length=m.length*1:=by simp [Lib.byteCells]
 have HR:=hid hR
 clear hR
 go_wp2_with (at_builtin;refine wpList_append_ownF _ rfl _ _ 51 rfl B 5 i0 (.int .u8 0) 1 1 underlying51 hi hz0 hz1 hz2 rfl (by decide) _ _ _ rfl hown1 ⟨g,0,none⟩ m.length cap (Lib.byteCells m) rfl hml hg1 ?c2 ?c3 ?c4 ?c5 ?_)
 case c2=>intro u hu;simp only [Lib.byteCells,List.mem_map] at hu;obtain ⟨x,_,rfl⟩:=hu;rfl
 case c3=>unfold maxLen;omega
 case c4=>omega
 case c5=>omega
 intro v' w2 hown' hgrow _
 have hlt:=hR1.lt
 have hR2:RecAt w2 b #[.pointer (some ⟨b,0,none⟩),v] 160:=(hgrow.block b hlt (fun e=>hne e.symm)).trans hR1
 have d1:w2.cell? ⟨b,1,none⟩=some v:=hR2.cell 1
 have f1:=hR2.fz 1
 obtain ⟨g',cap',rfl⟩:∃ g cap,v'=.slice (some ⟨g,0,none⟩) (l.length+m.length) cap:=by
  rcases hown'.2 with ⟨_,h0⟩ | ⟨g,cap,cur,fz,hv,_⟩
  ·omega
  ·exact ⟨g,cap,hv⟩
 clear hg1 hg
 go_wp2
 go_ret2
 have hrow:(w2.setCell ⟨b,1,none⟩ (.slice (some ⟨g',0,none⟩) (l.length+m.length) cap')).ownsRowF B 5 1 (.slice (some ⟨g',0,none⟩) (l.length+m.length) cap') (l++m).length (Lib.byteCells (l++m)):=by
  have e1:(l++m).length=l.length+m.length:=List.length_append
  have e2:Lib.byteCells (l++m)=Lib.byteCells l++Lib.byteCells m:=by simp [Lib.byteCells]
  rw [e1,e2]
  exact rowF_keep hown' (fun k h1 _=>Below.heap_setCell w2 _ _ k (by show k≠b;omega))
 refine ⟨rfl,⟨_,_,.inr rfl,hR2.set 1 _,hrow,?_⟩,(((hk1.mono (fun k _ h=>.inl h)).grown hgrow (fun k e=>.inl (.inr (hown1.lt k e).1))).setCell (p:=⟨b,1,none⟩) (.inl (.inl rfl)) _)⟩
 intro e
 have:=(hown'.lt b e).1
 omega
theorem bWriteStr (B b:Nat) (l:List UInt8) (s:ByteArray) (w:World) (h:BAt w B b l) (hBw:B<=w.heap.size) (hBb:b<B) (hlen:l.length+s.size<=1000000) (hm:0<s.size) :
  Calls prog 80 #[.pointer (some ⟨b,0,none⟩),.string s] w fun e w'=>e=.returned (.tuple #[.int .i64 s.size,.nilIface])/\BAt w' B b (l++s.data.toList)/\Keeps (fun k=>k=b\/B<=k) w w':=by
 obtain ⟨p,v,hp,hR,hown,hne⟩:=h
 have HC:=hid (bCopyOwn b v w p hp hR)
 obtain ⟨i0,hi,hz0,hz1,hz2⟩:=info_parts Tryz.infoByte
 go_enter func80,ntmps80
 go_wp2_with fail
 refine HC.out.mono ?_
 clear HC
 rintro e w1 ⟨rfl,hR1,hk1⟩
 have c1:w1.cell? ⟨b,1,none⟩=some v:=hR1.cell 1
 have hown1:w1.ownsRowF B 5 1 v l.length (Lib.byteCells l):=rowF_keep hown (fun k h1 h2=>hk1.block k h2 (by omega))
 have hs1:=hk1.size
 have HR:=hid hR
 clear hR
 go_wp2_with (at_builtin;refine Lib.wpList_append_own_stringF _ rfl _ _ 51 9 rfl B 5 i0 underlying51 underlying9 hi hz0 hz1 hz2 _ _ _ rfl hown1 s rfl ?c3 ?c4 ?c5 ?_)
 case c3=>unfold maxLen;omega
 case c4=>omega
 case c5=>omega
 intro v' w2 hown' hgrow _
 have hlt:=hR1.lt
 have hR2:RecAt w2 b #[.pointer (some ⟨b,0,none⟩),v] 160:=(hgrow.block b hlt (fun e=>hne e.symm)).trans hR1
 have d1:w2.cell? ⟨b,1,none⟩=some v:=hR2.cell 1
 have f1:=hR2.fz 1
 obtain ⟨g',cap',rfl⟩:∃ g cap,v'=.slice (some ⟨g,0,none⟩) (l.length+s.size) cap:=by
  rcases hown'.2 with ⟨_,h0⟩ | ⟨g,cap,cur,fz,hv,_⟩
  ·omega
  ·exact ⟨g,cap,hv⟩
 go_wp2
 go_ret2
 have hrow:(w2.setCell ⟨b,1,none⟩ (.slice (some ⟨g',0,none⟩) (l.length+s.size) cap')).ownsRowF B 5 1 (.slice (some ⟨g',0,none⟩) (l.length+s.size) cap') (l++s.data.toList).length (Lib.byteCells (l++s.data.toList)):=by
  have e1:(l++s.data.toList).length=l.length+s.size:=by simp
  have e2:Lib.byteCells (l++s.data.toList)=Lib.byteCells l++Lib.strCells s:=by simp [Lib.byteCells,Lib.strCells]
  rw [e1,e2]
  exact rowF_keep hown' (fun k h1 _=>Below.heap_setCell w2 _ _ k (by show k≠b;omega))
 refine ⟨rfl,⟨_,_,.inr rfl,hR2.set 1 _,hrow,?_⟩,(((hk1.mono (fun k _ h=>.inl h)).grown hgrow (fun k e=>.inl (.inr (hown1.lt k e).1))).setCell (p:=⟨b,1,none⟩) (.inl (.inl rfl)) _)⟩
 intro e
 have:=(hown'.lt b e).1
 omega
theorem BAt.is {w:World} {B b:Nat} {l:List UInt8} (h:BAt w B b l) (hb:b<B):Lib.IsBuilderF 160 5 b b (Lib.byteCells l) w:=by
 obtain ⟨p,v,hp,hR,hown,hne⟩:=h
 have hl:(Lib.byteCells l).length=l.length:=by simp [Lib.byteCells]
 have hrow:w.ownsRowF b 5 1 v (Lib.byteCells l).length (Lib.byteCells l):=by
  rw [hl]
  refine ⟨hown.1,hown.2.imp id ?_⟩
  rintro ⟨gr,cp,cur,fz,hv,h1,h2,h3⟩
  exact ⟨gr,cp,cur,fz,hv,by omega,h2,h3⟩
 rcases hp with rfl | rfl
 ·exact .inl ⟨Nat.le_refl _,v,hR,hrow,hne⟩
 ·exact .inr ⟨Nat.le_refl _,v,hR,hrow,hne⟩
end
section
open Go.RowKit Go.Shelf
theorem open_holds (n t:Nat) (img:List UInt8) (L:Led) (hH:Holds img n t L.text) (hS:L.Sound) (hf:L.kvs.length<=n / 8) (w:World) :
  Calls prog 30 #[.string ⟨img.toArray⟩] w fun e w'=>∃ l,e=.returned (.tuple #[.pointer (some ⟨l,0,none⟩),.slice none 0 0,.int .i64 0])/\LedgerAt w' l (n,t) L (n / 8)/\w.heap.size<=l/\Below w.heap.size w w':=by
 have hn:=hH.n1
 have hsz:(⟨img.toArray⟩:ByteArray).size=n*128:=by show img.toArray.size=_;rw [List.size_toArray];exact hH.len
 refine (open_any ⟨img.toArray⟩ (by rw [hsz];unfold maxLen;omega) w).mono ?_
 rintro e w' ⟨hb,h⟩
 have e1:(⟨img.toArray⟩:ByteArray).size / 128=n:=by rw [hsz];omega
 rw [e1] at h
 have hfd:findD (⟨img.toArray⟩:ByteArray).data.toList=some (t,L.text):=hH.find
 have hF:=hS.inv.ok.fit
 rcases h with ⟨t',x,L',l,r,h1,h2,h3,h4,h5,h6⟩ | ⟨h1,_⟩
 ·rw [hfd] at h1
  cases h1
  have h7:=h2.2.1
  rw [Led.read hF] at h7
  have:L=L':=kvs_inj hF h2.1 (by simpa using h7)
  subst this
  exact ⟨l,h3,⟨⟨r,_,h5,h6⟩,hS.inv.ok,hf,by omega⟩,h4,hb⟩
 ·exact absurd ⟨hF,Led.read hF,hf,sound_true hS⟩ (h1 _ _ L hfd)
theorem conv_disk {w:World} {d g n:Nat} {img:List UInt8} (hD:DiskH w d g n img) (cap:Nat) :
  (convert 51 9 (.slice (some ⟨g,0,none⟩) (n*128) cap)).run prog w=.ok (.string ⟨img.toArray⟩) w:=by
 have h:=own_conv (w:=w) (g:=g) (cap:=cap) (l:=img) (fun j hj=>by rw [addr_add];exact hD.byte hj)
 rw [hD.len] at h
 exact h
end
end Go.Proofs.YtalncjhldkcmaaaGreat
