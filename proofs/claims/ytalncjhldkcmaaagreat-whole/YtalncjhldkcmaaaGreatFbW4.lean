import Derived.Test.YtalncjhldkcmaaaGreatFbW1
import Derived.Test.YtalncjhldkcmaaaGreatFbW2
import Derived.Test.YtalncjhldkcmaaaGreatFbW3
namespace Go.Proofs.YtalncjhldkcmaaaGreat
open _root_.Go.Proofs.Tryz
set_option maxHeartbeats 16000000
set_option maxRecDepth 8000
section
open Go.RowKit Go.Shelf
def sureN (ws:List WN):Nat->Nat
 | 0=>0
 | m+1=>if 0<=(ws.getD m (-1,[])).1 then sureN ws m else m+1
theorem sureN_le (ws:List WN):∀ m,sureN ws m<=m
 | 0=>Nat.le_refl _
 | m+1=>by
  unfold sureN
  split
  ·exact Nat.le_succ_of_le (sureN_le ws m)
  ·exact Nat.le_refl _
theorem mkW_none (im:List UInt8) (x:WN):mkW im x 0=im:=by
 unfold mkW putB
 split
 ·simp
 ·rfl
section
variable {img x y:List UInt8} {n t:Nat}
theorem keepW_len (n t:Nat) (y:List UInt8):(keepW n t y).length=pieces y+3:=by simp [keepW,textW]
theorem keepW_piece {i:Nat} (h:i<pieces y):(keepW n t y)[i]? = some (((nextT t % 2*(n / 2)+1+i:Nat):Int),piece y i):=by
 unfold keepW
 rw [List.getElem?_append_left (by simpa [textW] using h),textW_eq,textWk_get _ _ h]
theorem keepW_tail (j:Nat):(keepW n t y)[pieces y+j]? = ([(-1,[]),(((nextT t % 2*(n / 2):Nat):Int),headB (nextT t) y.length (sumN y)),(-1,[])]:List WN)[j]?:=by
 unfold keepW
 rw [List.getElem?_append_right (by simp [textW])]
 simp [textW]
theorem sure_text:∀ m,m<=pieces y->sureN (keepW n t y) m=0
 | 0,_=>rfl
 | m+1,h=>by
  rw [sureN,List.getD_eq_getElem?_getD,keepW_piece (show m<pieces y by omega)]
  simp only [Option.getD_some]
  rw [if_pos (by omega)]
  exact sure_text m (by omega)
theorem sure1:sureN (keepW n t y) (pieces y+1)=pieces y+1:=by
 rw [sureN,List.getD_eq_getElem?_getD,show pieces y=pieces y+0 from rfl,keepW_tail 0]
 simp
theorem sure2:sureN (keepW n t y) (pieces y+2)=pieces y+1:=by
 rw [sureN,List.getD_eq_getElem?_getD,keepW_tail 1]
 simp only [List.getElem?_cons_succ,List.getElem?_cons_zero,Option.getD_some]
 rw [if_pos (by omega)]
 exact sure1
theorem sure3:sureN (keepW n t y) (pieces y+3)=pieces y+3:=by
 rw [sureN,List.getD_eq_getElem?_getD,keepW_tail 2]
 simp
theorem take_text:(keepW n t y).take (pieces y+1)=textW (nextT t % 2*(n / 2)) y++[(-1,[])]:=by
 unfold keepW
 rw [List.take_append,List.take_of_length_le (by simp [textW])]
 simp [textW]
theorem allW_text (img:List UInt8):allW img ((keepW n t y).take (pieces y+1))=allW img (textW (nextT t % 2*(n / 2)) y):=by
 rw [take_text,allW_append]
 simp [allW,mkW]
theorem allW_keep (img:List UInt8):allW img (keepW n t y)=mkW (allW img (textW (nextT t % 2*(n / 2)) y)) (((nextT t % 2*(n / 2):Nat):Int),headB (nextT t) y.length (sumN y)) 128:=by
 unfold keepW
 rw [allW_append]
 simp [allW,mkW]
theorem lost_J (hH:Holds img n t x) (hy:y.length<=(n / 2 - 1)*128) (m:Nat) (hm:m<(keepW n t y).length+1) :
  ∃ J:Nat->List UInt8->Prop,J (sureN (keepW n t y) m) (allW img ((keepW n t y).take (sureN (keepW n t y) m))) /\
   (∀ i im k (hi:i<(keepW n t y).length),sureN (keepW n t y) m<=i->i<m->k<=128->J i im->J (i+1) (mkW im (keepW n t y)[i] k)) /\
   ∀ im,J m im->(Holds im n t x/\decide (m=(keepW n t y).length)=false)\/Holds im n (nextT t) y:=by
 rw [keepW_len] at hm
 have hp:=pieces_le hy
 have hkl:=keepW_len n t y
 have hold:Holds (allW img (textW (nextT t % 2*(n / 2)) y)) n t x:=by have:=head_torn hH hy (show 0<128 by decide);rwa [mkW_none] at this
 have hcase:m<=pieces y\/m=pieces y+1\/m=pieces y+2\/m=pieces y+3:=by omega
 rcases hcase with h | rfl | rfl | rfl
 ·rw [sure_text m h]
  refine ⟨fun _ im=>Holds im n t x,hH,fun i im k hi _ him _ hJ => ?_,fun im hJ=>.inl ⟨hJ,decide_eq_false (by omega)⟩⟩
  have e:(keepW n t y)[i]=(((nextT t % 2*(n / 2)+1+i:Nat):Int),piece y i):=by
   have:=keepW_piece (n:=n) (t:=t) (y:=y) (i:=i) (by omega)
   rw [List.getElem?_eq_getElem hi] at this
   exact Option.some.inj this
  rw [e]
  exact text_part hJ (piece_len y i) (by omega)
 ·rw [sure1,allW_text]
  exact ⟨fun _ im=>Holds im n t x,hold,fun i im k hi h1 h2=>by omega,fun im hJ=>.inl ⟨hJ,decide_eq_false (by omega)⟩⟩
 ·rw [sure2,allW_text]
  refine ⟨fun i im=>(i=pieces y+1/\im=allW img (textW (nextT t % 2*(n / 2)) y))\/(i=pieces y+2/\(Holds im n t x\/Holds im n (nextT t) y)),.inl ⟨rfl,rfl⟩,fun i im k hi h1 h2 hk hJ => ?_,fun im hJ => ?_⟩
  ·have hi1:i=pieces y+1:=by omega
   subst hi1
   rcases hJ with ⟨_,rfl⟩ | ⟨h,_⟩
   ·have e:(keepW n t y)[pieces y+1]=(((nextT t % 2*(n / 2):Nat):Int),headB (nextT t) y.length (sumN y)):=by
     have:=keepW_tail (n:=n) (t:=t) (y:=y) 1
     rw [List.getElem?_eq_getElem hi] at this
     exact Option.some.inj this
    rw [e]
    refine .inr ⟨rfl,?_⟩
    by_cases hk2:k<128
    ·exact .inl (head_torn hH hy hk2)
    ·obtain rfl:k=128:=by omega
     rw [<- allW_keep]
     exact .inr (keep_all hH hy)
   ·omega
  ·rcases hJ with ⟨h,_⟩ | ⟨_,h | h⟩
   ·omega
   ·exact .inl ⟨h,decide_eq_false (by omega)⟩
   ·exact .inr h
 ·rw [sure3,<- hkl,List.take_length]
  exact ⟨fun _ im=>Holds im n (nextT t) y,keep_all hH hy,fun i im k hi h1 h2=>by omega,fun im hJ=>.inr hJ⟩
end
theorem part_J {ws:List WN} {img:List UInt8} {m k:Nat} (hm:m<=ws.length) (hk:k<=128) (J:Nat->List UInt8->Prop) (hJ0:J (sureN ws m) (allW img (ws.take (sureN ws m))))
  (hJ:∀ i im k (hi:i<ws.length),sureN ws m<=i->i<m->k<=128->J i im->J (i+1) (mkW im ws[i] k)):J m (wrJ img (ws.take m) k m):=by
 have hl:(ws.take m).length=m:=by rw [List.length_take];omega
 have hs:=sureN_le ws m
 have key:∀ d,sureN ws m+d<=m->J (sureN ws m+d) (wrJ img (ws.take m) k (sureN ws m+d)):=by
  intro d
  induction d with
  | zero =>
   intro _
   show J (sureN ws m) (wrJ img (ws.take m) k (sureN ws m))
   by_cases h:sureN ws m<m
   ·unfold wrJ
    rw [if_pos (by omega),List.take_take,Nat.min_eq_left (by omega)]
    exact hJ0
   ·have e:sureN ws m=m:=by omega
    rw [e] at hJ0 ⊢
    cases m with
    | zero=>rw [wrJ_zero];exact hJ0
    | succ q =>
     have hneg:¬ 0<=(ws.getD q (-1,[])).1:=by
      intro h0
      rw [sureN,if_pos h0] at e
      have:=sureN_le ws q
      omega
     have hq:q<ws.length:=by omega
     have hg:ws.getD q (-1,[])=ws[q]:=by simp [List.getD_eq_getElem?_getD,List.getElem?_eq_getElem hq]
     rw [hg] at hneg
     have h1:∀ im z,mkW im ws[q] z=im:=fun im z=>by unfold mkW;rw [if_neg hneg]
     have h2:=wrJ_succ img (ws.take (q+1)) k (j:=q) (by omega)
     rw [h2]
     simp only [List.getElem_take,h1]
     unfold wrJ
     rw [if_pos (by omega),List.take_take,Nat.min_eq_left (by omega)]
     rw [allW_succ img ws hq,h1] at hJ0
     exact hJ0
  | succ d ih =>
   intro hd
   have h1:=ih (by omega)
   have hi:sureN ws m+d<ws.length:=by omega
   have h2:=wrJ_succ img (ws.take m) k (j:=sureN ws m+d) (by omega)
   rw [<- Nat.add_assoc,h2,List.getElem_take]
   exact hJ _ _ _ hi (by omega) (by omega) (by split <;> omega) h1
 have:=key (m - sureN ws m) (by omega)
 rwa [show sureN ws m+(m - sureN ws m)=m by omega] at this
theorem part_holds {img:List UInt8} {t:Nat} {L:Led} (hH:Holds img 256 t L.text) (hS:L.Sound) (hf:L.kvs.length<=32) (s:List UInt8) {m k:Nat} (hm:m<=(L.fWr 32 (256,t) s).length) (hk:k<=128) :
  (Holds (wrJ img ((L.fWr 32 (256,t) s).take m) k m) 256 t L.text/\m<(L.fWr 32 (256,t) s).length)\/Holds (wrJ img ((L.fWr 32 (256,t) s).take m) k m) 256 (L.fTn 32 t s) (L.fLed 32 s).text:=by
 cases ho:L.fOn 32 s with
 | false =>
  have e:L.fWr 32 (256,t) s=[]:=by unfold Led.fWr;rw [ho];rfl
  rw [e] at hm ⊢
  obtain rfl:m=0:=by simpa using hm
  rw [wrJ_zero]
  right
  unfold Led.fTn
  rw [ho,fLed_off ho]
  exact hH
 | true =>
  have e:L.fWr 32 (256,t) s=keepW 256 t (L.fLed 32 s).text:=by unfold Led.fWr;rw [ho];rfl
  have e2:L.fTn 32 t s=nextT t:=by unfold Led.fTn;rw [ho];rfl
  rw [e] at hm ⊢
  rw [e2]
  have hy:(L.fLed 32 s).text.length<=(256 / 2 - 1)*128:=Led.text_room (n:=256) (fLed_sound hS _ s).inv.ok.fit (by omega) (fLed_few hf s)
  obtain ⟨J,h0,h1,h2⟩:=lost_J hH hy m (by omega)
  rcases h2 _ (part_J hm hk J h0 h1) with ⟨h,hd⟩ | h
  ·exact .inl ⟨h,by have:=of_decide_eq_false hd;omega⟩
  ·exact .inr h
theorem fWr_len {t:Nat} {L:Led} (hS:L.Sound) (hf:L.kvs.length<=32) (s:List UInt8):(L.fWr 32 (256,t) s).length<=900:=by
 unfold Led.fWr
 split
 ·rw [keepW_len]
  have hy:(L.fLed 32 s).text.length<=(256 / 2 - 1)*128:=Led.text_room (n:=256) (fLed_sound hS _ s).inv.ok.fit (by omega) (fLed_few hf s)
  have:=pieces_le hy
  omega
 ·simp
end
section
open Go.RowKit Go.Shelf
theorem wp_append_allD {P:Program} {C:Value->Prop} (w:World) {o:Oper} {a:Act} {K:Act->World->Prop} {Q:Exit->Act->World->Prop} (d:Option Tmp) (hd:o.dst=d) (s x:Operand) (t:TypeId)
  (ho:o.op=.call { callee:=.builtin .append,args:=#[s,x],argTypes:=#[t,t] })
  (base:Nat) (e:TypeId) (i:TypeInfo) (z:Value) (bytes:Nat) (ht:P.underlying t=some (.slice e)) (hi:P.info? e=some i) (hz:i.zero=some z) (hz0:z.cells=#[z]) (hzC:C z)
  (hCo:∀ u,C u->u.oneCell'=true) (hsize:i.size=1) (hby:i.bytes=bytes)
  (v:Value) (n:Nat) (xs:List Value) (hs:a.eval s=v) (hown:w.ownsRow base e 1 v n xs) (hall:∀ g,v.ownBlock=some g->AllC C w g) (hxs:∀ v∈xs,C v)
  (ad:Addr) (m c:Nat) (news:List Value) (hx:a.eval x=.slice (some ad) m c) (hl:news.length=m) (hnews:∀ j u,news[j]? = some u->w.cell? (ad.add j)=some u) (hn:∀ u∈news,C u)
  (h63:n+m<=maxLen) (hbytes:(n+m)*bytes<=140737488355328) (hbase:base<=w.heap.size)
  (h:∀ v' w',w'.ownsRow base e 1 v' (n+m) (xs++news)->w.grownBy w' v.ownBlock->(∀ g,v'.ownBlock=some g->AllC C w' g)->K (a.put d v') w'):Oper.wp P o a w K Q:=by
 subst hd
 obtain ⟨v',w',hr,h2,h3,h4⟩:=run_append_all (C:=C) (P:=P) w base t o.type e i z bytes ht hi hz hz0 hzC hCo hsize hby v n xs hown hall hxs ad m c news hl hnews hn h63 hbytes hbase
 unfold Oper.wp execOp
 simp only [ho,resolve,invoke,builtin,Sem.run_bind,Sem.run_pure,Result.andThen_ok,List.map_toArray,List.map_cons,List.map_nil,hs,hx,hr]
 exact h v' w' h2 h3 h4
theorem wCells_take (ws:List WN) {m:Nat} (hm:m<=ws.length):(wCells ws).take (m*2)=wCells (ws.take m):=by
 have h1:wCells ws=wCells (ws.take m)++wCells (ws.drop m):=by rw [<- wCells_append,List.take_append_drop]
 have h2:(wCells (ws.take m)).length=m*2:=by rw [wCells_len,List.length_take,Nat.min_eq_left hm]
 rw [h1,<- h2,List.take_left]
theorem write_part (sb cap:Nat) (lp:Option Addr) (p:Int) (img:List UInt8) (g B:Nat) (hcap:32768<=cap/\cap<=maxLen) (oa:Option Addr) (cw:Nat) (ws:List WN) (hf:fitsW 256 ws) (m k:Nat) (hm:m<=ws.length) (hk:k<=128) (w:World)
  (hB:StoreBox w sb lp (.slice (some ⟨g,0,none⟩) 32768 cap) p) (hR:RowD w g img) (hV:WrV B w (.slice oa ws.length cw) ws) :
  Calls prog 22 #[.pointer (some ⟨sb,0,none⟩),.slice oa m cw,.int .i64 k] w fun e w'=>e=.returned (.tuple #[])/\RowD w' g (wrJ img (ws.take m) k m)/\Keeps (fun x=>x=g) w w':=by
 rcases hV with ⟨rfl,hv⟩ | ⟨gw,cw',hv,_,hcw,hlen,cur,h3,h4⟩
 ·injection hv with h1 _ h2
  subst h1 h2
  obtain rfl:m=0:=by simpa using hm
  refine (write_nil sb _ w).mono ?_
  rintro e w' ⟨rfl,rfl⟩
  rw [wrJ_zero]
  exact ⟨rfl,hR,Keeps.refl _ _⟩
 ·injection hv with h1 _ h2
  subst h1 h2
  have hl:(ws.take m).length=m:=by rw [List.length_take];omega
  have h4':cur.toList.take ((ws.take m).length*2)=wCells (ws.take m):=by
   rw [hl,<- wCells_take ws hm,<- h4,List.take_take,Nat.min_eq_left (by omega)]
  have:=write_any sb cap lp p img g hcap gw cw (ws.take m) k hk (fun x hx=>hf.1 x (List.mem_of_mem_take hx)) ⟨by omega,by omega⟩ cur w hB hR h3 h4'
  rw [hl] at this
  exact this
def Old (B:Nat) (v:Value):Prop:=∀ g n c,v=.slice (some g) n c->g.block<B
section
variable {w w':World} {v:Value} {zs:List Int}
theorem IntsIn.old (h:IntsIn w v zs):Old w.heap.size v:=by
 rcases h with ⟨g,cap,rfl,hg,hc⟩ | ⟨rfl,rfl⟩
 ·intro g' n c e;cases e;exact hg
 ·intro g' n c e;cases e
theorem Old.mono {B B':Nat} (h:Old B v) (hb:B<=B'):Old B' v:=fun g n c e=>Nat.lt_of_lt_of_le (h g n c e) hb
theorem IntsIn.mid {S:Nat->Prop} {lo hi:Nat} (h:IntsIn w v zs) (hn:New lo v) (ho:Old hi v) (hS:∀ x,S x->x<lo\/hi<=x) (hk:Keeps S w w'):IntsIn w' v zs:=by
 rcases h with ⟨g,cap,rfl,hg,hc⟩ | h
 ·refine .inl ⟨g,cap,rfl,Nat.lt_of_lt_of_le hg hk.size,fun j hj => ?_⟩
  have h1:=hn _ _ _ rfl
  have h2:=ho _ _ _ rfl
  simp only at h1 h2
  rw [World.cell?_of_block (w:=w) (hk.block g hg (fun hs=>by have:=hS _ hs;omega))]
  exact hc j hj
 ·exact .inr h
end
structure WZ (w:World) (b1 b2 b3:Nat) (vb:Value) (bs:List Int) (zb zg zc:Nat) (img:List UInt8):Prop where
 bf:IntsIn w vb bs
 bn:New b1 vb
 bo:Old b2 vb
 zx:StoreBox w zb none (.slice (some ⟨zg,0,none⟩) 32768 zc) 0
 zr:RowD w zg img
 cap:32768<=zc/\zc<=maxLen
 zl:b2<=zb/\b2<=zg/\zb<b3/\zg<b3
 le:b1<=b2
theorem WZ.keeps {S:Nat->Prop} {w w':World} {b1 b2 b3:Nat} {vb:Value} {bs:List Int} {zb zg zc:Nat} {img:List UInt8} (h:WZ w b1 b2 b3 vb bs zb zg zc img) (hS:∀ x,S x->x<b1\/b3<=x) (hk:Keeps S w w'):WZ w' b1 b2 b3 vb bs zb zg zc img:=by
 have hl:=h.zl
 have hle:=h.le
 exact ⟨h.bf.mid h.bn h.bo (fun x hx=>by have:=hS x hx;omega) hk,h.bn,h.bo,keeps_same hk (fun hs=>by have:=hS _ hs;omega) h.zx,h.zr.keeps hk (fun hs=>by have:=hS _ hs;omega),h.cap,hl,hle⟩
theorem WZ.below {w w':World} {b1 b2 b3:Nat} {vb:Value} {bs:List Int} {zb zg zc:Nat} {img:List UInt8} (h:WZ w b1 b2 b3 vb bs zb zg zc img) (hb:Below w.heap.size w w'):WZ w' b1 b2 b3 vb bs zb zg zc img :=
 h.keeps (S:=fun _=>False) (fun _ h=>h.elim) (below_toKeeps hb _)
theorem RawsIn.below {w w':World} {v:Value} {n:Nat} {R:Nat->Nat->Int} (h:RawsIn w v n R) (hb:Below w.heap.size w w'):RawsIn w' v n R:=by
 obtain ⟨oa,cap,rfl,hn,hel⟩:=h
 refine ⟨oa,cap,rfl,hn,fun i hi => ?_⟩
 obtain ⟨a,rfl,hab,hc,h64⟩:=hel i hi
 exact ⟨a,rfl,Nat.lt_of_lt_of_le hab hb.size,fun j hj=>(hb.cell (by rw [Addr.add_block];exact hab)).trans (hc j hj),h64⟩
theorem fork_row {w2:World} {B0 D:Nat} {v:Value} {img:List UInt8} (hl:img.length=32768) (ho:w2.ownsRow B0 5 1 v (0+32768) ([]++Lib.byteCells img)) (ha:∀ g,v.ownBlock=some g->AllC IsU8 w2 g) (hD:w2.heap[D]? = some (.cells #[.pointer none,.slice none 0 0,.int .i64 0] 53 (0,0))) :
  ∃ g cap,v=.slice (some ⟨g,0,none⟩) 32768 cap/\B0<=g/\g<w2.heap.size/\(32768<=cap/\cap<=maxLen)/\StoreBox (w2.setCell ⟨D,1,none⟩ v) D none v 0/\RowD (w2.setCell ⟨D,1,none⟩ v) g img:=by
 rcases ho.2 with ⟨_,hv⟩ | ⟨g,cap,cur,hv,hB,hh,h1,h2,h3,h4⟩
 ·omega
 ·rw [Nat.zero_add] at hv h1 h4
  rw [List.nil_append,Nat.mul_one] at h4
  subst hv
  have hne:¬ g=D:=tag_ne hh hD (by decide)
  have hk:Keeps (fun x=>x=D) w2 (w2.setCell ⟨D,1,none⟩ (.slice (some ⟨g,0,none⟩) 32768 cap)):=(Keeps.refl (fun x=>x=D) w2).setCell (p:=⟨D,1,none⟩) (.inl rfl) _
  exact ⟨g,cap,rfl,hB,(Array.getElem?_eq_some_iff.1 hh).1,⟨h1,h2⟩,heap_setCell_same w2 D 1 _ _ _ hD,⟨⟨cur,keeps_same hk hne hh,h4,allC_cur hh (ha g rfl)⟩,hl⟩⟩
def IsBool (e:Ending):Prop:=∃ t:Bool,e=.returned (.bool t)
theorem same_bool (a b:Value) (xs ys:List Int) (w:World) (ha:IntsIn w a xs) (hb:IntsIn w b ys) (hn:xs.length<1000000) (_hm:ys.length<1000000) :
  Calls prog 19 #[a,b] w fun e w'=>IsBool e/\∃ n,w'=w.drewN n:=by
 obtain ⟨oa,ca,rfl,hca⟩:=ha.parts
 obtain ⟨ob,cb,rfl,hcb⟩:=hb.parts
 have HA:=hid hca
 have HB:=hid hcb
 clear hca hcb ha hb
 go_enter func19,ntmps19
 by_cases hne:xs.length=ys.length
 ·have hne':((xs.length:Int) == (ys.length:Int))=true:=beq_iff_eq.2 (by omega)
  go_wp2_with fail
  go_loopw [5] (fun i wr=>∃ k nd:Nat,k<=xs.length/\i=.int .i64 k/\wr=w.drewN nd) (fun i _=>xs.length - (intOf i).toNat)
  case atStart=>exact ⟨0,0,Nat.zero_le _,rfl,rfl⟩
  case round =>
   obtain ⟨k,nd,hk,rfl,rfl⟩:=hrel
   by_cases hlt:k<xs.length
   ·obtain ⟨pa,rfl,_,hpa⟩:=HA.out k hlt
    obtain ⟨pb,rfl,_,hpb⟩:=HB.out k (by omega)
    generalize xs[k]=z at *
    have hk2:k<ys.length:=by omega
    generalize ys[k]=z' at *
    have hlt':(k:Int)<(xs.length:Int):=by omega
    have hlt2:(k:Int)<(ys.length:Int):=by omega
    cases hz:(z == z') with
    | true =>
     go_wp2_with fail
     go_quiet (fail)
     go_wp2
     go_roundw
     case rel=>exact ⟨k+1,_,by omega,by go_num,rfl⟩
     case measure=>simp [intOf];omega
    | false =>
     go_wp2_with fail
     go_quiet (fail)
     go_wp2
     go_ret
     exact ⟨⟨false,rfl⟩,_,World.drewN_drewN _ _ _⟩
   ·have hlt':¬ (k:Int)<(xs.length:Int):=by omega
    go_wp2
    go_ret
    exact ⟨⟨true,rfl⟩,_,rfl⟩
 ·have hne':((xs.length:Int) == (ys.length:Int))=false:=beq_eq_false_iff_ne.2 (by omega)
  go_wp2
  go_ret
  exact ⟨⟨false,rfl⟩,0,rfl⟩
theorem same_both (a b:Value) (xs ys:List Int) (w:World) (ha:IntsIn w a xs) (hb:IntsIn w b ys) (hn:xs.length<1000000) (hm:ys.length<1000000) :
  Calls prog 19 #[a,b] w fun e w'=>∃ z:Bool,e=.returned (.bool z)/\(xs=ys->z=true)/\∃ n,w'=w.drewN n:=by
 by_cases h:xs=ys
 ·subst h
  refine (same_any a b xs w ha hb hn).mono ?_
  rintro e w' ⟨rfl,hw⟩
  exact ⟨true,rfl,fun _=>rfl,hw⟩
 ·refine (same_bool a b xs ys w ha hb hn hm).mono ?_
  rintro e w' ⟨⟨z,rfl⟩,hw⟩
  exact ⟨z,rfl,fun e=>absurd e h,hw⟩
namespace Led
def cmNew:Cm:=⟨1,0,0,0,0,9,0,0,1⟩
def cmAsk:Cm:=⟨13,0,0,0,0,9,0,0,0⟩
theorem nar9 {L:Led} (h:L.Nar):L.sideN 9=0:=by
 unfold Led.sideN Led.box
 rw [List.filter_eq_nil_iff.2 (fun x hx=>by have:=h x hx;simp only [decide_eq_true_eq];omega)]
 rfl
theorem new9 {L:Led} (h:L.Nar) (hf:L.kvs.length<=31):L.stepE 32 cmNew=0/\L.stepL 32 cmNew={ L with bs:=insB L.bs 9 1 }:=by
 have he:L.err cmNew=0:=by
  simp [Led.err,Led.asksT,Led.asksO,Led.asksD,Led.asksB,cmNew,nar9 h,askAll,askI]
 have ha:L.act cmNew={ L with bs:=insB L.bs 9 1 }:=by simp [Led.act,cmNew]
 have hl:(L.act cmNew).kvs.length<=32:=by
  rw [ha]
  have:=insB_len L.bs 9 1
  simp only [Led.kvs,List.length_append,List.length_map] at hf ⊢
  omega
 unfold Led.stepE Led.stepL
 rw [if_pos he,if_pos hl,if_pos ⟨he,hl⟩,ha]
 exact ⟨rfl,rfl⟩
theorem ask9 {L:Led} (h:L.Nar) (hf:L.kvs.length<=31):(L.stepL 32 cmNew).stepE 32 cmAsk=0:=by
 obtain ⟨_,h2⟩:=new9 h hf
 rw [h2]
 have hs:({ L with bs:=Go.Proofs.YtalncjhldkcmaaaGreat.insB L.bs 9 1 }:Led).sideN 9=1:=by
  unfold Led.sideN
  rw [box_insB,if_pos rfl]
  rfl
 have he:({ L with bs:=Go.Proofs.YtalncjhldkcmaaaGreat.insB L.bs 9 1 }:Led).err cmAsk=0:=by
  simp [Led.err,Led.asksT,Led.asksO,Led.asksD,Led.asksB,cmAsk,hs,askAll,askI]
 have ha:({ L with bs:=Go.Proofs.YtalncjhldkcmaaaGreat.insB L.bs 9 1 }:Led).act cmAsk={ L with bs:=Go.Proofs.YtalncjhldkcmaaaGreat.insB L.bs 9 1 }:=by simp [Led.act,cmAsk]
 have hl:({ L with bs:=Go.Proofs.YtalncjhldkcmaaaGreat.insB L.bs 9 1 }:Led).kvs.length<=32:=by
  have:=insB_len L.bs 9 1
  simp only [Led.kvs,List.length_append,List.length_map] at hf ⊢
  omega
 unfold Led.stepE
 rw [if_pos he,ha,if_pos hl]
end Led
end
section
open Go.RowKit Go.Shelf
theorem lg3_nar:lg3.Nar:=fun x hx=>by simp [lg3] at hx;rw [hx];decide
theorem slice_to (oa:Option Addr) (N cw z:Nat) (hz:z<=cw) (w:World):(Instr.slice 54 (.slice oa N cw) none (some (.int .i64 z)) none).run prog w=.ok (.slice oa z cw) w:=by
 cases oa with
 | none=>simp [go_sem,Instr.slice,Instr.sliceBounds,Instr.sliceBound];intro h;omega
 | some a=>simp [go_sem,Instr.slice,Instr.sliceBounds,Instr.sliceBound];intro h;omega
theorem whole_any (v:Value) (n:Nat) (R:Nat->Nat->Int) (r:Nat->Int) (ca cb:Int) (hr:∀ j,I64 (r j)) (hca:I64 ca) (hcb:I64 cb) (w:World) (hR:RawsIn w v n R) :
  Calls prog 10 #[v,.agg #[.int .i64 (r 0),.int .i64 (r 1),.int .i64 (r 2),.int .i64 (r 3),.int .i64 (r 4)],.int .i64 ca,.int .i64 cb] w fun e w'=>e=.returned (.bool true)/\Below w.heap.size w w':=by
 have hmx:prog.follows .mixedOrders=true:=by kernel_rfl
 have hbW:Below w.heap.size w (w.alloc (.cells #[.int .i64 (r 0),.int .i64 (r 1),.int .i64 (r 2),.int .i64 (r 3),.int .i64 (r 4)] 34)):=bal
 have hRW:=hR.below hbW
 have hN0:=RecAt.new w #[.int .i64 (r 0),.int .i64 (r 1),.int .i64 (r 2),.int .i64 (r 3),.int .i64 (r 4)] 34
 have hsW:(w.alloc (.cells #[.int .i64 (r 0),.int .i64 (r 1),.int .i64 (r 2),.int .i64 (r 3),.int .i64 (r 4)] 34)).heap.size=w.heap.size+1:=by simp
 have HC:=hid (command_any (r 0) (r 1) (r 2) (r 3) (r 4) (hr 0) (hr 1) (hr 2) (hr 3) (hr 4))
 have HW:=hid (And.intro hbW (And.intro hRW (And.intro hN0 hsW)))
 obtain ⟨oa0,cp0,rfl,-⟩:=hR
 clear hbW hRW hN0 hsW
 go_enter func10,ntmps10
 go_wp2_with fail
 generalize w.alloc (.cells #[.int .i64 (r 0),.int .i64 (r 1),.int .i64 (r 2),.int .i64 (r 3),.int .i64 (r 4)] 34)=W at *
 refine (kstore_any W).mono ?_
 rintro e w1 ⟨sb,l,g,rfl,hK1,hsb,hl,hg,hb1⟩
 have HP:=hid (plays_any _ n R W HW.out.2.1 sb l g 32768 lg3 w1 ⟨hK1,hb1,⟨hsb,hl,hg⟩,Reach.refl _,by omega,by decide,lg3_nar⟩)
 clear hK1 hsb hl hg hb1
 go_wp2_with fail
 refine HP.out.mono ?_
 clear HP
 rintro e w2 ⟨rfl,p,L,hPS⟩
 obtain ⟨img,t,hK2,hH⟩:=hPS.st
 have HSh:=hid (shown_any sb l ⟨g,32768,img,t⟩ p L w2 hK2)
 have H2:=hid (And.intro hPS (And.intro hK2 hH))
 clear hPS hK2 hH
 go_wp2_with fail
 refine HSh.out.mono ?_
 clear HSh
 rintro e w3 ⟨vb,rfl,hi3,hK3,hk3,hl3,hn3⟩
 obtain ⟨ob,cpb,rfl,-⟩:=hi3.parts
 have hb4:Below w3.heap.size w3 (w3.alloc (.cells #[.pointer none,.slice none 0 0,.int .i64 0] 53)):=bal
 have hN4:=RecAt.new w3 #[.pointer none,.slice none 0 0,.int .i64 0] 53
 have hs4:(w3.alloc (.cells #[.pointer none,.slice none 0 0,.int .i64 0] 53)).heap.size=w3.heap.size+1:=by simp
 have hK4:=hK3.below hb4
 have n1:(w3.alloc (.cells #[.pointer none,.slice none 0 0,.int .i64 0] 53)).cell? ⟨w3.heap.size,1,none⟩=some (.slice none 0 0):=hN4.cell 1
 have f1:(w3.alloc (.cells #[.pointer none,.slice none 0 0,.int .i64 0] 53)).frozen? ⟨w3.heap.size,1,none⟩=false:=hN4.fz 1
 have dc:=hK4.box.c1
 have hne4:=hK3.lt
 have hnews:∀ j u,(Lib.byteCells img)[j]? = some u->(w3.alloc (.cells #[.pointer none,.slice none 0 0,.int .i64 0] 53)).drew.cell? ((⟨g,0,none⟩:Addr).add j)=some u:=by
  intro j u hu
  have hj:j<img.length:=by have:=(List.getElem?_eq_some_iff.1 hu).1;simpa [Lib.byteCells] using this
  rw [addr_add]
  show (w3.alloc (.cells #[.pointer none,.slice none 0 0,.int .i64 0] 53)).cell? _=_
  rw [hK4.row.byte hj,<- hu]
  simp [Lib.byteCells,hj]
 have hbl:(Lib.byteCells img).length=32768:=by simp [Lib.byteCells,hK4.row.len]
 obtain ⟨ib,hib,hz0,hz1,hz2⟩:=info_parts Tryz.infoByte
 have HN:=hid (And.intro hnews hbl)
 have H4:=hid (And.intro hi3 (And.intro hK3 (And.intro hk3 (And.intro hl3 (And.intro hn3 (And.intro hb4 (And.intro hN4 (And.intro hs4 hK4))))))))
 clear hi3 hK3 hk3 hl3 hn3 hb4 hN4 hs4 hK4 hnews hbl
 go_wp2_with fail
 generalize hw0:w3.alloc (.cells #[.pointer none,.slice none 0 0,.int .i64 0] 53)=w0 at *
 generalize hDe:w3.heap.size=D at *
 have HD:=hid (And.intro hw0 hDe)
 clear hw0 hDe
 have hsD:w0.heap.size=D+1:=H4.out.2.2.2.2.2.2.2.1
 have hsz0:D<=w0.drew.heap.size:=by show D<=w0.heap.size;omega
 have hS0:w0.drew.cell? ⟨sb,1,none⟩=some (.slice (some ⟨g,0,none⟩) 32768 32768):=dc
 have n1d:w0.drew.cell? ⟨D,1,none⟩=some (.slice none 0 0):=n1
 refine wp_region_held_drew (S:=(fun u=>u.cell? ⟨sb,1,none⟩=some (.slice (some ⟨g,0,none⟩) 32768 32768))) hmx hS0 (fun _ => ?_)
 change wpAnyH _ _ _ _ _ 13 (Array.replicate 13 false) _ _
 refine wpAnyH_tk 0 (some 41) (.pointer (some ⟨D,0,none⟩)) rfl rfl (by kernel_rfl) (by kernel_rfl) (by kernel_rfl) (fun _ _ _ h=>h) (.inl ⟨rfl,fun u hu => ?_⟩) hS0 ?_
 ·simp [go_sem]
 simp only [Act.put,List.setIfInBounds_toArray,List.set_cons_succ,List.set_cons_zero]
 refine wpAnyH_tk 1 (some 42) (.pointer (some ⟨D,0,none⟩)) rfl rfl (by kernel_rfl) (by kernel_rfl) (by kernel_rfl) (fun _ _ _ h=>h) (.inl ⟨rfl,fun u hu => ?_⟩) hS0 ?_
 ·simp [go_sem]
 simp only [Act.put,List.setIfInBounds_toArray,List.set_cons_succ,List.set_cons_zero]
 refine wpAnyH_tk 2 (some 43) (.pointer (some ⟨D,0,none⟩)) rfl rfl (by kernel_rfl) (by kernel_rfl) (by kernel_rfl) (fun _ _ _ h=>h) (.inl ⟨rfl,fun u hu => ?_⟩) hS0 ?_
 ·simp [go_sem]
 simp only [Act.put,List.setIfInBounds_toArray,List.set_cons_succ,List.set_cons_zero]
 refine wpAnyH_tk 3 (some 44) (.pointer (some ⟨D,1,none⟩)) rfl rfl (by kernel_rfl) (by kernel_rfl) (by kernel_rfl) (fun _ _ _ h=>h) (.inl ⟨rfl,fun u hu => ?_⟩) hS0 ?_
 ·simp [go_sem]
 simp only [Act.put,List.setIfInBounds_toArray,List.set_cons_succ,List.set_cons_zero]
 refine wpAnyH_tk 5 (some 46) (.pointer (some ⟨sb,0,none⟩)) rfl rfl (by kernel_rfl) (by kernel_rfl) (by kernel_rfl) (fun _ _ _ h=>h) (.inl ⟨rfl,fun u hu => ?_⟩) hS0 ?_
 ·simp [go_sem]
 simp only [Act.put,List.setIfInBounds_toArray,List.set_cons_succ,List.set_cons_zero]
 refine wpAnyH_tk 6 (some 47) (.pointer (some ⟨sb,0,none⟩)) rfl rfl (by kernel_rfl) (by kernel_rfl) (by kernel_rfl) (fun _ _ _ h=>h) (.inl ⟨rfl,fun u hu => ?_⟩) hS0 ?_
 ·simp [go_sem]
 simp only [Act.put,List.setIfInBounds_toArray,List.set_cons_succ,List.set_cons_zero]
 refine wpAnyH_tk 7 (some 48) (.pointer (some ⟨sb,1,none⟩)) rfl rfl (by kernel_rfl) (by kernel_rfl) (by kernel_rfl) (fun _ _ _ h=>h) (.inl ⟨rfl,fun u hu => ?_⟩) hS0 ?_
 ·simp [go_sem]
 simp only [Act.put,List.setIfInBounds_toArray,List.set_cons_succ,List.set_cons_zero]
 refine wpAnyH_tk 8 (some 49) (.slice (some ⟨g,0,none⟩) 32768 32768) rfl rfl (by kernel_rfl) (by kernel_rfl) (by kernel_rfl) (fun _ _ _ h=>h) (.inl ⟨rfl,fun u hu => ?_⟩) hS0 ?_
 ·simp [go_sem,hu]
 simp only [Act.put,List.setIfInBounds_toArray,List.set_cons_succ,List.set_cons_zero]
 refine wpAnyH_one 4 (by kernel_rfl) rfl rfl fun K hK => ?_
 go_simp
 refine hK _ _ hS0 ?_
 clear hK
 refine wpAnyH_one 9 (by kernel_rfl) rfl rfl fun K hK => ?_
 refine wp_append_allD (C:=IsU8) _ (some 50) rfl (.tmp 45) (.tmp 49) 51 rfl D 5 ib (.int .u8 0) 1 underlying51 hib hz0 rfl ⟨_,rfl⟩ (fun u hu=>by obtain ⟨x,rfl⟩:=hu;rfl) hz1 hz2 (.slice none 0 0) 0 [] rfl (World.ownsRow_nil _ _ _ _) (fun g hg=>by cases hg) (fun v hv=>by cases hv) ⟨g,0,none⟩ 32768 32768 (Lib.byteCells img) rfl HN.out.2 HN.out.1 (byteCells_u8 img) (by unfold maxLen;omega) (by omega) hsz0 ?_
 intro v5 w5 ho5 hg5 ha5
 have hb5:Below w0.heap.size w0 w5:=((Below.refl _ w0).drew).grown hg5 nlr (fun k hk=>by cases hk)
 have dc:=(hb5.cell (p:=⟨sb,1,none⟩) (by show sb<_;omega)).trans dc
 have n1:=(hb5.cell (p:=⟨D,1,none⟩) (by show D<_;omega)).trans n1
 have f1:=(hb5.frozen (p:=⟨D,1,none⟩) (by show D<_;omega)).trans f1
 obtain ⟨zg,zc,rfl,hz1',hz2',hz3,hz4,hz5⟩:=fork_row (B0:=D) H4.out.2.1.row.len ho5 ha5 ((hb5.block D (by omega)).trans H4.out.2.2.2.2.2.2.1)
 refine hK _ _ dc ?_
 clear hK
 simp only [Act.put,List.setIfInBounds_toArray,List.set_cons_succ,List.set_cons_zero]
 refine wpAnyH_tk 10 (some 51) (.pointer (some ⟨D,0,none⟩)) rfl rfl (by kernel_rfl) (by kernel_rfl) (by kernel_rfl) (fun _ _ _ h=>h) (.inl ⟨rfl,fun u hu => ?_⟩) dc ?_
 ·simp [go_sem]
 simp only [Act.put,List.setIfInBounds_toArray,List.set_cons_succ,List.set_cons_zero]
 refine wpAnyH_tk 11 (some 52) (.pointer (some ⟨D,1,none⟩)) rfl rfl (by kernel_rfl) (by kernel_rfl) (by kernel_rfl) (fun _ _ _ h=>h) (.inl ⟨rfl,fun u hu => ?_⟩) dc ?_
 ·simp [go_sem]
 simp only [Act.put,List.setIfInBounds_toArray,List.set_cons_succ,List.set_cons_zero]
 refine wpAnyH_one 12 (by kernel_rfl) rfl rfl fun K hK => ?_
 have HDk:=hid (And.intro hz1' (And.intro hz2' (And.intro hz3 (And.intro hz4 (And.intro hz5 hb5)))))
 clear hz1' hz2' hz3 hz4 hz5 hb5 ho5 ha5 hg5
 go_simp
 refine hK _ _ ((World.cell?_setCell_other _ ⟨D,1,none⟩ ⟨sb,1,none⟩ _ (by intro e;injection e with e _ _;omega)).trans dc) ?_
 clear hK
 refine wpAnyH_done (by kernel_rfl) ?_ _
 -- what lies in memory behind the copy
 obtain ⟨hz1',hz2',hz3,hz4,hz5,hb5⟩:=HDk.out
 obtain ⟨hi3,hK3,hk3,hl3,hn3,hb4,hN4,hs4,hK4⟩:=H4.out
 obtain ⟨hPS,hK2,hH⟩:=H2.out
 have hDw:=HD.out.2
 have hkD:Keeps (fun x=>x=D) w5 (w5.setCell ⟨D,1,none⟩ (.slice (some ⟨zg,0,none⟩) 32768 zc)):=(Keeps.refl (fun x=>x=D) w5).setCell (p:=⟨D,1,none⟩) (.inl rfl) _
 have hB5:Below w3.heap.size w3 w5:=by rw [hDw];exact hb4.trans (hb5.mono (by omega))
 have hB6:Below w3.heap.size w3 (w5.setCell ⟨D,1,none⟩ (.slice (some ⟨zg,0,none⟩) 32768 zc)):=hB5.trans (hkD.toBelow (fun k hk=>by omega) hB5.size)
 have hs6:(w5.setCell ⟨D,1,none⟩ (.slice (some ⟨zg,0,none⟩) 32768 zc)).heap.size=w5.heap.size:=by simp
 have hDl:D<w5.heap.size:=by have:=hb5.size;omega
 have hWZ:WZ (w5.setCell ⟨D,1,none⟩ (.slice (some ⟨zg,0,none⟩) 32768 zc)) w2.heap.size D w5.heap.size (.slice ob L.shownL.length cpb) L.shownL D zg zc img :=
  ⟨hi3.below' hB6,hn3,hDw ▸ hi3.old,hz4,hz5,hz3,⟨Nat.le_refl _,hz1',hDl,hz2'⟩,hDw ▸ hk3.size⟩
 have hK6:=hK3.below hB6
 have hB3:Below W.heap.size W w3:=below_keeps hPS.bel hk3 (fun k h=>h ▸ hPS.far.2.1)
 have hBW6:Below W.heap.size W (w5.setCell ⟨D,1,none⟩ (.slice (some ⟨zg,0,none⟩) 32768 zc)):=hB3.trans (hB6.mono hB3.size)
 have hlt2:=hK2.lt
 have H6:=hid (And.intro hWZ (And.intro hK6 (And.intro hBW6 (And.intro hl3 (And.intro hH (And.intro hPS.far (And.intro hPS.rch (And.intro hPS.prs (And.intro hPS.nar (And.intro hlt2 (And.intro hs6 hPS.bel.size)))))))))))
 have hN0:=HW.out.2.2.1
 have hsW:=HW.out.2.2.2
 have x0:(w5.setCell ⟨D,1,none⟩ (.slice (some ⟨zg,0,none⟩) 32768 zc)).cell? ⟨w.heap.size,0,none⟩=some (.int .i64 (r 0)):=(hBW6.cell (p:=⟨w.heap.size,0,none⟩) (by show w.heap.size<_;omega)).trans (hN0.cell 0)
 have x1:(w5.setCell ⟨D,1,none⟩ (.slice (some ⟨zg,0,none⟩) 32768 zc)).cell? ⟨w.heap.size,1,none⟩=some (.int .i64 (r 1)):=(hBW6.cell (p:=⟨w.heap.size,1,none⟩) (by show w.heap.size<_;omega)).trans (hN0.cell 1)
 have x2:(w5.setCell ⟨D,1,none⟩ (.slice (some ⟨zg,0,none⟩) 32768 zc)).cell? ⟨w.heap.size,2,none⟩=some (.int .i64 (r 2)):=(hBW6.cell (p:=⟨w.heap.size,2,none⟩) (by show w.heap.size<_;omega)).trans (hN0.cell 2)
 have x3:(w5.setCell ⟨D,1,none⟩ (.slice (some ⟨zg,0,none⟩) 32768 zc)).cell? ⟨w.heap.size,3,none⟩=some (.int .i64 (r 3)):=(hBW6.cell (p:=⟨w.heap.size,3,none⟩) (by show w.heap.size<_;omega)).trans (hN0.cell 3)
 have x4:(w5.setCell ⟨D,1,none⟩ (.slice (some ⟨zg,0,none⟩) 32768 zc)).cell? ⟨w.heap.size,4,none⟩=some (.int .i64 (r 4)):=(hBW6.cell (p:=⟨w.heap.size,4,none⟩) (by show w.heap.size<_;omega)).trans (hN0.cell 4)
 clear HDk H4 H2 HD HN hz1' hz2' hz3 hz4 hz5 hb5 hi3 hK3 hk3 hl3 hn3 hb4 hN4 hs4 hK4 hPS hK2 hH hDw hkD hB5 hB6 hDl hWZ hK6 hB3 hBW6 hlt2 hN0 hsW dc n1 f1 hsz0 hS0 n1d hne4 hsD hs6 hib hz0 hz1 hz2
 generalize hb3e:w5.heap.size=b3 at *
 generalize w5.setCell ⟨D,1,none⟩ (.slice (some ⟨zg,0,none⟩) 32768 zc)=w6 at *
 generalize hb1e:w2.heap.size=b1 at *
 clear hb3e hb1e
 go_wp2_with fail
 refine (HC.out _).mono ?_
 clear HC x0 x1 x2 x3 x4
 rintro e w7 ⟨m,rfl,hm,hb7⟩
 obtain ⟨hWZ,hK6,hBW6,hl3,hH,hfar,hrch,hprs,hnar,hlt2,hs6,hWb1⟩:=H6.out
 have hWZ7:=hWZ.below hb7
 have hK7:=hK6.below hb7
 have hBW7:Below W.heap.size W w7:=hBW6.trans (hb7.mono hBW6.size)
 have HDo:=hid (sdo_any sb l ⟨g,32768,img,t⟩ p L m hm.enc w7 hK7)
 obtain ⟨hq1,hq2⟩:=Cm.back hm.enc
 have e1:L.fLed 32 (encS m.ints)=L.stepL 32 m:=by simp [Led.fLed,hq1,hq2]
 have hfew:=hK7.led.few
 have HPt:=hid (fun (i k:Nat) h1 h2=>part_holds (m:=i) (k:=k) hH hK7.snd hfew (encS m.ints) h1 h2)
 rw [e1] at HPt
 have HFt:=hid (show fitsW 256 (L.fWr 32 (256,t) (encS m.ints)) from fFits (n:=256) (by omega) hK7.snd hfew t (encS m.ints))
 have HLn:=hid (fWr_len (t:=t) hK7.snd hfew (encS m.ints))
 have hse:=Led.stepE_range L 32 m
 have hM:∀ M,M=L\/M=L.stepL 32 m->M.Sound/\M.Nar/\M.kvs.length<=30:=by
  have h2:=fLed_sound hK7.snd 32 (encS m.ints)
  rw [e1] at h2
  have h3:=hnar.step hm 32
  have h4:=L.step_ps m 32
  rintro M (rfl | rfl)
  ·exact ⟨hK7.snd,hnar,by have:=Led.few_of hK7.inv hrch.small hnar hprs.2;omega⟩
  ·refine ⟨h2,h3,?_⟩
   have:=Led.few_of h2.inv (hrch.step hK7.inv hm).small h3 (z:=16) (by split at h4 <;> omega)
   omega
 have H7:=hid (And.intro hWZ7 (And.intro hBW7 (And.intro hl3 (And.intro hfar (And.intro hlt2 (And.intro hM (And.intro hH (And.intro hse (And.intro hs6 (And.intro hb7.size hWb1))))))))))
 clear H6 hWZ hK6 hBW6 hl3 hH hfar hrch hprs hnar hlt2 hs6 hWb1 hWZ7 hK7 hBW7 hq1 hq2 e1 hfew hse hM hb7 hm
 simp only at HDo
 generalize L.fWr 32 (256,t) (encS m.ints)=ws at *
 generalize L.fTn 32 t (encS m.ints)=t2 at *
 generalize L.stepE 32 m=se at *
 generalize L.stepN 32 m=sn at *
 generalize L.stepL 32 m=L2 at *
 go_wp2_with fail
 refine HDo.out.mono ?_
 clear HDo
 rintro e w8 ⟨vv,wv,rfl,-,hV8,hK8,hk8,-⟩
 obtain ⟨oa,cw,rfl,-⟩:=hV8.form
 obtain ⟨hWZ7,hBW7,hl3,hfar,hlt2,hM,hH,hse,hs6,hs7,hWb1⟩:=H7.out
 have hWZ8:=hWZ7.keeps (S:=fun x=>x=l) (fun x hx=>by subst hx;exact .inl hlt2.2.1) hk8
 have hBW8:=below_keeps hBW7 hk8 (fun k h=>h ▸ hfar.2.1)
 have HSh:=hid (shown_any sb l ⟨g,32768,img,t2⟩ p L2 w8 hK8)
 have hb38:b3<=w8.heap.size:=by have:=hk8.size;omega
 have H8:=hid (And.intro hWZ8 (And.intro hBW8 (And.intro hl3 (And.intro hfar (And.intro hlt2 (And.intro hM (And.intro hH (And.intro hse (And.intro hV8 (And.intro hK8 (And.intro hb38 hWb1)))))))))))
 clear H7 hWZ7 hBW7 hl3 hfar hlt2 hM hH hse hs6 hs7 hWb1 hWZ8 hBW8 hb38 hV8 hK8 hk8
 go_wp2_with fail
 refine HSh.out.mono ?_
 clear HSh
 rintro e w9 ⟨va,rfl,hi9,hK9,hk9,hl9,hn9⟩
 obtain ⟨oc,cpc,rfl,-⟩:=hi9.parts
 obtain ⟨hWZ8,hBW8,hl3,hfar,hlt2,hM,hH,hse,hV8,hK8,hb38,hWb1⟩:=H8.out
 have hWZ9:=hWZ8.keeps (S:=fun x=>x=l) (fun x hx=>by subst hx;exact .inl hlt2.2.1) hk9
 have hBW9:=below_keeps hBW8 hk9 (fun k h=>h ▸ hfar.2.1)
 have hV9:=hV8.keeps hk9 (fun x c hx e=>by subst e;obtain ⟨cl,tl⟩:=hK8.led.tag;exact tag_ne hx tl (by decide) rfl)
 have hcw:ws.length<=cw:=by
  rcases hV8 with ⟨rfl,hv⟩ | ⟨gw,cw',hv,_,hcw,_⟩
  ·simp
  ·injection hv with _ _ h2
   omega
 have hwl:=HLn.out
 have HPk1:=hid (show ∀ u,Calls prog 18 #[.int .i64 ca,.int .i64 ((ws.length:Int)+1)] u fun e w'=>∃ z:Nat,e=.returned (.int .i64 z)/\z<ws.length+1/\w'=u from fun u=>pick_any ca hca (ws.length+1) (by omega) (by omega) u)
 have HPk2:=hid (pick_any cb hcb 129 (by omega) (by omega))
 have H9:=hid (And.intro hWZ9 (And.intro hBW9 (And.intro hl3 (And.intro hfar (And.intro hlt2 (And.intro hM (And.intro hH (And.intro hV9 (And.intro hK9 (And.intro hi9 (And.intro hl9 (And.intro hn9 (And.intro hb38 (And.intro hk9.size hWb1))))))))))))))
 have hse1:(se == -1)=false:=beq_eq_false_iff_ne.2 (by omega)
 clear H8 hWZ8 hBW8 hl3 hfar hlt2 hM hH hse hV8 hK8 hb38 hWb1 hWZ9 hBW9 hV9 hK9 hi9 hl9 hn9 hk9 HLn
 go_wp2_with fail
 refine (HPk1.out _).mono ?_
 clear HPk1
 rintro e w9 ⟨i,rfl,hi,rfl⟩
 go_wp2_with fail
 refine (HPk2.out _).mono ?_
 clear HPk2
 rintro e w9 ⟨k,rfl,hk,rfl⟩
 obtain ⟨hWZ9,hBW9,hl3,hfar,hlt2,hM,hH,hV9,hK9,hi9,hl9,hn9,hb38,hs9,hWb1⟩:=H9.out
 have hsl:=slice_to oa ws.length cw i (by omega) w9
 have HWr:=hid (write_part sb 32768 _ p img g _ hK9.cap oa cw ws HFt.out i k (by omega) (by omega) w9 hK9.box hK9.row hV9)
 have hcase:∃ M tM,Holds (wrJ img (ws.take i) k i) 256 tM M.text/\((M=L/\i<ws.length)\/M=L2):=by
  rcases HPt.out i k (by omega) (by omega) with ⟨h1,h2⟩ | h1
  ·exact ⟨L,t,h1,.inl ⟨rfl,h2⟩⟩
  ·exact ⟨L2,t2,h1,.inr rfl⟩
 obtain ⟨M,tM,hHM,hMc⟩:=hcase
 have hMM:=hM M (hMc.elim (fun h=>.inl h.1) (fun h=>.inr h))
 have hML:=hM L (.inl rfl)
 have H10:=hid (And.intro hWZ9 (And.intro hBW9 (And.intro hl3 (And.intro hfar (And.intro hlt2 (And.intro hMM (And.intro hML (And.intro hH (And.intro hK9 (And.intro hi9 (And.intro hl9 (And.intro hn9 (And.intro hb38 (And.intro hs9 (And.intro hWb1 (And.intro hHM (And.intro hMc hk)))))))))))))))))
 generalize wrJ img (ws.take i) k i=img2 at *
 have hi2:i<=cw:=by omega
 clear H9 HPt HFt hWZ9 hBW9 hl3 hfar hlt2 hM hH hV9 hK9 hi9 hl9 hn9 hb38 hs9 hWb1 hHM hMc hMM hML
 go_wp2_with fail
 refine HWr.out.mono ?_
 clear HWr hsl
 rintro e w12 ⟨rfl,hR12,hk12⟩
 obtain ⟨hWZ9,hBW9,hl3,hfar,hlt2,hMM,hML,hH,hK9,hi9,hl9,hn9,hb38,hs9,hWb1,hHM,hMc,hk⟩:=H10.out
 have hWZ12:=hWZ9.keeps (S:=fun x=>x=g) (fun x hx=>by subst hx;exact .inl hlt2.2.2) hk12
 have hBW12:=below_keeps hBW9 hk12 (fun k h=>h ▸ hfar.2.2)
 have hne9:=hK9.ne
 have hb18:b1<=w8.heap.size:=by have:=hWZ9.zl;have:=hWZ9.le;omega
 have hi12:=hi9.mid (S:=fun x=>x=g) hn9 hi9.old (fun x hx=>by subst hx;have:=hlt2.2.2;exact .inl (by omega)) hk12
 have HO:=hid (sopen_any sb g 32768 _ p img2 tM M hK9.cap hHM hMM.1 (by omega) w12 (keeps_same hk12 hne9.2.1 hK9.box) hR12)
 have H12:=hid (And.intro hWZ12 (And.intro hBW12 (And.intro hl3 (And.intro hfar (And.intro hlt2 (And.intro hMM (And.intro hML (And.intro hH (And.intro hi12 (And.intro hi9.old (And.intro hl9 (And.intro hn9 (And.intro hb38 (And.intro hs9 (And.intro hWb1 (And.intro hHM (And.intro hMc (And.intro hk (And.intro hb18 hk12.size)))))))))))))))))))
 clear H10 hWZ9 hBW9 hl3 hfar hlt2 hMM hML hH hK9 hi9 hl9 hn9 hb38 hs9 hWb1 hHM hMc hk hWZ12 hBW12 hne9 hb18 hi12 hR12 hk12
 go_wp2_with fail
 refine HO.out.mono ?_
 clear HO
 rintro e w13 ⟨l2,rfl,hK13,hl2,hk13⟩
 have HSh:=hid (shown_any sb l2 ⟨g,32768,img2,tM⟩ p M w13 hK13)
 have H13:=hid (And.intro hl2 hk13)
 clear hK13 hl2 hk13
 go_wp2_with fail
 refine HSh.out.mono ?_
 clear HSh
 rintro e w14 ⟨vf,rfl,hi14,hK14,hk14,hl14,hn14⟩
 obtain ⟨of,cpf,rfl,-⟩:=hi14.parts
 obtain ⟨hWZ12,hBW12,hl3,hfar,hlt2,hMM,hML,hH,hi12,ho9,hl9,hn9,hb38,hs9,hWb1,hHM,hMc,hk,hb18,hs12⟩:=H12.out
 obtain ⟨hl2,hk13⟩:=H13.out
 have hWZ14:=(hWZ12.keeps (S:=fun x=>x=sb) (fun x hx=>by subst hx;exact .inl hlt2.1) hk13).keeps (S:=fun x=>x=l2) (fun x hx=>by subst hx;exact .inr (by omega)) hk14
 have hBW14:=below_keeps (below_keeps hBW12 hk13 (fun k h=>h ▸ hfar.1)) hk14 (fun k h=>by subst h;omega)
 have hi14a:=(hi12.mid (S:=fun x=>x=sb) hn9 ho9 (fun x hx=>by subst hx;have:=hlt2.1;exact .inl (by omega)) hk13).mid (S:=fun x=>x=l2) hn9 ho9 (fun x hx=>by subst hx;exact .inr (by omega)) hk14
 have HQ1:=hid (same_both _ _ M.shownL L.shownL w14 hi14 hWZ14.bf hl14 hl3)
 have HQ2:=hid (fun nd=>same_both _ _ M.shownL L2.shownL (w14.drewN nd) (hi14.drewN nd) (hi14a.drewN nd) hl14 hl9)
 have hsz14:b3<=w14.heap.size/\l2<w14.heap.size:=by have:=hk13.size;have:=hk14.size;have:=hK14.lt;exact ⟨by omega,this.2.1⟩
 have H14:=hid (And.intro hWZ14 (And.intro hBW14 (And.intro hl3 (And.intro hfar (And.intro hlt2 (And.intro hMM (And.intro hML (And.intro hH (And.intro hWb1 (And.intro hHM (And.intro hMc (And.intro hk (And.intro hK14 (And.intro hsz14 hl2))))))))))))))
 have HS12:=hid (And.intro hs12 (And.intro hs9 hb38))
 clear H12 H13 hWZ12 hBW12 hl3 hfar hlt2 hMM hML hH hi12 ho9 hl9 hn9 hb38 hs9 hWb1 hHM hMc hk hb18 hs12 hl2 hk13 hi14 hK14 hk14 hl14 hn14 hWZ14 hBW14 hi14a hsz14
 go_wp2_with fail
 refine HQ1.out.mono ?_
 clear HQ1
 rintro e w15 ⟨zx,rfl,hzx,nd,rfl⟩
 go_wp2_with fail
 refine (HQ2.out nd).mono ?_
 clear HQ2
 rintro e w16 ⟨zy,rfl,hzy,nd2,rfl⟩
 obtain ⟨hWZ14,hBW14,hl3,hfar,hlt2,hMM,hML,hH,hWb1,hHM,hMc,hk,hK14,hsz14,hl2⟩:=H14.out
 have hbd:Below w14.heap.size w14 ((w14.drewN nd).drewN nd2):=below_drewN (below_drewN (Below.refl _ _) nd) nd2
 have hWZ16:=hWZ14.below hbd
 have hK16:=hK14.below hbd
 have hBW16:=hBW14.trans (hbd.mono hBW14.size)
 have hsz16:w14.heap.size<=((w14.drewN nd).drewN nd2).heap.size:=hbd.size
 generalize (w14.drewN nd).drewN nd2=w16 at *
 have hfl:M.kvs.length<=31:=by have:=hMM.2.2;omega
 have hnw:=(Led.new9 hMM.2.1 hfl).1
 have hak:=Led.ask9 hMM.2.1 hfl
 have HD1:=hid (fun mv hv=>done_lit (L':=M.stepL 32 Led.cmNew) (zs:=M.stepN 32 Led.cmNew) (mv:=mv) Led.cmNew (by decide +kernel) hv hnw rfl rfl w16 ⟨img2,tM,hK16,hHM⟩)
 have H16:=hid (And.intro hWZ16 (And.intro hBW16 (And.intro hl3 (And.intro hfar (And.intro hlt2 (And.intro hML (And.intro hH (And.intro hWb1 (And.intro hMc (And.intro hk (And.intro hsz14 (And.intro hl2 (And.intro hak hsz16)))))))))))))
 have hzxy:(M=L/\i<ws.length/\zx=true)\/zy=true:=by
  rcases hMc with ⟨h1,h2⟩ | h1
  ·exact .inl ⟨h1,h2,hzx (by rw [h1])⟩
  ·exact .inr (hzy (by rw [h1]))
 have HZ:=hid hzxy
 clear H14 hWZ14 hBW14 hl3 hfar hlt2 hMM hML hH hWb1 hHM hMc hk hK14 hsz14 hl2 hbd hWZ16 hK16 hBW16 hsz16 hfl hnw hak hzx hzy hzxy
 go_wp2_with fail
 refine (HD1.out _ rfl).mono ?_
 clear HD1
 rintro e w17 ⟨v17,rfl,-,hS17,hk17,-⟩
 obtain ⟨img3,t3,hK17,hH3⟩:=hS17
 have HO:=hid (sopen_any sb g 32768 _ p img3 t3 _ hK17.cap hH3 hK17.snd hK17.led.few w17 hK17.box hK17.row)
 have H17:=hid (And.intro hk17 hH3)
 clear hk17 hH3 hK17
 go_wp2_with fail
 refine HO.out.mono ?_
 clear HO
 rintro e w18 ⟨l3,rfl,hK18,hl3n,hk18⟩
 have HD2:=hid (fun mv hv=>done_lit (L':=(M.stepL 32 Led.cmNew).stepL 32 Led.cmAsk) (zs:=(M.stepL 32 Led.cmNew).stepN 32 Led.cmAsk) (mv:=mv) Led.cmAsk (by decide +kernel) hv (H16.out.2.2.2.2.2.2.2.2.2.2.2.2.1) rfl rfl w18 ⟨img3,t3,hK18,H17.out.2⟩)
 have H18:=hid (And.intro hl3n hk18)
 clear hK18 hl3n hk18
 go_wp2_with fail
 refine (HD2.out _ rfl).mono ?_
 clear HD2
 rintro e w19 ⟨v19,rfl,-,-,hk19,-⟩
 obtain ⟨hWZ16,hBW16,hl3,hfar,hlt2,hML,hH,hWb1,hMc,hk,hsz14,hl2,hak,hsz16⟩:=H16.out
 obtain ⟨hk17,hH3⟩:=H17.out
 obtain ⟨hl3n,hk18⟩:=H18.out
 obtain ⟨hs12,hs9,hb38⟩:=HS12.out
 have hzl0:=hWZ16.zl
 have hle0:=hWZ16.le
 have hz16:=hk17.size
 have hz17:=hk18.size
 have hz18:=hk19.size
 have hWZ19:=((hWZ16.keeps (S:=fun x=>x=l2\/x=g) (fun x hx=>hx.elim (fun h=>.inr (by omega)) (fun h=>.inl (by rw [h];exact hlt2.2.2))) hk17).keeps (S:=fun x=>x=sb) (fun x hx=>by subst hx;exact .inl hlt2.1) hk18).keeps (S:=fun x=>x=l3\/x=g) (fun x hx=>hx.elim (fun h=>.inr (by omega)) (fun h=>.inl (by rw [h];exact hlt2.2.2))) hk19
 have hBW19:=below_keeps (below_keeps (below_keeps hBW16 hk17 (fun k h=>h.elim (fun h=>by omega) (fun h=>by rw [h];exact hfar.2.2))) hk18 (fun k h=>h ▸ hfar.1)) hk19 (fun k h=>h.elim (fun h=>by omega) (fun h=>by rw [h];exact hfar.2.2))
 have hzl:=hWZ19.zl
 have hD19:D<=w19.heap.size:=by omega
 have hWD:W.heap.size<=D:=by have:=hWZ19.le;omega
 have HO:=hid (sopen_any D zg zc none 0 img t L hWZ19.cap hH hML.1 (by have:=hML.2.2;omega) w19 hWZ19.zx hWZ19.zr)
 have H19:=hid (And.intro hWZ19 (And.intro hBW19 (And.intro hl3 (And.intro hD19 hWD))))
 clear H16 H17 H18 HS12 hWZ16 hBW16 hl3 hfar hlt2 hML hH hWb1 hMc hsz14 hl2 hak hsz16 hk17 hH3 hl3n hk18 hs12 hs9 hb38 hz16 hz17 hz18 hWZ19 hBW19 hzl hD19 hWD hk19 hzl0 hle0
 go_wp2_with fail
 refine HO.out.mono ?_
 clear HO
 rintro e w20 ⟨l4,rfl,hK20,hl4,hk20⟩
 have HSh:=hid (shown_any D l4 ⟨zg,zc,img,t⟩ 0 L w20 hK20)
 have H20:=hid (And.intro hl4 hk20)
 clear hK20 hl4 hk20
 go_wp2_with fail
 refine HSh.out.mono ?_
 clear HSh
 rintro e w21 ⟨vz,rfl,hi21,hK21,hk21,hl21,hn21⟩
 obtain ⟨oz,cpz,rfl,-⟩:=hi21.parts
 obtain ⟨hWZ19,hBW19,hl3,hD19,hWD⟩:=H19.out
 obtain ⟨hl4,hk20⟩:=H20.out
 have hvb:=(hWZ19.bf.mid (S:=fun x=>x=D) hWZ19.bn hWZ19.bo (fun x hx=>by subst hx;exact .inr nlr) hk20).mid (S:=fun x=>x=l4) hWZ19.bn hWZ19.bo (fun x hx=>by subst hx;exact .inr (by omega)) hk21
 have hBW21:=below_keeps (below_keeps hBW19 hk20 (fun k h=>by subst h;exact hWD)) hk21 (fun k h=>by subst h;omega)
 have HQ3:=hid (same_any _ _ L.shownL w21 hi21 hvb hl3)
 have H21:=hid hBW21
 clear H19 H20 hWZ19 hBW19 hl3 hD19 hWD hl4 hk20 hi21 hK21 hk21 hl21 hn21 hvb hBW21
 go_wp2_with fail
 refine HQ3.out.mono ?_
 clear HQ3
 rintro e w22 ⟨rfl,nd3,rfl⟩
 have hbE:Below w.heap.size w (w21.drewN nd3):=HW.out.1.trans ((below_drewN H21.out nd3).mono HW.out.1.size)
 have HE:=hid hbE
 clear hbE H21 HW
 rcases HZ.out with ⟨-,hlt,rfl⟩ | rfl
 ·have hlt':(i:Int)<(ws.length:Int):=by omega
  clear HZ
  cases zy with
  | false =>
   go_wp2
   go_ret
   exact ⟨rfl,HE.out⟩
  | true =>
   go_wp2
   go_ret
   exact ⟨rfl,HE.out⟩
 ·clear HZ
  cases zx with
  | false =>
   go_wp2
   go_ret
   exact ⟨rfl,HE.out⟩
  | true =>
   go_wp2
   go_ret
   exact ⟨rfl,HE.out⟩
end
end Go.Proofs.YtalncjhldkcmaaaGreat
