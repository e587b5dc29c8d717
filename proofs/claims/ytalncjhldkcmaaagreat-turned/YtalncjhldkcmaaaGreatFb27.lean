import Derived.Test.YtalncjhldkcmaaaGreatFb23
import Derived.Deep.RegionLawGrows
import Derived.Test.YtalncjhldkcmaaaGreatFb00
namespace Go.Proofs.YtalncjhldkcmaaaGreat
open _root_.Go.Proofs.Tryz
set_option maxHeartbeats 16000000
set_option maxRecDepth 8000
section
open Go.RowKit
def insAt (ts:List (Nat->Int)) (id:Int):Nat:=ts.findIdx fun t=>!decide (t 0<id)
def addT (ts:List (Nat->Int)) (t:Nat->Int):List (Nat->Int):=ts.take (insAt ts (t 0))++[t]++ts.drop (insAt ts (t 0))
theorem insAt_hit {ts:List (Nat->Int)} {id:Int} {k:Nat} (hk:k<ts.length) (h:¬ ts[k] 0<id) (hb:∀ j (hj:j<k),ts[j] 0<id):insAt ts id=k:=by
 unfold insAt
 exact (List.findIdx_eq hk).2 ⟨by simpa using h,fun j hj=>by have:=hb j hj;simp [this]⟩
theorem insAt_end {ts:List (Nat->Int)} {id:Int} (hb:∀ j (hj:j<ts.length),ts[j] 0<id):insAt ts id=ts.length:=by
 unfold insAt
 refine List.findIdx_eq_length.2 (fun t ht => ?_)
 obtain ⟨j,hj,rfl⟩:=List.getElem_of_mem ht
 have:=hb j hj
 simp [this]
theorem Tryz.infoTube:(prog.info? 100).map (fun i=>(i.zero,i.size,i.bytes))=some (some (.agg #[.int .i64 0,.int .i64 0,.int .i64 0,.int .i64 0,.int .i64 0,.int .i64 0,.int .i64 0,.int .i64 0,.int .i64 0,.int .i64 0,.int .i64 0]),11,88):=by kernel_rfl
theorem t_cells (w:World) (t:Nat->Int):∀ j u,(recCells 11 t)[j]? = some u->(w.alloc (.cells #[.int .i64 (t 0),.int .i64 (t 1),.int .i64 (t 2),.int .i64 (t 3),.int .i64 (t 4),.int .i64 (t 5),.int .i64 (t 6),.int .i64 (t 7),.int .i64 (t 8),.int .i64 (t 9),.int .i64 (t 10)] 100)).cell? ((⟨w.heap.size,0,none⟩:Addr).add j)=some u:=by
 intro j u hj
 rw [addr_add,World.cell?_alloc_new]
 have:recCells 11 t=[.int .i64 (t 0),.int .i64 (t 1),.int .i64 (t 2),.int .i64 (t 3),.int .i64 (t 4),.int .i64 (t 5),.int .i64 (t 6),.int .i64 (t 7),.int .i64 (t 8),.int .i64 (t 9),.int .i64 (t 10)]:=rfl
 rw [this] at hj
 rw [<- hj];simp
theorem recs_oneCell {k:Nat} {l:List (Nat->Int)}:∀ u∈recs k l,u.oneCell'=true:=by
 intro u hu
 simp only [recs,List.mem_flatMap] at hu
 obtain ⟨t,_,ht⟩:=hu
 exact rec_one u ht
theorem addr_add2 (g o j:Nat):((⟨g,o,none⟩:Addr).add j)=⟨g,o+j,none⟩:=by unfold Addr.add;split <;> simp_all
theorem BkAt.newTubes {S:Nat->Prop} {w w1:World} {b:Nat} {vt vt' vp:Value} {k:Bk} (h:BkAt w b vt vp k) (hk:Keeps S w w1) (hsb:¬ S b) (hsp:∀ g,vp.ownBlock=some g->¬ S g) {ts:List (Nat->Int)} (hr:Recs w1 100 11 vt' ts)
  (hd:∀ g,vt'.ownBlock=some g->g≠b/\vp.ownBlock≠some g) (hf:ts.length<1000000):BkAt (w1.setCell ⟨b,10,none⟩ vt') b vt' vp (k.withTubes ts):=by
 have hlt1:b<w1.heap.size:=Nat.lt_of_lt_of_le h.lt hk.size
 have hc10:w1.cell? ⟨b,10,none⟩=some vt:=(hk.cell (p:=⟨b,10,none⟩) h.lt hsb).trans h.ct
 have ho:∀ j,j≠10->(w1.setCell ⟨b,10,none⟩ vt').cell? ⟨b,j,none⟩=w.cell? ⟨b,j,none⟩:=fun j hj =>
  (World.cell?_setCell_other w1 ⟨b,10,none⟩ ⟨b,j,none⟩ _ (by intro h';injection h' with _ h2 _;exact hj h2.symm)).trans (hk.cell (p:=⟨b,j,none⟩) h.lt hsb)
 refine ⟨by simpa using hlt1,fun j hj=>(ho j (by omega)).trans (h.side j hj),World.cell?_setCell_same w1 ⟨b,10,none⟩ vt' hc10,(ho 11 (by omega)).trans h.cp,fun j=>by rw [World.frozen?_setCell];exact (hk.frozen (p:=⟨b,j,none⟩) h.lt hsb).trans (h.fz j),?_,?_,?_,h.np,?_,?_⟩
 ·exact hr.setOther (fun e=>(hd b e).1 rfl) _
 ·exact (h.poured.keeps hk hsp).setOther (fun e=>h.np e) _
 ·intro e;exact (hd b e).1 rfl
 ·intro g hg e;exact (hd g hg).2 e
 ·exact ⟨hf,h.few.2⟩
set_option maxRecDepth 100000 in
theorem badd_any (b:Nat) (vp:Value) (g cap:Nat) (k:Bk) (t:Nat->Int) (w:World) (h:BkAt w b (.slice (some ⟨g,0,none⟩) k.tubes.length cap) vp k) (hcap:k.tubes.length<=cap) (hroom:k.tubes.length<900000) :
  Calls prog 94 #[.pointer (some ⟨b,0,none⟩),.agg #[.int .i64 (t 0),.int .i64 (t 1),.int .i64 (t 2),.int .i64 (t 3),.int .i64 (t 4),.int .i64 (t 5),.int .i64 (t 6),.int .i64 (t 7),.int .i64 (t 8),.int .i64 (t 9),.int .i64 (t 10)]] w fun e w'=>e=.returned (.tuple #[])/\∃ vt',BkAt w' b vt' vp (k.withTubes (addT k.tubes t))/\(∀ g,vt'.ownBlock=some g->w.heap.size<=g)/\Keeps (fun g=>g=b) w w':=by
 have hct:=h.ct
 have hbl:=h.lt
 have hT0:=HasR.new11 w 100 t
 have hb0:=(Below.refl w.heap.size w).alloc nlr (.cells #[.int .i64 (t 0),.int .i64 (t 1),.int .i64 (t 2),.int .i64 (t 3),.int .i64 (t 4),.int .i64 (t 5),.int .i64 (t 6),.int .i64 (t 7),.int .i64 (t 8),.int .i64 (t 9),.int .i64 (t 10)] 100)
 have hK0:=h.below hb0
 have hz0:(w.alloc (.cells #[.int .i64 (t 0),.int .i64 (t 1),.int .i64 (t 2),.int .i64 (t 3),.int .i64 (t 4),.int .i64 (t 5),.int .i64 (t 6),.int .i64 (t 7),.int .i64 (t 8),.int .i64 (t 9),.int .i64 (t 10)] 100)).heap.size=w.heap.size+1:=by simp
 go_enter func94,ntmps94
 go_wp2_with fail
 generalize w.alloc (.cells #[.int .i64 (t 0),.int .i64 (t 1),.int .i64 (t 2),.int .i64 (t 3),.int .i64 (t 4),.int .i64 (t 5),.int .i64 (t 6),.int .i64 (t 7),.int .i64 (t 8),.int .i64 (t 9),.int .i64 (t 10)] 100)=w1 at *
 go_loopw [4] (fun i wr=>∃ m nd:Nat,m<=k.tubes.length/\i=.int .i64 m/\wr=w1.drewN nd/\∀ j (hj:j<m) (hj':j<k.tubes.length),k.tubes[j] 0<t 0) (fun i _=>k.tubes.length - (intOf i).toNat)
 case atStart=>exact ⟨0,0,Nat.zero_le _,rfl,rfl,fun j hj=>by omega⟩
 case round =>
  obtain ⟨m,nd,hm,rfl,rfl,hno⟩:=hrel
  have HNo:=hid hno
  clear hno
  have hc10:=hK0.ct
  have hu0:=hT0.1 0 (by omega)
  by_cases hlt:m<k.tubes.length
  ·obtain ⟨g',e',_,_,hgl,t0,_⟩:=hK0.tube hlt
   injection e' with e';injection e' with e'
   subst e'
   have hlt':(m:Int)<(k.tubes.length:Int):=by omega
   by_cases hid0:k.tubes[m] 0<t 0
   ·have HNe:Hid (∀ j (hj:j<m+1) (hj':j<k.tubes.length),k.tubes[j] 0<t 0):=by
     intro j hj hj'
     by_cases e:j=m
     ·subst e;exact hid0
     ·exact HNo.out j (by omega) hj'
    generalize k.tubes[m] 0=z at *
    go_wp2_with fail
    go_quiet (fail)
    go_wp2
    go_roundw
    case rel=>exact ⟨m+1,_,by omega,by go_num,rfl,HNe.out⟩
    case measure=>simp [intOf];omega
   ·have HI:=hid (insAt_hit hlt hid0 (fun j hj=>HNo.out j hj (by omega)))
    have hid0':decide (k.tubes[m] 0<t 0)=false:=by simpa using hid0
    generalize k.tubes[m] 0=z at *
    go_wp2_with fail
    go_quiet (fail)
    rw [World.drewN_drewN]
    have HIm:Hid (insAt k.tubes (t 0)=m):=hid (HI.out)
    clear HI
    have hKq:BkAt (w1.drewN (nd+nq)) b (.slice (some ⟨g,0,none⟩) k.tubes.length cap) vp k:=hK0.below (below_drewN (Below.refl _ _) (nd+nq))
    have hTq:HasR 11 (w1.drewN (nd+nq)) w.heap.size t:=hT0.below (B:=w1.heap.size) (below_drewN (Below.refl _ _) (nd+nq)) (by omega)
    have hbq:Below w.heap.size w (w1.drewN (nd+nq)):=below_drewN hb0 (nd+nq)
    have hzq:(w1.drewN (nd+nq)).heap.size=w.heap.size+1:=hz0
    generalize w1.drewN (nd+nq)=wq at *
    clear hK0 hT0 hb0 hz0 hc10 hu0
    have hcq:=hKq.ct
    have hown0:wq.ownsRow 0 100 11 (.slice (some ⟨g,0,none⟩) k.tubes.length cap) k.tubes.length (recs 11 k.tubes):=hKq.tubes
    obtain ⟨it,hit,hz0,hz1,hz2⟩:=info_parts Tryz.infoTube
    have hsz1:=hzq
    have hl1:(recs 11 (k.tubes.take m)).length=m*11:=by rw [recs_len,List.length_take];congr 1;omega
    have HN1:Hid (∀ j u,(recs 11 (k.tubes.take m))[j]? = some u->wq.cell? ((⟨g,0,none⟩:Addr).add j)=some u):=by
     intro j u hj
     refine hown0.cells (g:=g) rfl j u ?_
     have e:recs 11 k.tubes=recs 11 (k.tubes.take m)++recs 11 (k.tubes.drop m):=by rw [<- recs_append,List.take_append_drop]
     rw [e,List.getElem?_append_left]
     ·exact hj
     ·exact (List.getElem?_eq_some_iff.1 hj).1
    have hmc:m<=cap:=by omega
    have hgw:g<w.heap.size:=h.own_lt (.inr (.inl rfl))
    have hfq:=hKq.fz 10
    have hl2:(recs 11 (k.tubes.drop m)).length=(k.tubes.length - m)*11:=by rw [recs_len,List.length_drop]
    have HN2:Hid (∀ (w5:World),Below (w.heap.size+1) wq w5->∀ j u,(recs 11 (k.tubes.drop m))[j]? = some u->w5.cell? ((⟨g,m*11,none⟩:Addr).add j)=some u):=by
     intro w5 hk2 j u hj
     rw [addr_add2]
     refine (hk2.cell (p:=⟨g,m*11+j,none⟩) (by show g<_;omega)).trans ?_
     have:=hown0.cells (g:=g) rfl (m*11+j) u (by
      have e:recs 11 k.tubes=recs 11 (k.tubes.take m)++recs 11 (k.tubes.drop m):=by rw [<- recs_append,List.take_append_drop]
      rw [e,List.getElem?_append_right (by omega),hl1,Nat.add_sub_cancel_left];exact hj)
     rw [addr_add] at this;exact this
    have hbq2:=hKq.lt
    go_wp2_with (first
     | (at_builtin;refine wpList_append_own _ rfl (.tmp 28) (.tmp 34) 91 rfl (w.heap.size+1) 100 it _ 11 88 underlying91 hit hz0 hz1 hz2 rfl (by decide) (.slice none 0 0) 0 [] rfl (World.ownsRow_nil _ _ _ _) ⟨g,0,none⟩ m cap (recs 11 (k.tubes.take m)) rfl hl1 HN1.out recs_oneCell (by unfold maxLen;omega) (by omega) (by omega) ?_;intro v1 w3 hown1 hgrow1 _;have hk1:Below (w.heap.size+1) wq w3:=(Below.refl _ wq).grown hgrow1 (by omega) (fun k hk=>by cases hk);have hT3:=hTq.below hk1 (by omega);have hsz3:=hk1.size;have x0:=hT3.1 0 (by omega);have x1:=hT3.1 1 (by omega);have x2:=hT3.1 2 (by omega);have x3:=hT3.1 3 (by omega);have x4:=hT3.1 4 (by omega);have x5:=hT3.1 5 (by omega);have x6:=hT3.1 6 (by omega);have x7:=hT3.1 7 (by omega);have x8:=hT3.1 8 (by omega);have x9:=hT3.1 9 (by omega);have x10:=hT3.1 10 (by omega))
     | (at_builtin;refine wpList_append_own _ rfl (.tmp 36) (.tmp 38) 91 rfl (w.heap.size+1) 100 it _ 11 88 underlying91 hit hz0 hz1 hz2 rfl (by decide) v1 (0+m) ([]++recs 11 (k.tubes.take m)) rfl (hown1.alloc _) ⟨w3.heap.size,0,none⟩ 1 1 (recCells 11 t) rfl rfl (t_cells w3 t) rec_one (by unfold maxLen;omega) (by omega) (by simp;omega) ?_;intro v2 w5 hown2 hgrow2 _;obtain ⟨g2,cap2,rfl⟩:=own_form hown2;simp only [Nat.zero_add,List.nil_append] at hown2;have hk2:Below (w.heap.size+1) wq w5:=(hk1.alloc (by omega) _).grown hgrow2 (by simp;omega) (fun k hk=>(hown1.lt k hk).1);have hc5:=(hk2.cell (p:=⟨b,10,none⟩) (by show b<_;omega)).trans hcq;have hsz5:=hk2.size)
     | (at_builtin;refine wpList_append_own _ rfl (.tmp 41) (.tmp 47) 91 rfl (w.heap.size+1) 100 it _ 11 88 underlying91 hit hz0 hz1 hz2 rfl (by decide) (.slice (some ⟨g2,0,none⟩) (m+1) cap2) (m+1) (recs 11 (k.tubes.take m)++recCells 11 t) rfl hown2 ⟨g,m*11,none⟩ (k.tubes.length - m) (cap - m) (recs 11 (k.tubes.drop m)) rfl hl2 (HN2.out w5 hk2) recs_oneCell (by unfold maxLen;omega) (by omega) (by omega) ?_;intro v3 w6 hown3 hgrow3 _;have hone:m+1+(k.tubes.length - m)=k.tubes.length+1:=(by omega);rw [hone] at hown3;obtain ⟨g3,cap3,rfl⟩:=own_form hown3;have hk3:Below (w.heap.size+1) wq w6:=hk2.grown hgrow3 (by omega) (fun k hk=>(hown2.lt k hk).1);have hc6:=(hk3.cell (p:=⟨b,10,none⟩) (by show b<_;omega)).trans hcq;have hf6:=(hk3.frozen (p:=⟨b,10,none⟩) (by show b<_;omega)).trans hfq))
    go_end0
    have hR:Recs w6 100 11 (.slice (some ⟨g3,0,none⟩) (k.tubes.length+1) cap3) (addT k.tubes t):=by
     have el:(addT k.tubes t).length=k.tubes.length+1:=by unfold addT;rw [HIm.out];simp;omega
     have er:recs 11 (addT k.tubes t)=recs 11 (k.tubes.take m)++recCells 11 t++recs 11 (k.tubes.drop m):=by
      unfold addT;rw [HIm.out,recs_append,recs_append,recs_one]
     unfold Recs
     rw [el,er]
     exact own_lower hown3
    have hg3:=(hown3.lt g3 rfl).1
    have hkw:Keeps (fun _=>False) wq w6:=(Keeps.refl _ wq).below hk3 (by omega)
    refine ⟨rfl,_,hKq.newTubes hkw (fun e=>e) (fun _ _ e=>e) hR ?_ ?_,?_,?_⟩
    ·intro g' hg'
     have e3:g3=g':=by simpa [Value.ownBlock] using hg'
     refine ⟨by omega,fun e => ?_⟩
     have:=h.own_lt (.inr (.inr e))
     omega
    ·show (addT k.tubes t).length<_
     unfold addT;rw [HIm.out];simp;omega
    ·intro g' hg'
     have e3:g3=g':=by simpa [Value.ownBlock] using hg'
     omega
    ·exact (((Keeps.refl (fun g=>g=b) w).below hbq nlr).below (hk3.mono (Nat.le_succ _)) nlr).set1 rfl _ _
  ·have hme:m=k.tubes.length:=by omega
   have HI:Hid (insAt k.tubes (t 0)=m):=by rw [hme];exact insAt_end (fun j hj=>HNo.out j (by omega) hj)
   have hlt2:decide ((m:Int)<(k.tubes.length:Int))=false:=by simp;omega
   clear hme
   by_cases hcm:m<cap
   ·go_wp2_with fail
    go_quiet (fail)
    rw [World.drewN_drewN]
    have HIm:Hid (insAt k.tubes (t 0)=m):=hid (HI.out)
    clear HI
    have hKq:BkAt (w1.drewN (nd+nq)) b (.slice (some ⟨g,0,none⟩) k.tubes.length cap) vp k:=hK0.below (below_drewN (Below.refl _ _) (nd+nq))
    have hTq:HasR 11 (w1.drewN (nd+nq)) w.heap.size t:=hT0.below (B:=w1.heap.size) (below_drewN (Below.refl _ _) (nd+nq)) (by omega)
    have hbq:Below w.heap.size w (w1.drewN (nd+nq)):=below_drewN hb0 (nd+nq)
    have hzq:(w1.drewN (nd+nq)).heap.size=w.heap.size+1:=hz0
    generalize w1.drewN (nd+nq)=wq at *
    clear hK0 hT0 hb0 hz0 hc10 hu0
    have hcq:=hKq.ct
    have hown0:wq.ownsRow 0 100 11 (.slice (some ⟨g,0,none⟩) k.tubes.length cap) k.tubes.length (recs 11 k.tubes):=hKq.tubes
    obtain ⟨it,hit,hz0,hz1,hz2⟩:=info_parts Tryz.infoTube
    have hsz1:=hzq
    have hl1:(recs 11 (k.tubes.take m)).length=m*11:=by rw [recs_len,List.length_take];congr 1;omega
    have HN1:Hid (∀ j u,(recs 11 (k.tubes.take m))[j]? = some u->wq.cell? ((⟨g,0,none⟩:Addr).add j)=some u):=by
     intro j u hj
     refine hown0.cells (g:=g) rfl j u ?_
     have e:recs 11 k.tubes=recs 11 (k.tubes.take m)++recs 11 (k.tubes.drop m):=by rw [<- recs_append,List.take_append_drop]
     rw [e,List.getElem?_append_left]
     ·exact hj
     ·exact (List.getElem?_eq_some_iff.1 hj).1
    have hmc:m<=cap:=by omega
    have hgw:g<w.heap.size:=h.own_lt (.inr (.inl rfl))
    have hfq:=hKq.fz 10
    have hl2:(recs 11 (k.tubes.drop m)).length=(k.tubes.length - m)*11:=by rw [recs_len,List.length_drop]
    have HN2:Hid (∀ (w5:World) (ad:Addr) j u,(recs 11 (k.tubes.drop m))[j]? = some u->w5.cell? (ad.add j)=some u):=by
     intro w5 ad j u hj
     rw [List.drop_of_length_le (by omega)] at hj
     simp [recs] at hj
    have hbq2:=hKq.lt
    go_wp2_with (first
     | (at_builtin;refine wpList_append_own _ rfl (.tmp 28) (.tmp 34) 91 rfl (w.heap.size+1) 100 it _ 11 88 underlying91 hit hz0 hz1 hz2 rfl (by decide) (.slice none 0 0) 0 [] rfl (World.ownsRow_nil _ _ _ _) ⟨g,0,none⟩ m cap (recs 11 (k.tubes.take m)) rfl hl1 HN1.out recs_oneCell (by unfold maxLen;omega) (by omega) (by omega) ?_;intro v1 w3 hown1 hgrow1 _;have hk1:Below (w.heap.size+1) wq w3:=(Below.refl _ wq).grown hgrow1 (by omega) (fun k hk=>by cases hk);have hT3:=hTq.below hk1 (by omega);have hsz3:=hk1.size;have x0:=hT3.1 0 (by omega);have x1:=hT3.1 1 (by omega);have x2:=hT3.1 2 (by omega);have x3:=hT3.1 3 (by omega);have x4:=hT3.1 4 (by omega);have x5:=hT3.1 5 (by omega);have x6:=hT3.1 6 (by omega);have x7:=hT3.1 7 (by omega);have x8:=hT3.1 8 (by omega);have x9:=hT3.1 9 (by omega);have x10:=hT3.1 10 (by omega))
     | (at_builtin;refine wpList_append_own _ rfl (.tmp 36) (.tmp 38) 91 rfl (w.heap.size+1) 100 it _ 11 88 underlying91 hit hz0 hz1 hz2 rfl (by decide) v1 (0+m) ([]++recs 11 (k.tubes.take m)) rfl (hown1.alloc _) ⟨w3.heap.size,0,none⟩ 1 1 (recCells 11 t) rfl rfl (t_cells w3 t) rec_one (by unfold maxLen;omega) (by omega) (by simp;omega) ?_;intro v2 w5 hown2 hgrow2 _;obtain ⟨g2,cap2,rfl⟩:=own_form hown2;simp only [Nat.zero_add,List.nil_append] at hown2;have hk2:Below (w.heap.size+1) wq w5:=(hk1.alloc (by omega) _).grown hgrow2 (by simp;omega) (fun k hk=>(hown1.lt k hk).1);have hc5:=(hk2.cell (p:=⟨b,10,none⟩) (by show b<_;omega)).trans hcq;have hsz5:=hk2.size)
     | (at_builtin;refine wpList_append_own _ rfl (.tmp 41) (.tmp 47) 91 rfl (w.heap.size+1) 100 it _ 11 88 underlying91 hit hz0 hz1 hz2 rfl (by decide) (.slice (some ⟨g2,0,none⟩) (m+1) cap2) (m+1) (recs 11 (k.tubes.take m)++recCells 11 t) rfl hown2 _ (k.tubes.length - m) (cap - m) (recs 11 (k.tubes.drop m)) rfl hl2 (HN2.out w5 _) recs_oneCell (by unfold maxLen;omega) (by omega) (by omega) ?_;intro v3 w6 hown3 hgrow3 _;have hone:m+1+(k.tubes.length - m)=k.tubes.length+1:=(by omega);rw [hone] at hown3;obtain ⟨g3,cap3,rfl⟩:=own_form hown3;have hk3:Below (w.heap.size+1) wq w6:=hk2.grown hgrow3 (by omega) (fun k hk=>(hown2.lt k hk).1);have hc6:=(hk3.cell (p:=⟨b,10,none⟩) (by show b<_;omega)).trans hcq;have hf6:=(hk3.frozen (p:=⟨b,10,none⟩) (by show b<_;omega)).trans hfq))
    go_end0
    have hR:Recs w6 100 11 (.slice (some ⟨g3,0,none⟩) (k.tubes.length+1) cap3) (addT k.tubes t):=by
     have el:(addT k.tubes t).length=k.tubes.length+1:=by unfold addT;rw [HIm.out];simp;omega
     have er:recs 11 (addT k.tubes t)=recs 11 (k.tubes.take m)++recCells 11 t++recs 11 (k.tubes.drop m):=by
      unfold addT;rw [HIm.out,recs_append,recs_append,recs_one]
     unfold Recs
     rw [el,er]
     exact own_lower hown3
    have hg3:=(hown3.lt g3 rfl).1
    have hkw:Keeps (fun _=>False) wq w6:=(Keeps.refl _ wq).below hk3 (by omega)
    refine ⟨rfl,_,hKq.newTubes hkw (fun e=>e) (fun _ _ e=>e) hR ?_ ?_,?_,?_⟩
    ·intro g' hg'
     have e3:g3=g':=by simpa [Value.ownBlock] using hg'
     refine ⟨by omega,fun e => ?_⟩
     have:=h.own_lt (.inr (.inr e))
     omega
    ·show (addT k.tubes t).length<_
     unfold addT;rw [HIm.out];simp;omega
    ·intro g' hg'
     have e3:g3=g':=by simpa [Value.ownBlock] using hg'
     omega
    ·exact (((Keeps.refl (fun g=>g=b) w).below hbq nlr).below (hk3.mono (Nat.le_succ _)) nlr).set1 rfl _ _
   ·have hcm2:cap<=m:=by omega
    go_wp2_with fail
    go_quiet (fail)
    rw [World.drewN_drewN]
    have HIm:Hid (insAt k.tubes (t 0)=m):=hid (HI.out)
    clear HI
    have hKq:BkAt (w1.drewN (nd+nq)) b (.slice (some ⟨g,0,none⟩) k.tubes.length cap) vp k:=hK0.below (below_drewN (Below.refl _ _) (nd+nq))
    have hTq:HasR 11 (w1.drewN (nd+nq)) w.heap.size t:=hT0.below (B:=w1.heap.size) (below_drewN (Below.refl _ _) (nd+nq)) (by omega)
    have hbq:Below w.heap.size w (w1.drewN (nd+nq)):=below_drewN hb0 (nd+nq)
    have hzq:(w1.drewN (nd+nq)).heap.size=w.heap.size+1:=hz0
    generalize w1.drewN (nd+nq)=wq at *
    clear hK0 hT0 hb0 hz0 hc10 hu0
    have hcq:=hKq.ct
    have hown0:wq.ownsRow 0 100 11 (.slice (some ⟨g,0,none⟩) k.tubes.length cap) k.tubes.length (recs 11 k.tubes):=hKq.tubes
    obtain ⟨it,hit,hz0,hz1,hz2⟩:=info_parts Tryz.infoTube
    have hsz1:=hzq
    have hl1:(recs 11 (k.tubes.take m)).length=m*11:=by rw [recs_len,List.length_take];congr 1;omega
    have HN1:Hid (∀ j u,(recs 11 (k.tubes.take m))[j]? = some u->wq.cell? ((⟨g,0,none⟩:Addr).add j)=some u):=by
     intro j u hj
     refine hown0.cells (g:=g) rfl j u ?_
     have e:recs 11 k.tubes=recs 11 (k.tubes.take m)++recs 11 (k.tubes.drop m):=by rw [<- recs_append,List.take_append_drop]
     rw [e,List.getElem?_append_left]
     ·exact hj
     ·exact (List.getElem?_eq_some_iff.1 hj).1
    have hmc:m<=cap:=by omega
    have hgw:g<w.heap.size:=h.own_lt (.inr (.inl rfl))
    have hfq:=hKq.fz 10
    have hl2:(recs 11 (k.tubes.drop m)).length=(k.tubes.length - m)*11:=by rw [recs_len,List.length_drop]
    have HN2:Hid (∀ (w5:World) (ad:Addr) j u,(recs 11 (k.tubes.drop m))[j]? = some u->w5.cell? (ad.add j)=some u):=by
     intro w5 ad j u hj
     rw [List.drop_of_length_le (by omega)] at hj
     simp [recs] at hj
    have hbq2:=hKq.lt
    go_wp2_with (first
     | (at_builtin;refine wpList_append_own _ rfl (.tmp 28) (.tmp 34) 91 rfl (w.heap.size+1) 100 it _ 11 88 underlying91 hit hz0 hz1 hz2 rfl (by decide) (.slice none 0 0) 0 [] rfl (World.ownsRow_nil _ _ _ _) ⟨g,0,none⟩ m cap (recs 11 (k.tubes.take m)) rfl hl1 HN1.out recs_oneCell (by unfold maxLen;omega) (by omega) (by omega) ?_;intro v1 w3 hown1 hgrow1 _;have hk1:Below (w.heap.size+1) wq w3:=(Below.refl _ wq).grown hgrow1 (by omega) (fun k hk=>by cases hk);have hT3:=hTq.below hk1 (by omega);have hsz3:=hk1.size;have x0:=hT3.1 0 (by omega);have x1:=hT3.1 1 (by omega);have x2:=hT3.1 2 (by omega);have x3:=hT3.1 3 (by omega);have x4:=hT3.1 4 (by omega);have x5:=hT3.1 5 (by omega);have x6:=hT3.1 6 (by omega);have x7:=hT3.1 7 (by omega);have x8:=hT3.1 8 (by omega);have x9:=hT3.1 9 (by omega);have x10:=hT3.1 10 (by omega))
     | (at_builtin;refine wpList_append_own _ rfl (.tmp 36) (.tmp 38) 91 rfl (w.heap.size+1) 100 it _ 11 88 underlying91 hit hz0 hz1 hz2 rfl (by decide) v1 (0+m) ([]++recs 11 (k.tubes.take m)) rfl (hown1.alloc _) ⟨w3.heap.size,0,none⟩ 1 1 (recCells 11 t) rfl rfl (t_cells w3 t) rec_one (by unfold maxLen;omega) (by omega) (by simp;omega) ?_;intro v2 w5 hown2 hgrow2 _;obtain ⟨g2,cap2,rfl⟩:=own_form hown2;simp only [Nat.zero_add,List.nil_append] at hown2;have hk2:Below (w.heap.size+1) wq w5:=(hk1.alloc (by omega) _).grown hgrow2 (by simp;omega) (fun k hk=>(hown1.lt k hk).1);have hc5:=(hk2.cell (p:=⟨b,10,none⟩) (by show b<_;omega)).trans hcq;have hsz5:=hk2.size)
     | (at_builtin;refine wpList_append_own _ rfl (.tmp 41) (.tmp 47) 91 rfl (w.heap.size+1) 100 it _ 11 88 underlying91 hit hz0 hz1 hz2 rfl (by decide) (.slice (some ⟨g2,0,none⟩) (m+1) cap2) (m+1) (recs 11 (k.tubes.take m)++recCells 11 t) rfl hown2 _ (k.tubes.length - m) _ (recs 11 (k.tubes.drop m)) rfl hl2 (HN2.out w5 _) recs_oneCell (by unfold maxLen;omega) (by omega) (by omega) ?_;intro v3 w6 hown3 hgrow3 _;have hone:m+1+(k.tubes.length - m)=k.tubes.length+1:=(by omega);rw [hone] at hown3;obtain ⟨g3,cap3,rfl⟩:=own_form hown3;have hk3:Below (w.heap.size+1) wq w6:=hk2.grown hgrow3 (by omega) (fun k hk=>(hown2.lt k hk).1);have hc6:=(hk3.cell (p:=⟨b,10,none⟩) (by show b<_;omega)).trans hcq;have hf6:=(hk3.frozen (p:=⟨b,10,none⟩) (by show b<_;omega)).trans hfq))
    go_end0
    have hR:Recs w6 100 11 (.slice (some ⟨g3,0,none⟩) (k.tubes.length+1) cap3) (addT k.tubes t):=by
     have el:(addT k.tubes t).length=k.tubes.length+1:=by unfold addT;rw [HIm.out];simp;omega
     have er:recs 11 (addT k.tubes t)=recs 11 (k.tubes.take m)++recCells 11 t++recs 11 (k.tubes.drop m):=by
      unfold addT;rw [HIm.out,recs_append,recs_append,recs_one]
     unfold Recs
     rw [el,er]
     exact own_lower hown3
    have hg3:=(hown3.lt g3 rfl).1
    have hkw:Keeps (fun _=>False) wq w6:=(Keeps.refl _ wq).below hk3 (by omega)
    refine ⟨rfl,_,hKq.newTubes hkw (fun e=>e) (fun _ _ e=>e) hR ?_ ?_,?_,?_⟩
    ·intro g' hg'
     have e3:g3=g':=by simpa [Value.ownBlock] using hg'
     refine ⟨by omega,fun e => ?_⟩
     have:=h.own_lt (.inr (.inr e))
     omega
    ·show (addT k.tubes t).length<_
     unfold addT;rw [HIm.out];simp;omega
    ·intro g' hg'
     have e3:g3=g':=by simpa [Value.ownBlock] using hg'
     omega
    ·exact (((Keeps.refl (fun g=>g=b) w).below hbq nlr).below (hk3.mono (Nat.le_succ _)) nlr).set1 rfl _ _
end
section
open Go.RowKit
theorem own_cap {w:World} {base:Nat} {e:TypeId} {size:Nat} {a:Option Addr} {n cap:Nat} {xs:List Value} (h:w.ownsRow base e size (.slice a n cap) n xs):n<=cap:=by
 rcases h.2 with ⟨hv,hn⟩ | ⟨g,cap',cur,hv,_,_,hle,_⟩
 ·omega
 ·injection hv with _ _ h3;omega
set_option maxRecDepth 100000 in
theorem add_nil (b:Nat) (vp:Value) (k:Bk) (t:Nat->Int) (w:World) (h:BkAt w b (.slice none 0 0) vp k) (hnil:k.tubes=[]) :
  Calls prog 94 #[.pointer (some ⟨b,0,none⟩),.agg #[.int .i64 (t 0),.int .i64 (t 1),.int .i64 (t 2),.int .i64 (t 3),.int .i64 (t 4),.int .i64 (t 5),.int .i64 (t 6),.int .i64 (t 7),.int .i64 (t 8),.int .i64 (t 9),.int .i64 (t 10)]] w fun e w'=>e=.returned (.tuple #[])/\∃ vt',BkAt w' b vt' vp (k.withTubes (addT k.tubes t))/\(∀ g,vt'.ownBlock=some g->w.heap.size<=g)/\Keeps (fun g=>g=b) w w':=by
 have hT0:=HasR.new11 w 100 t
 have hb0:=(Below.refl w.heap.size w).alloc nlr (.cells #[.int .i64 (t 0),.int .i64 (t 1),.int .i64 (t 2),.int .i64 (t 3),.int .i64 (t 4),.int .i64 (t 5),.int .i64 (t 6),.int .i64 (t 7),.int .i64 (t 8),.int .i64 (t 9),.int .i64 (t 10)] 100)
 have hK0:=h.below hb0
 have hz0:(w.alloc (.cells #[.int .i64 (t 0),.int .i64 (t 1),.int .i64 (t 2),.int .i64 (t 3),.int .i64 (t 4),.int .i64 (t 5),.int .i64 (t 6),.int .i64 (t 7),.int .i64 (t 8),.int .i64 (t 9),.int .i64 (t 10)] 100)).heap.size=w.heap.size+1:=by simp
 have HNil:=hid hnil
 clear hnil
 obtain ⟨it,hit,hzt0,hzt1,hzt2⟩:=info_parts Tryz.infoTube
 go_enter func94,ntmps94
 go_wp2_with fail
 generalize w.alloc (.cells #[.int .i64 (t 0),.int .i64 (t 1),.int .i64 (t 2),.int .i64 (t 3),.int .i64 (t 4),.int .i64 (t 5),.int .i64 (t 6),.int .i64 (t 7),.int .i64 (t 8),.int .i64 (t 9),.int .i64 (t 10)] 100)=w1 at *
 have hc10:=hK0.ct
 go_loopw [4] (fun i wr=>i=.int .i64 0/\wr=w1) (fun _ _=>0)
 case atStart=>exact ⟨rfl,rfl⟩
 case round =>
  obtain ⟨rfl,rfl⟩:=hrel
  have x0:=hT0.1 0 (by omega)
  go_wp2_with fail
  go_quiet (fail)
  have hKq:BkAt (wr.drewN nq) b (.slice none 0 0) vp k:=hK0.below (below_drewN (Below.refl _ _) nq)
  have hTq:HasR 11 (wr.drewN nq) w.heap.size t:=hT0.below (B:=wr.heap.size) (below_drewN (Below.refl _ _) nq) (by omega)
  have hbq:Below w.heap.size w (wr.drewN nq):=below_drewN hb0 nq
  have hzq:(wr.drewN nq).heap.size=w.heap.size+1:=hz0
  generalize wr.drewN nq=wq at *
  clear hK0 hT0 hb0 hz0 hc10 x0
  have hcq:=hKq.ct
  have hfq:=hKq.fz 10
  have hbq2:=hKq.lt
  have x0:=hTq.1 0 (by omega)
  have x1:=hTq.1 1 (by omega)
  have x2:=hTq.1 2 (by omega)
  have x3:=hTq.1 3 (by omega)
  have x4:=hTq.1 4 (by omega)
  have x5:=hTq.1 5 (by omega)
  have x6:=hTq.1 6 (by omega)
  have x7:=hTq.1 7 (by omega)
  have x8:=hTq.1 8 (by omega)
  have x9:=hTq.1 9 (by omega)
  have x10:=hTq.1 10 (by omega)
  have hbw:=h.lt
  have hzq1:w.heap.size+1<=wq.heap.size:=by omega
  have HZQ:=hid hzq
  clear hzq
  go_wp2_with (at_builtin;refine wpList_append_own _ rfl (.tmp 36) (.tmp 38) 91 rfl (w.heap.size+1) 100 it _ 11 88 underlying91 hit hzt0 hzt1 hzt2 rfl (by decide) (.slice none 0 0) 0 [] rfl (World.ownsRow_nil _ _ _ _) ⟨wq.heap.size,0,none⟩ 1 1 (recCells 11 t) rfl rfl (t_cells wq t) rec_one (by decide) (by decide) (by simp;omega) ?_;intro v2 w5 hown2 hgrow2 _;obtain ⟨g2,cap2,rfl⟩:=own_form hown2;simp only [Nat.zero_add,List.nil_append] at hown2;have hcap2:=own_cap hown2;have hk2:Below (w.heap.size+1) wq w5:=((Below.refl _ wq).alloc (by omega) _).grown hgrow2 (by simp;omega) (fun k hk=>by cases hk);have hc5:=(hk2.cell (p:=⟨b,10,none⟩) (by show b<_;omega)).trans hcq;have hf5:=(hk2.frozen (p:=⟨b,10,none⟩) (by show b<_;omega)).trans hfq)
  go_end0
  have hR:Recs w5 100 11 (.slice (some ⟨g2,0,none⟩) 1 cap2) (addT k.tubes t):=by
   have e:addT k.tubes t=[t]:=by rw [HNil.out];rfl
   rw [e]
   unfold Recs
   rw [recs_one]
   exact own_lower hown2
  have hg2:=(hown2.lt g2 rfl).1
  have hkw:Keeps (fun _=>False) wq w5:=(Keeps.refl _ wq).below hk2 (by have:=HZQ.out;omega)
  refine ⟨rfl,_,hKq.newTubes hkw (fun e=>e) (fun _ _ e=>e) hR ?_ ?_,?_,?_⟩
  ·intro g' hg'
   have e3:g2=g':=by simpa [Value.ownBlock] using hg'
   refine ⟨by omega,fun e => ?_⟩
   have:=h.own_lt (.inr (.inr e))
   omega
  ·rw [HNil.out];show (1:Nat)<_;omega
  ·intro g' hg'
   have e3:g2=g':=by simpa [Value.ownBlock] using hg'
   omega
  ·exact (((Keeps.refl (fun g=>g=b) w).below hbq nlr).below (hk2.mono (Nat.le_succ _)) nlr).set1 rfl _ _
end
section
open Go.RowKit
theorem own_form2 {w:World} {base:Nat} {e:TypeId} {size:Nat} {v:Value} {n:Nat} {xs:List Value} (hn:0<n) (h:w.ownsRow base e size v n xs):∃ g cap,v=.slice (some ⟨g,0,none⟩) n cap:=by
 rcases h.2 with ⟨_,hn'⟩ | ⟨g,cap,cur,rfl,_⟩
 ·omega
 ·exact ⟨g,cap,rfl⟩
theorem BkAt.box (w:World) (k:Bk):BkAt (w.alloc (.cells #[.int .i64 (k.sides 0),.int .i64 (k.sides 1),.int .i64 (k.sides 2),.int .i64 (k.sides 3),.int .i64 (k.sides 4),.int .i64 (k.sides 5),.int .i64 (k.sides 6),.int .i64 (k.sides 7),.int .i64 (k.sides 8),.int .i64 (k.sides 9),.slice none 0 0,.slice none 0 0] 94)) w.heap.size (.slice none 0 0) (.slice none 0 0) ⟨k.sides,[],[]⟩:=by
 refine ⟨by simp,fun i hi => ?_,?_,?_,fun i=>by simp,World.ownsRow_nil _ _ _ _,World.ownsRow_nil _ _ _ _,by simp [Value.ownBlock],by simp [Value.ownBlock],fun g hg=>by simp [Value.ownBlock] at hg,by simp⟩
 ·rw [World.cell?_alloc_new]
  match i,hi with
  | 0,_=>rfl
  | 1,_=>rfl
  | 2,_=>rfl
  | 3,_=>rfl
  | 4,_=>rfl
  | 5,_=>rfl
  | 6,_=>rfl
  | 7,_=>rfl
  | 8,_=>rfl
  | 9,_=>rfl
  | n+10,h=>omega
 ·rw [World.cell?_alloc_new];rfl
 ·rw [World.cell?_alloc_new];rfl
set_option maxRecDepth 100000 in
theorem copy_any (b:Nat) (vt vp:Value) (k:Bk) (w:World) (h:BkAt w b vt vp k) (ht:k.tubes=[]->vt=.slice none 0 0) (hp:k.poured=[]->vp=.slice none 0 0) :
  Calls prog 58 #[.pointer (some ⟨b,0,none⟩)] w fun e w'=>∃ n vt' vp',e=.returned (.pointer (some ⟨n,0,none⟩))/\BkAt w' n vt' vp' k/\w.heap.size<=n/\(∀ g,vt'.ownBlock=some g->w.heap.size<=g)/\(∀ g,vp'.ownBlock=some g->w.heap.size<=g)/\Below w.heap.size w w'/\(k.tubes=[]->vt'=.slice none 0 0)/\(k.poured=[]->vp'=.slice none 0 0):=by
 have s0:=h.side 0 (by omega)
 have s1:=h.side 1 (by omega)
 have s2:=h.side 2 (by omega)
 have s3:=h.side 3 (by omega)
 have s4:=h.side 4 (by omega)
 have s5:=h.side 5 (by omega)
 have s6:=h.side 6 (by omega)
 have s7:=h.side 7 (by omega)
 have s8:=h.side 8 (by omega)
 have s9:=h.side 9 (by omega)
 obtain ⟨it,hit,hzt0,hzt1,hzt2⟩:=info_parts Tryz.infoTube
 obtain ⟨ip,hip,hzp0,hzp1,hzp2⟩:=info_parts Tryz.infoPoured
 have hN:=BkAt.box w k
 have hb0:=(Below.refl w.heap.size w).alloc nlr (.cells #[.int .i64 (k.sides 0),.int .i64 (k.sides 1),.int .i64 (k.sides 2),.int .i64 (k.sides 3),.int .i64 (k.sides 4),.int .i64 (k.sides 5),.int .i64 (k.sides 6),.int .i64 (k.sides 7),.int .i64 (k.sides 8),.int .i64 (k.sides 9),.slice none 0 0,.slice none 0 0] 94)
 have hO:=h.below hb0
 have hz0:w.heap.size+1<=(w.alloc (.cells #[.int .i64 (k.sides 0),.int .i64 (k.sides 1),.int .i64 (k.sides 2),.int .i64 (k.sides 3),.int .i64 (k.sides 4),.int .i64 (k.sides 5),.int .i64 (k.sides 6),.int .i64 (k.sides 7),.int .i64 (k.sides 8),.int .i64 (k.sides 9),.slice none 0 0,.slice none 0 0] 94)).heap.size:=by simp
 have hbl:=h.lt
 have hbn:¬ b=w.heap.size:=by omega
 have hnb:¬ w.heap.size=b:=by omega
 go_enter func58,ntmps58
 go_wp2_with fail
 generalize w.alloc (.cells #[.int .i64 (k.sides 0),.int .i64 (k.sides 1),.int .i64 (k.sides 2),.int .i64 (k.sides 3),.int .i64 (k.sides 4),.int .i64 (k.sides 5),.int .i64 (k.sides 6),.int .i64 (k.sides 7),.int .i64 (k.sides 8),.int .i64 (k.sides 9),.slice none 0 0,.slice none 0 0] 94)=w1 at *
 clear s0 s1 s2 s3 s4 s5 s6 s7 s8 s9
 go_cut [] from 10 to 21 (fun wc=>∃ vt',BkAt wc w.heap.size vt' (.slice none 0 0) ⟨k.sides,k.tubes,[]⟩/\(∀ g,vt'.ownBlock=some g->w.heap.size<g)/\BkAt wc b vt vp k/\Below w.heap.size w wc/\(k.tubes=[]->vt'=.slice none 0 0))
 case first =>
  have hc1:=hO.ct
  have hc2:=hN.ct
  have hf2:=hN.fz 10
  by_cases htn:k.tubes=[]
  ·have hv:=ht htn
   subst hv
   have HT:=hid htn
   clear htn
   go_region
   go_wp2_with fail
   go_meet
   have r1:=hN.newTubes (vt':=.slice none 0 0) (Keeps.refl (fun _=>False) w1) (fun e=>e) (fun _ _ e=>e) (ts:=[]) (World.ownsRow_nil _ _ _ _) (fun g hg=>by simp [Value.ownBlock] at hg) (by simp)
   have hkO:=hO.keeps (S:=fun g=>g=w.heap.size) ((Keeps.refl (fun g=>g=w.heap.size) w1).set1 (g:=w.heap.size) rfl 10 (.slice none 0 0)) (fun g hg e=>by have:=h.own_lt hg;omega)
   rw [HT.out]
   exact ⟨_,r1.drew,fun g hg=>by simp [Value.ownBlock] at hg,hkO.drew,(hb0.setCell (by exact Nat.le_refl _) _).drew,fun _=>rfl⟩
  ·obtain ⟨oa,cap,rfl,hform⟩:=h.tubes.form
   have hpos:0<k.tubes.length:=List.length_pos_iff.2 htn
   obtain ⟨g,rfl,hcap,_,hgl,_,_⟩:=hform 0 hpos
   have hown0:w1.ownsRow 0 100 11 (.slice (some ⟨g,0,none⟩) k.tubes.length cap) k.tubes.length (recs 11 k.tubes):=hO.tubes
   have HC:Hid (∀ j u,(recs 11 k.tubes)[j]? = some u->w1.drew.cell? ((⟨g,0,none⟩:Addr).add j)=some u):=fun j u hj=>hown0.cells (g:=g) rfl j u hj
   have hlen:=recs_len 11 k.tubes
   have hfew:=h.few.1
   go_region_law (refine step_append_grows rfl (.tmp 14) (.tmp 18) 91 rfl 100 it _ 11 88 underlying91 hit hzt0 hzt1 hzt2 rfl (by decide) none 0 0 [] (by simp [Act.eval]) (fun _=>⟨rfl,rfl⟩) rfl (fun b h=>by cases h) ⟨g,0,none⟩ k.tubes.length cap (recs 11 k.tubes) (by simp [Act.eval]) hlen HC.out recs_oneCell (by omega) (by unfold maxLen;omega) (by omega) ?_;intro v' w' hown hgrow;rw [Nat.zero_add] at hown;obtain ⟨gv,cv,rfl⟩:=own_form2 hpos hown;have hk1:Keeps (fun _=>False) w1 w':=((Keeps.refl _ w1).drew).grown hgrow (fun k hk=>by cases hk);have hc3:=(hk1.cell (p:=⟨w.heap.size,10,none⟩) hN.lt (fun e=>e)).trans hN.ct;have hf3:=(hk1.frozen (p:=⟨w.heap.size,10,none⟩) hN.lt (fun e=>e)).trans hf2)
   all_goals
    go_wp2_with fail
    go_meet
    have hgv:w.heap.size+1<=gv:=by have:=(hown.lt gv rfl).1;have h2:w1.drew.heap.size=w1.heap.size:=rfl;omega
    have hR:Recs w' 100 11 (.slice (some ⟨gv,0,none⟩) k.tubes.length cv) k.tubes:=own_lower hown
    have r1:=hN.newTubes hk1 (fun e=>e) (fun _ _ e=>e) hR (fun g' hg'=>by have e3:gv=g':=(by simpa [Value.ownBlock] using hg');exact ⟨by omega,by simp [Value.ownBlock]⟩) hfew
    have hkO:=hO.keeps (S:=fun g=>g=w.heap.size) ((Keeps.mono (T:=fun g=>g=w.heap.size) hk1 (fun _ _ e=>e.elim)).set1 (g:=w.heap.size) rfl 10 (.slice (some ⟨gv,0,none⟩) k.tubes.length cv)) (fun g hg e=>by have:=h.own_lt hg;omega)
    have hbw:Below w.heap.size w w':=hb0.trans (hk1.toBelow (B:=w.heap.size) (fun _ e=>e.elim) (by omega))
    exact ⟨_,r1,fun g' hg'=>by have e3:gv=g':=(by simpa [Value.ownBlock] using hg');omega,hkO,hbw.setCell (by exact Nat.le_refl _) _,fun e=>absurd e htn⟩
 case rest =>
  clear hN hb0 hO hz0
  obtain ⟨vt',hN,hfr,hO,hb0,hvn⟩:=hcut
  have HVn:=hid hvn
  clear hvn
  clear w1
  generalize wc=w1 at *
  have hz0:w.heap.size+1<=w1.heap.size:=hN.lt
  go_wp2_with fail
  go_cut [] from 10 to 33 (fun wc=>∃ vp',BkAt wc w.heap.size vt' vp' k/\(∀ g,vp'.ownBlock=some g->w.heap.size<=g)/\Below w.heap.size w wc/\(k.poured=[]->vp'=.slice none 0 0))
  case first =>
   have hc1:=hO.cp
   have hc2:=hN.cp
   have hf2:=hN.fz 11
   by_cases htn:k.poured=[]
   ·have hv:=hp htn
    subst hv
    have HT:=hid htn
    clear htn
    go_region
    go_wp2_with fail
    go_meet
    have r1:=hN.newPoured (vp':=.slice none 0 0) (Keeps.refl (fun _=>False) w1) (fun e=>e) (fun _ _ e=>e) (ps:=[]) (World.ownsRow_nil _ _ _ _) (fun g hg=>by simp [Value.ownBlock] at hg) (by simp)
    have e:k=(⟨k.sides,k.tubes,[]⟩:Bk).withPoured []:=by
     have:=HT.out
     cases k
     simp only at this
     subst this
     rfl
    rw [<- e] at r1
    exact ⟨_,r1.drew,fun g hg=>by simp [Value.ownBlock] at hg,(hb0.setCell (by exact Nat.le_refl _) _).drew,fun _=>rfl⟩
   ·obtain ⟨oa,cap,rfl,hform⟩:=h.poured.form
    have hpos:0<k.poured.length:=List.length_pos_iff.2 htn
    obtain ⟨g,rfl,hcap,_,hgl,_,_⟩:=hform 0 hpos
    have hown0:w1.ownsRow 0 178 3 (.slice (some ⟨g,0,none⟩) k.poured.length cap) k.poured.length (recs 3 k.poured):=hO.poured
    have HC:Hid (∀ j u,(recs 3 k.poured)[j]? = some u->w1.drew.cell? ((⟨g,0,none⟩:Addr).add j)=some u):=fun j u hj=>hown0.cells (g:=g) rfl j u hj
    have hlen:=recs_len 3 k.poured
    have hfew:=h.few.2
    go_region_law (refine step_append_grows rfl (.tmp 26) (.tmp 30) 92 rfl 178 ip _ 3 24 underlying92 hip hzp0 hzp1 hzp2 rfl (by decide) none 0 0 [] (by simp [Act.eval]) (fun _=>⟨rfl,rfl⟩) rfl (fun b h=>by cases h) ⟨g,0,none⟩ k.poured.length cap (recs 3 k.poured) (by simp [Act.eval]) hlen HC.out recs_oneCell (by omega) (by unfold maxLen;omega) (by omega) ?_;intro v' w' hown hgrow;rw [Nat.zero_add] at hown;obtain ⟨gv,cv,rfl⟩:=own_form2 hpos hown;have hk1:Keeps (fun _=>False) w1 w':=((Keeps.refl _ w1).drew).grown hgrow (fun k hk=>by cases hk);have hc3:=(hk1.cell (p:=⟨w.heap.size,11,none⟩) hN.lt (fun e=>e)).trans hN.cp;have hf3:=(hk1.frozen (p:=⟨w.heap.size,11,none⟩) hN.lt (fun e=>e)).trans hf2)
    all_goals
     go_wp2_with fail
     go_meet
     have hgv:w1.heap.size<=gv:=(hown.lt gv rfl).1
     have hR:Recs w' 178 3 (.slice (some ⟨gv,0,none⟩) k.poured.length cv) k.poured:=own_lower hown
     have r1:=hN.newPoured hk1 (fun e=>e) (fun _ _ e=>e) hR (fun g' hg'=>by
      have e3:gv=g':=(by simpa [Value.ownBlock] using hg')
      refine ⟨by omega,fun e => ?_⟩
      have:=hN.own_lt (.inr (.inl e))
      omega) hfew
     have hbw:Below w.heap.size w w':=hb0.trans (hk1.toBelow (B:=w.heap.size) (fun _ e=>e.elim) (by omega))
     exact ⟨_,r1,fun g' hg'=>by have e3:gv=g':=(by simpa [Value.ownBlock] using hg');omega,hbw.setCell (by exact Nat.le_refl _) _,fun e=>absurd e htn⟩
  case rest =>
   obtain ⟨vp',hN2,hfr2,hb2,hvp⟩:=hcut
   have HVp:=hid hvp
   clear hvp
   go_wp2
   go_ret
   exact ⟨w.heap.size,vt',vp',rfl,hN2,Nat.le_refl _,fun g hg=>Nat.le_of_lt (hfr g hg),hfr2,hb2,HVn.out,HVp.out⟩
end
section
open Go.RowKit
def boolCells (l:List Bool):List Value:=l.map Value.bool
def Marks (w:World) (v:Value) (l:List Bool):Prop:=w.ownsRow 0 4 1 v l.length (boolCells l)
theorem Marks.form {w:World} {v:Value} {l:List Bool} (h:Marks w v l):∃ oa cap,v=.slice oa l.length cap/\∀ i (hi:i<l.length),∃ g,oa=some ⟨g,0,none⟩/\l.length<=cap/\v.ownBlock=some g/\g<w.heap.size/\w.cell? ⟨g,i,none⟩=some (.bool l[i])/\(∀ j,w.frozen? ⟨g,j,none⟩=false):=by
 have hc:=h
 rcases h.2 with ⟨hv,h0⟩ | ⟨g,cap,cur,rfl,_,hg,hle,_⟩
 ·exact ⟨none,0,by rw [hv,h0],fun i hi=>by omega⟩
 ·refine ⟨some ⟨g,0,none⟩,cap,rfl,fun i hi=>⟨g,rfl,hle,rfl,(Array.getElem?_eq_some_iff.1 hg).1,?_,fun j=>by simp [World.frozen?,hg]⟩⟩
  have:=hc.cells (g:=g) rfl i (.bool l[i]) (by simp [boolCells,hi])
  rw [addr_add] at this
  exact this
theorem Marks.keeps {S:Nat->Prop} {w w':World} {v:Value} {l:List Bool} (h:Marks w v l) (hk:Keeps S w w') (hs:∀ g,v.ownBlock=some g->¬ S g):Marks w' v l :=
 ownsRow_block h (fun g hg=>hk.block g (h.lt g hg).2 (hs g hg))
theorem Marks.below {w w':World} {v:Value} {l:List Bool} (h:Marks w v l) (hb:Below w.heap.size w w'):Marks w' v l :=
 h.keeps (S:=fun _=>False) (below_toKeeps hb _) (fun _ _ h=>h)
theorem boolCells_set (l:List Bool) (i:Nat) (x:Bool):(boolCells l).set i (.bool x)=boolCells (l.set i x):=by
 simp [boolCells,List.map_set]
theorem Marks.set {w:World} {v:Value} {l:List Bool} (h:Marks w v l) {g:Nat} (hg:v.ownBlock=some g) {i:Nat} (hi:i<l.length) (x:Bool) :
  Marks (w.setCell ⟨g,i,none⟩ (.bool x)) v (l.set i x):=by
 refine ⟨by simp [boolCells],?_⟩
 rcases h.2 with ⟨hv,h0⟩ | ⟨g',cap,cur,rfl,h1,hg',h2,h3,h4,h5⟩
 ·omega
 ·injection hg with hg;subst hg
  refine .inr ⟨g',cap,cur.set! i (.bool x),by rw [List.length_set],h1,heap_setCell_same w g' i cur _ _ hg',by rw [List.length_set];exact h2,h3,by simp [h4],?_⟩
  rw [List.length_set]
  have e1:(cur.set! i (Value.bool x)).toList=cur.toList.set i (.bool x):=by simp
  rw [e1,List.take_set,h5]
  exact boolCells_set l i x
def askTo (ts:List (Nat->Int)) (bs:List Bool) (m:Nat):List Int:=(List.range m).flatMap fun i=>if bs.getD i false then [(ts.getD i fun _=>0) 0] else []
def askL (ts:List (Nat->Int)) (bs:List Bool):List Int:=askTo ts bs ts.length
theorem askTo_in {ts:List (Nat->Int)} {bs:List Bool} {m:Nat} (h:m<ts.length) (hb:m<bs.length) (e:bs[m]=true):askTo ts bs (m+1)=askTo ts bs m++[ts[m] 0]:=by
 simp [askTo,List.range_succ,List.getD_eq_getElem?_getD,h,hb,e]
theorem askTo_out {ts:List (Nat->Int)} {bs:List Bool} {m:Nat} (hb:m<bs.length) (e:bs[m]=false):askTo ts bs (m+1)=askTo ts bs m:=by
 simp [askTo,List.range_succ,List.getD_eq_getElem?_getD,hb,e]
theorem askTo_len (ts:List (Nat->Int)) (bs:List Bool):∀ m,(askTo ts bs m).length<=m
 | 0=>by simp [askTo]
 | m+1=>by
  have:=askTo_len ts bs m
  unfold askTo at *
  rw [List.range_succ,List.flatMap_append,List.length_append]
  have:((List.flatMap (fun i=>if bs.getD i false=true then [(ts.getD i fun _=>0) 0] else []) [m])).length<=1:=by simp;split <;> simp
  omega
theorem asked_any (b:Nat) (vt vp vm:Value) (k:Bk) (bs:List Bool) (w:World) (h:BkAt w b vt vp k) (hm:Marks w vm bs) (hl:bs.length=k.tubes.length) :
  Calls prog 142 #[.pointer (some ⟨b,0,none⟩),vm] w fun e w'=>∃ v,e=.returned v/\IntsIn w' v (askL k.tubes bs)/\Below w.heap.size w w':=by
 obtain ⟨i0,hi,hz0,hz1,hz2⟩:=info_parts Tryz.infoInt
 have hct:=h.ct
 have hbl:=h.lt
 have hfew:=h.few.1
 have HB:=hid h
 obtain ⟨oa,cap,rfl,_⟩:=h.tubes.form
 obtain ⟨om,cm,rfl,hmf⟩:=hm.form
 have HMf:=hid hmf
 clear hmf
 rw [hl]
 go_enter func142,ntmps142
 go_wp2_with fail
 go_loopg [5,6] k.tubes.length (fun gk v i wr=>∃ m:Nat,m+gk=k.tubes.length/\i=.int .i64 m/\wr.ownsRow w.heap.size 3 1 v (askTo k.tubes bs m).length (intCells (askTo k.tubes bs m))/\Below w.heap.size w wr)
 case atStart=>exact ⟨0,by omega,rfl,World.ownsRow_nil _ _ _ _,Below.refl _ _⟩
 case round =>
  obtain ⟨m,hm',rfl,hown,hbel⟩:=hrel
  have HM:=hid hm'
  have hmle:m<=k.tubes.length:=by omega
  clear hm'
  have hsz:=hbel.size
  have hctr:=(hbel.cell (p:=⟨b,10,none⟩) hbl).trans hct
  by_cases hlt:m<k.tubes.length
  ·obtain ⟨gm,rfl,hmc,_,hgml,hbc,_⟩:=HMf.out m (by omega)
   obtain ⟨g,rfl,hn,hcap,hgl,t0,_⟩:=HB.out.tube (m:=m) hlt
   have hbr:=(hbel.cell (p:=⟨gm,m,none⟩) hgml).trans hbc
   have htr:=(hbel.cell (p:=⟨g,m*11,none⟩) hgl).trans t0
   have hlt':(m:Int)<(k.tubes.length:Int):=by omega
   have hmb:m<bs.length:=by omega
   have hal:=askTo_len k.tubes bs m
   rw [hl] at hmc
   clear hbc t0
   cases hbm:bs[m] with
   | true =>
    have HS:=hid (askTo_in hlt hmb hbm)
    rw [hbm] at hbr
    generalize k.tubes[m] 0=id at *
    generalize askTo k.tubes bs m=cur at *
    go_wp2_with (at_builtin;refine wpList_append_own _ rfl _ _ 36 rfl w.heap.size 3 i0 (.int .i64 0) 1 8 underlying36 hi hz0 hz1 hz2 rfl (by decide) _ _ _ rfl (hown.alloc _) ⟨wr.heap.size,0,none⟩ 1 1 [.int .i64 id] rfl rfl (app_cell wr _) (by intro u hu;simp at hu;subst hu;rfl) (by unfold maxLen;omega) (by omega) (by simp;omega) ?_;intro v' w2 hown' hgrow' _)
    go_roundg (gk - 1)
    case measure=>have:=HM.out;omega
    case rel =>
     refine ⟨m+1,by have:=HM.out;omega,by go_num,?_,?_⟩
     ·rw [HS.out];simpa [intCells] using hown'
     ·exact (hbel.alloc (by omega) _).grown hgrow' (by simp;omega) (fun k hk=>(hown.lt k hk).1)
   | false =>
    have HS:=hid (askTo_out (ts:=k.tubes) hmb hbm)
    rw [hbm] at hbr
    go_wp2
    go_roundg (gk - 1)
    case measure=>have:=HM.out;omega
    case rel=>exact ⟨m+1,by have:=HM.out;omega,by go_num,by rw [HS.out];exact hown,hbel⟩
  ·have hme:m=k.tubes.length:=by omega
   have HA:=hid (show askL k.tubes bs=askTo k.tubes bs m by rw [hme];rfl)
   clear hme
   go_wp2
   go_ret
   exact ⟨_,rfl,by rw [HA.out];exact own_intsIn hown rfl,hbel⟩
end
section
open Go.RowKit
def Rch (E:Nat->Nat->Prop) (M:Nat->Prop) (j:Nat):Prop:=∀ P:Nat->Prop,(∀ i j,M i->E i j->P j)->(∀ i j,P i->E i j->P j)->P j
theorem Rch.one {E:Nat->Nat->Prop} {M:Nat->Prop} {i j:Nat} (a:M i) (b:E i j):Rch E M j:=fun _ h _=>h i j a b
theorem Rch.more {E:Nat->Nat->Prop} {M:Nat->Prop} {i j:Nat} (a:Rch E M i) (b:E i j):Rch E M j:=fun P h g=>g i j (a P h g) b
theorem Rch.ind {E:Nat->Nat->Prop} {M:Nat->Prop} {motive:∀ j,Rch E M j->Prop} (one:∀ {i j} (a:M i) (b:E i j),motive j (.one a b)) (more:∀ {i j} (h:Rch E M i) (b:E i j),motive i h->motive j (.more h b)) {j:Nat} (h:Rch E M j):motive j h:=by
 obtain ⟨h',hm⟩:=h (fun j=>∃ h:Rch E M j,motive j h) (fun _ _ a b=>⟨.one a b,one a b⟩) (fun _ _ ⟨a,ha⟩ b=>⟨.more a b,more a b ha⟩)
 exact hm
def srcI (k:Bk) (down:Bool) (p:Nat->Int):Nat:=(findI k.tubes (p (if down then 0 else 1))).toNat
def dstI (k:Bk) (down:Bool) (p:Nat->Int):Nat:=(findI k.tubes (p (if down then 1 else 0))).toNat
def Edge (k:Bk) (down:Bool) (i j:Nat):Prop:=∃ p∈k.poured,srcI k down p=i/\dstI k down p=j
def Wired (k:Bk):Prop:=∀ p∈k.poured,(∃ t∈k.tubes,t 0=p 0)/\∃ t∈k.tubes,t 0=p 1
def reachL (k:Bk) (mk:List Bool) (down:Bool) [DecidablePred (Rch (Edge k down) (fun i=>mk.getD i false=true))]:List Bool:=(List.range k.tubes.length).map fun j=>decide (Rch (Edge k down) (fun i=>mk.getD i false=true) j)
open Classical
theorem reachL_len (k:Bk) (mk:List Bool) (down:Bool):(reachL k mk down).length=k.tubes.length:=by simp [reachL]
theorem findI_mem {ts:List (Nat->Int)} {id:Int} (h:∃ t∈ts,t 0=id):∃ i:Nat,i<ts.length/\findI ts id=i:=by
 have hl:ts.findIdx (fun t=>t 0 == id)<ts.length:=List.findIdx_lt_length_of_exists (by obtain ⟨t,ht,e⟩:=h;exact ⟨t,ht,by simpa using e⟩)
 exact ⟨_,hl,by unfold findI;rw [if_pos hl]⟩
theorem Wired.ends {k:Bk} (hw:Wired k) (down:Bool) {p:Nat->Int} (hp:p∈k.poured) :
  ∃ s d:Nat,s<k.tubes.length/\d<k.tubes.length/\srcI k down p=s/\dstI k down p=d/\findI k.tubes (p 0)=((if down then s else d:Nat):Int)/\findI k.tubes (p 1)=((if down then d else s:Nat):Int):=by
 obtain ⟨i,hi,ei⟩:=findI_mem (hw p hp).1
 obtain ⟨j,hj,ej⟩:=findI_mem (hw p hp).2
 cases down with
 | true=>exact ⟨i,j,hi,hj,by simp [srcI,ei],by simp [dstI,ej],by simpa using ei,by simpa using ej⟩
 | false=>exact ⟨j,i,hj,hi,by simp [srcI,ej],by simp [dstI,ei],by simpa using ei,by simpa using ej⟩
def Clos (k:Bk) (down:Bool) (mk out:List Bool) (m:Nat):Prop:=∀ j (hj:j<k.poured.length),j<m->(mk.getD (srcI k down k.poured[j]) false=true\/out.getD (srcI k down k.poured[j]) false=true)->out.getD (dstI k down k.poured[j]) false=true
def Snd (k:Bk) (down:Bool) (mk out:List Bool):Prop:=∀ j,out.getD j false=true->Rch (Edge k down) (fun i=>mk.getD i false=true) j
def cf (l:List Bool):Nat:=l.count false
theorem Clos.zero (k:Bk) (down:Bool) (mk out:List Bool):Clos k down mk out 0:=fun _ _ h=>by omega
theorem Clos.step {k:Bk} {down:Bool} {mk out:List Bool} {m s d:Nat} (h:Clos k down mk out m) (hm:m<k.poured.length) (hs:srcI k down k.poured[m]=s) (hd:dstI k down k.poured[m]=d) (hh:(mk.getD s false=true\/out.getD s false=true)->out.getD d false=true):Clos k down mk out (m+1):=by
 intro j hj hlt
 by_cases e:j=m
 ·subst e;rw [hs,hd];exact hh
 ·exact h j hj (by omega)
theorem Snd.start (k:Bk) (down:Bool) (mk:List Bool) (n:Nat):Snd k down mk (List.replicate n false):=by
 intro j h
 rw [List.getD_eq_getElem?_getD,List.getElem?_replicate] at h
 split at h <;> simp at h
theorem Snd.step {k:Bk} {down:Bool} {mk out:List Bool} {m s d:Nat} (h:Snd k down mk out) (hm:m<k.poured.length) (hs:srcI k down k.poured[m]=s) (hd:dstI k down k.poured[m]=d) (hh:mk.getD s false=true\/out.getD s false=true):Snd k down mk (out.set d true):=by
 have hE:Edge k down s d:=⟨_,List.getElem_mem hm,hs,hd⟩
 intro j hj
 by_cases e:j=d
 ·subst e
  rcases hh with hh | hh
  ·exact .one hh hE
  ·exact .more (h s hh) hE
 ·rw [List.getD_eq_getElem?_getD,List.getElem?_set_ne (by omega),<- List.getD_eq_getElem?_getD] at hj
  exact h j hj
theorem cf_set {out:List Bool} {d:Nat} (hd:d<out.length) (e:out[d]=false):cf (out.set d true)+1=cf out:=by
 unfold cf
 rw [List.count_set hd]
 have:0<out.count false:=List.count_pos_iff.2 (by rw [<- e];exact List.getElem_mem hd)
 simp [e]
 omega
theorem cf_start (n:Nat):cf (List.replicate n false)=n:=by simp [cf]
theorem getD_b {l:List Bool} {i:Nat} (h:i<l.length):l.getD i false=l[i]:=by simp [List.getD_eq_getElem?_getD,h]
theorem reach_end {k:Bk} {down:Bool} {mk out:List Bool} (hl:out.length=k.tubes.length) (hs:Snd k down mk out) (hc:Clos k down mk out k.poured.length):out=reachL k mk down:=by
 have hR:∀ j,Rch (Edge k down) (fun i=>mk.getD i false=true) j->out.getD j false=true:=by
  intro j hj
  induction hj using Rch.ind with
  | one hM hE=>obtain ⟨p,hp,e1,e2⟩:=hE;obtain ⟨q,hq,rfl⟩:=List.getElem_of_mem hp;have:=hc q hq hq;rw [e1,e2] at this;exact this (.inl hM)
  | more _ hE ih=>obtain ⟨p,hp,e1,e2⟩:=hE;obtain ⟨q,hq,rfl⟩:=List.getElem_of_mem hp;have:=hc q hq hq;rw [e1,e2] at this;exact this (.inr ih)
 apply List.ext_getElem (by rw [hl,reachL_len])
 intro j h1 h2
 simp only [reachL,List.getElem_map,List.getElem_range]
 cases e:out[j] with
 | true=>exact (decide_eq_true (hs j (by rw [getD_b h1,e]))).symm
 | false=>exact (decide_eq_false (fun h=>by have:=hR j h;rw [getD_b h1,e] at this;cases this)).symm
theorem Tryz.infoBool:(prog.info? 4).map (fun i=>(i.zero,i.size,i.bytes))=some (some (.bool false),1,1):=by kernel_rfl
theorem own_marks {w:World} {base g n:Nat} (h:w.ownsRow base 4 1 (.slice (some ⟨g,0,none⟩) n n) n (madeCells (Value.cells (.bool false)) (n*1)).toList):Marks w (.slice (some ⟨g,0,none⟩) n n) (List.replicate n false):=by
 have hc:(Value.bool false).cells=#[.bool false]:=rfl
 rw [hc,toList_madeCells_one] at h
 unfold Marks
 have e:boolCells (List.replicate n false)=List.replicate (n*1) (.bool false):=by simp [boolCells]
 rw [e,List.length_replicate]
 exact ⟨h.1,by
  rcases h.2 with hn | ⟨g',cap,cur,e1,h1,hg,rest⟩
  ·exact .inl hn
  ·exact .inr ⟨g',cap,cur,e1,Nat.zero_le _,hg,rest⟩⟩
theorem Marks.at {w:World} {g n cap:Nat} {l:List Bool} (h:Marks w (.slice (some ⟨g,0,none⟩) n cap) l) {i:Nat} (hi:i<l.length):w.cell? ⟨g,i,none⟩=some (.bool l[i])/\(∀ j,w.frozen? ⟨g,j,none⟩=false):=by
 obtain ⟨oa,c,e,hf⟩:=h.form
 injection e with e1 e2 e3
 subst e1
 obtain ⟨g',e4,_,_,_,hcl,hfz⟩:=hf i hi
 injection e4 with e4;injection e4 with e4
 subst e4
 exact ⟨hcl,hfz⟩
theorem fire_or (x1 x2 x3:Bool):((x1=true\/x2=true)/\x3=false)\/((x1=true\/x2=true)->x3=true):=by cases x1 <;> cases x2 <;> cases x3 <;> simp
theorem fire_yes {x1 x2:Bool} (h:x1=true\/x2=true):x1=true\/(x1=false/\x2=true):=by cases x1 <;> simp_all
theorem fire_no {x1 x2 x3:Bool} (h:(x1=true\/x2=true)->x3=true):(x1=false/\x2=false)\/(x1=true/\x3=true)\/(x1=false/\x2=true/\x3=true):=by cases x1 <;> cases x2 <;> simp_all
theorem reach_any (b:Nat) (vt vp vm:Value) (k:Bk) (mk:List Bool) (down:Bool) (w:World) (h:BkAt w b vt vp k) (hm:Marks w vm mk) (hl:mk.length=k.tubes.length) (hw:Wired k) :
  Calls prog 141 #[.pointer (some ⟨b,0,none⟩),vm,.bool down] w fun e w'=>∃ v,e=.returned v/\Marks w' v (reachL k mk down)/\Below w.heap.size w w'/\∀ g,v.ownBlock=some g->w.heap.size<=g:=by
 obtain ⟨i0,hi,hz0,hz1,hz2⟩:=info_parts Tryz.infoBool
 have hct:=h.ct
 have hcp:=h.cp
 have hbl:=h.lt
 have hfew:=h.few.1
 have hfewp:=h.few.2
 have HB:=hid h
 have HW:=hid hw
 obtain ⟨oa,cap,rfl,_⟩:=h.tubes.form
 obtain ⟨op,cpp,rfl,_⟩:=h.poured.form
 obtain ⟨om,cm,rfl,hmf⟩:=hm.form
 have HMf:=hid hmf
 clear hmf
 rw [hl]
 go_enter func141,ntmps141
 go_wp2_with (at_make;refine wpList_make_full _ rfl _ _ 210 rfl w.heap.size 4 i0 (.bool false) 1 underlying210 hi hz0 hz1 .i64 .i64 _ _ k.tubes.length rfl rfl rfl rfl (by rw [hz2];omega) (by unfold maxLen;omega) (by simp) ?_;intro w0 hown0 hgrow0)
 have hO:=own_marks hown0
 have hsz0:w.heap.size<w0.heap.size:=by have:=hown0.lt w.heap.size rfl;omega
 have hB0:Below w.heap.size w w0:=Below.grown (Below.refl _ _) hgrow0 (by simp) (fun k hk=>by cases hk)
 clear hown0 hgrow0
 go_wp2_with fail
 go_loopg [8] (k.tubes.length+1) (fun gk av wr=>∃ (a:Bool) (out:List Bool),av=.bool a/\out.length=k.tubes.length/\Marks wr (.slice (some ⟨w.heap.size,0,none⟩) k.tubes.length k.tubes.length) out/\Snd k down mk out/\(a=false->Clos k down mk out k.poured.length)/\cf out+(if a then 1 else 0)=gk/\Below w.heap.size w wr)
 case atStart=>exact ⟨true,List.replicate k.tubes.length false,rfl,by simp,hO,Snd.start _ _ _ _,fun h=>by (cases h),by simp [cf_start],hB0⟩
 case round =>
  clear hO hB0 hsz0
  obtain ⟨a,out,rfl,hlo,hO,hS,hC,hg,hbel⟩:=hrel
  cases a with
  | false =>
   have HE:=hid (reach_end hlo hS (hC rfl))
   clear hS hC hg
   go_wp2
   go_ret
   exact ⟨_,rfl,by rw [<- HE.out];exact hO,hbel,fun g hg=>Nat.le_of_eq (Option.some.inj hg)⟩
  | true =>
   have HS:=hid hS
   have HG:=hid hg
   clear hS hC hg
   go_wp2_with fail
   go_loopg [8,9] k.poured.length (fun gi av iv wi=>∃ (m:Nat) (a:Bool) (ou:List Bool),m+gi=k.poured.length/\av=.bool a/\iv=.int .i64 m/\ou.length=k.tubes.length/\Marks wi (.slice (some ⟨w.heap.size,0,none⟩) k.tubes.length k.tubes.length) ou/\Snd k down mk ou/\(a=false->Clos k down mk ou m)/\cf ou+(if a then 1 else 0)<=cf out/\Below w.heap.size w wi)
   case atStart=>exact ⟨0,false,out,by omega,rfl,rfl,hlo,hO,HS.out,fun _=>Clos.zero _ _ _ _,by simp,hbel⟩
   case round =>
    clear hO hbel hlo
    obtain ⟨m,a,ou,hm',rfl,rfl,hlo,hO,hS,hC,hg,hbel⟩:=hrel
    have HM:=hid hm'
    have hmle:m<=k.poured.length:=by omega
    have HCl:=hid hC
    have HSn:=hid hS
    have HGi:=hid hg
    clear hm' hC hS hg
    have hctr:=(hbel.cell (p:=⟨b,10,none⟩) hbl).trans hct
    have hcpr:=(hbel.cell (p:=⟨b,11,none⟩) hbl).trans hcp
    have HBr:=hid (HB.out.keeps (S:=fun g=>w.heap.size<=g) ⟨hbel.os,hbel.tape,hbel.output,hbel.size,fun k hk _=>hbel.block k hk⟩ (fun g hg h2=>by have:=HB.out.own_lt hg;omega))
    by_cases hlt:m<k.poured.length
    ·have hlt':(m:Int)<(k.poured.length:Int):=by omega
     obtain ⟨gp,rfl,hnp,hcapp,hgpl,p0,p1,p2,_⟩:=HB.out.pouredCell (m:=m) hlt
     have p0r:=(hbel.cell (p:=⟨gp,m*3,none⟩) hgpl).trans p0
     have p1r:=(hbel.cell (p:=⟨gp,m*3+1,none⟩) hgpl).trans p1
     clear p0 p1 p2
     obtain ⟨s,d,hs,hd,es,ed,e0,e1⟩:=HW.out.ends down (List.getElem_mem hlt)
     have hso:s<ou.length:=Nat.lt_of_lt_of_eq hs hlo.symm
     have hdo:d<ou.length:=Nat.lt_of_lt_of_eq hd hlo.symm
     have hsm:s<mk.length:=Nat.lt_of_lt_of_eq hs hl.symm
     obtain ⟨gm,rfl,hmc,_,hgml,hbc,_⟩:=HMf.out s hsm
     have hbr:=(hbel.cell (p:=⟨gm,s,none⟩) hgml).trans hbc
     obtain ⟨hos,hfz⟩:=hO.at hso
     have hod:=(hO.at hdo).1
     have hs':(s:Int)<(k.tubes.length:Int):=by omega
     have hd':(d:Int)<(k.tubes.length:Int):=by omega
     rw [hl] at hmc
     have HCs:=hid (fun (ha:a=false) hh=>(HCl.out ha).step hlt es ed hh)
     have HSs:=hid (fun hh=>HSn.out.step hlt es ed hh)
     rw [getD_b hsm,getD_b hso,getD_b hdo] at HCs
     rw [getD_b hsm,getD_b hso] at HSs
     have HCf:=hid (fun e=>cf_set hdo e)
     have HOs:=hid (hO.set (g:=w.heap.size) rfl hdo true)
     have hgml':¬ gm=w.heap.size:=by omega
     clear hbc es ed HCl
     generalize k.poured[m] 0=q0 at *
     generalize k.poured[m] 1=q1 at *
     generalize mk[s]=x1 at *
     generalize ou[s]=x2 at *
     generalize ou[d]=x3 at *
     have hsplit:(down=true/\findI k.tubes q0=(s:Int)/\findI k.tubes q1=(d:Int))\/(down=false/\findI k.tubes q0=(d:Int)/\findI k.tubes q1=(s:Int)):=by
      cases down
      ·exact .inr ⟨rfl,by simpa using e0,by simpa using e1⟩
      ·exact .inl ⟨rfl,by simpa using e0,by simpa using e1⟩
     clear e0 e1
     rcases fire_or x1 x2 x3 with ⟨hf,rfl⟩ | hf
     ·have HS2:=hid (HSs.out hf)
      have HG2:Hid (cf (ou.set d true)+1<=cf out):=by have h1:=HCf.out rfl;have h2:=HGi.out;exact hid (by omega)
      clear HSs HCs HCf HGi
      have hf':=fire_yes hf
      clear hf
      rcases hf' with rfl | ⟨rfl,rfl⟩ <;> rcases hsplit with ⟨rfl,f0,f1⟩ | ⟨rfl,f0,f1⟩
      all_goals
       go_wp2_with (go_at_call 90;refine (find_any b _ _ k _ _ HBr.out).mono ?_;rintro e wi ⟨rfl,rfl⟩;first | rw [f0] | rw [f1])
       go_roundg (k.poured.length - (m+1))
       case measure=>have:=HM.out;omega
       case rel=>exact ⟨m+1,true,ou.set d true,by have:=HM.out;omega,rfl,by go_num,by simpa using hlo,HOs.out,HS2.out,fun h=>by (cases h),by simpa using HG2.out,hbel.setCell (by simp) _⟩
     ·have HC2:=hid (fun ha=>HCs.out ha hf)
      clear HSs HCs HCf HOs
      have hf':=fire_no hf
      clear hf
      rcases hf' with ⟨rfl,rfl⟩ | ⟨rfl,rfl⟩ | ⟨rfl,rfl,rfl⟩ <;> rcases hsplit with ⟨rfl,f0,f1⟩ | ⟨rfl,f0,f1⟩
      all_goals
       go_wp2_with (go_at_call 90;refine (find_any b _ _ k _ _ HBr.out).mono ?_;rintro e wi ⟨rfl,rfl⟩;first | rw [f0] | rw [f1])
       go_roundg (k.poured.length - (m+1))
       case measure=>have:=HM.out;omega
       case rel=>exact ⟨m+1,a,ou,by have:=HM.out;omega,rfl,by go_num,hlo,hO,HSn.out,HC2.out,HGi.out,hbel⟩
    ·have hme:m=k.poured.length:=by omega
     have HC2:Hid (a=false->Clos k down mk ou k.poured.length):=by rw [<- hme];exact HCl.out
     clear hme
     go_wp2
     go_roundg (cf ou+if a then 1 else 0)
     case measure=>have h1:=HG.out;have h2:=HGi.out;simp only [if_true] at h1;omega
     case rel=>exact ⟨a,ou,rfl,hlo,hO,HSn.out,HC2.out,rfl,hbel⟩
end
end Go.Proofs.YtalncjhldkcmaaaGreat
