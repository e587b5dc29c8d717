import Derived.Test.YtalncjhldkcmaaaGreatFb38
import Derived.Test.YtalncjhldkcmaaaGreatFb32
import Derived.Test.YtalncjhldkcmaaaGreatFb16
import Derived.Test.YtalncjhldkcmaaaGreatFb15
import Derived.Test.YtalncjhldkcmaaaGreatFb34
import Derived.Test.YtalncjhldkcmaaaGreatFb09
import Derived.Test.YtalncjhldkcmaaaGreatFb36
namespace Go.Proofs.YtalncjhldkcmaaaGreat
open _root_.Go.Proofs.Tryz
set_option maxHeartbeats 16000000
set_option maxRecDepth 8000
section
open Go.RowKit Go.Shelf
attribute [local go_sem] Oper.semAt_some
theorem Led.sel_all {L:Led} (h:L.Fit):sel 0 4294967295 L.kvs=L.kvs:=by
 unfold sel
 refine filt_all (fun x hx=>decide_eq_true ?_)
 have:=Led.recs_ok h x hx
 unfold RecOk at this
 omega
theorem own_bAt {W W':World} {row:Option Nat} {M b B':Nat} {l:List UInt8} (h:BAt W M b l) (hg:W.grownBy W' row) (hr:∀ r,row=some r->B'<=r/\∃ o:Obj,W.heap[r]? = some o/\o.isCells=false):BAt W' M b l:=by
 obtain ⟨p,v,hp,hR,hown,hne⟩:=h
 refine ⟨p,v,hp,own_recAt hR hg hr,?_,hne⟩
 refine ⟨hown.1,hown.2.imp id ?_⟩
 rintro ⟨gr,cp,cur,fz,hv,h1,h2,h3⟩
 refine ⟨gr,cp,cur,fz,hv,h1,?_,h3⟩
 rw [hg.block gr (Array.getElem?_eq_some_iff.1 h2).1 (fun e => ?_)]
 ·exact h2
 ·obtain ⟨_,o,ho,hc⟩:=hr gr e.symm
  rw [h2] at ho
  cases ho
  cases hc
theorem textK_len:∀ (l:List KV),(∀ x∈l,RecOk x)->(textK l).length<=22*l.length
 | [],_=>Nat.zero_le _
 | x::l,h=>by
  have ih:=textK_len l (fun y hy=>h y (by simp [hy]))
  have hx:=(h x (by simp)).2.2.2
  have hs:sizeK x.1.toNat<=18:=by unfold sizeK;split <;> (try split) <;> (try split) <;> omega
  rw [textK_cons]
  have:x.2.data.toList.length=x.2.size:=by simp
  simp only [List.length_append,List.length_cons,k4,List.length_nil]
  omega
theorem BAt.keep {w w':World} {B b:Nat} {l:List UInt8} (h:BAt w B b l) (hb:∀ k,k<w.heap.size->w'.heap[k]? = w.heap[k]?):BAt w' B b l:=by
 obtain ⟨p,v,hp,hR,hown,hne⟩:=h
 exact ⟨p,v,hp,(hb b hR.lt).trans hR,rowF_keep hown (fun k _ h=>hb k h),hne⟩
theorem k4_cells {k:Int} (h0:0<=k) (h:k<4294967296):Lib.byteCells (k4 k)=[.int .u8 (k / 16777216 % 256),.int .u8 (k / 65536 % 256),.int .u8 (k / 256 % 256),.int .u8 (k % 256)]:=by
 obtain ⟨n,rfl⟩:∃ n:Nat,k=n:=⟨k.toNat,by omega⟩
 simp only [Lib.byteCells,k4,List.map_cons,List.map_nil,UInt8.toNat_ofNat',Int.toNat_natCast]
 simp only [List.cons.injEq,Value.int.injEq,and_true,true_and]
 refine ⟨?_,?_,?_,?_⟩ <;> omega
theorem text_end {w V':World} {D:Nat} {s:ByteArray} {t0 t1 t3 t4 t5 t6 t7 t8 t9 t10 t11 t12 t13 t14 t15 t16 t17 t18 t19 t20 t21 t22 t23 t24 t25 t26 t27 t28:Value} (hD:V'.heap[D]? = some (.deferred (some []))) (hbel:Below w.heap.size w V') (hd:w.heap.size<D) :
  bodyPostM Fence.wide 0 prog Tryz.f45 (fun e w'=>e=.returned (.string s)/\Below w.heap.size w w') .ret
   { tmps:=#[t0,t1,.string s,t3,t4,t5,t6,t7,t8,t9,t10,t11,t12,t13,t14,t15,t16,t17,t18,t19,t20,t21,t22,t23,t24,t25,t26,t27,t28],defers:=[{ target:=.collected D,args:=#[] }] } V':=by
 refine ⟨by simp,.inl ⟨_,_,rfl,run_takeDeferred hD,?_⟩⟩
 refine ⟨.string s,by simp [results,results45,go_sem],rfl,?_⟩
 exact hbel.trans ((Below.refl _ V').grown (grownBy_putObj' V' D _) (by have:=hbel.size;omega) (fun k e=>by cases e;omega))
theorem text_led (n₀ l:Nat) (d:Nat×Nat) (r:Option Addr) (L:Led) (lim:Int) (hF:L.Fit) (hfew:L.kvs.length<=1000) (w:World) (hB:LedBox w l d r L.kvs.length lim) (hT:TreeIs n₀ w r L.kvs) :
  Calls prog 45 #[.pointer (some ⟨l,2,none⟩)] w fun e w'=>e=.returned (.string ⟨L.text.toArray⟩)/\Below w.heap.size w w':=by
 have hb1:Below w.heap.size w (w.alloc (.cells #[.pointer none,.slice none 0 0] 160)):=bal
 have hR1:=RecAt.new w #[.pointer none,.slice none 0 0] 160
 have hs1:(w.alloc (.cells #[.pointer none,.slice none 0 0] 160)).heap.size=w.heap.size+1:=by simp
 have c0:(w.alloc (.cells #[.pointer none,.slice none 0 0] 160)).cell? ⟨l,2,none⟩=some (.pointer r):=(hb1.cell (p:=⟨l,2,none⟩) hB.lt).trans hB.c0
 have c1:(w.alloc (.cells #[.pointer none,.slice none 0 0] 160)).cell? ⟨l,3,none⟩=some (.int .i64 L.kvs.length):=(hb1.cell (p:=⟨l,3,none⟩) hB.lt).trans hB.c1
 have hn0:=hT.2.1
 have HRg:Hid (Calls prog 78 #[.agg #[.pointer r,.int .i64 L.kvs.length],.int .u32 0,.int .u32 4294967295] (w.alloc (.cells #[.pointer none,.slice none 0 0] 160)) fun e w' =>
   ∃ lb,e=.returned (.func (.func 128) #[] lb)/\GivesT prog 128 lb encKV n₀ (w.alloc (.cells #[.pointer none,.slice none 0 0] 160)).heap.size L.kvs w'/\Below (w.alloc (.cells #[.pointer none,.slice none 0 0] 160)).heap.size (w.alloc (.cells #[.pointer none,.slice none 0 0] 160)) w'):=hid (by
  have:=range_givesT n₀ r L.kvs.length 0 4294967295 L.kvs _ (hT.below (hb1.mono hn0))
  rw [Led.sel_all hF] at this
  exact this)
 have Hb1:=hid hb1
 have HR1:=hid hR1
 have Hs1:=hid hs1
 clear hb1 hR1 hs1
 refine calls_marks func45 rfl ?_
 simp only [ntmps45,List.size_toArray,List.length_cons,List.length_nil,Nat.reduceAdd,Nat.reduceSub,Array.replicate_succ,Array.replicate_zero,List.push_toArray,List.append_toArray,List.nil_append,List.cons_append]
 go_wp2_with (go_at_call 78;refine HRg.out.mono ?_;clear HRg;rintro e w2 ⟨lb,rfl,hG,hb2⟩)
 have hb1:=Hb1.out
 have hR1:=HR1.out
 have hs1:=Hs1.out
 clear Hb1 HR1 Hs1 c0 c1
 generalize w.alloc (.cells #[.pointer none,.slice none 0 0] 160)=w1 at *
 have h2:=hb2.size
 have hR2:=hR1.on hb2
 have hB2:Below w.heap.size w w2:=hb1.trans (hb2.mono hb1.size)
 refine (wpIn_wide (n:=0)).1 ?_
 have hbel0:BAt w2 (w2.heap.size+2) w.heap.size (textK []):=⟨_,_,.inl rfl,hR2,⟨rfl,.inl ⟨rfl,rfl⟩⟩,by simp [Value.ownBlock]⟩
 have hrec:∀ x∈L.kvs,RecOk x:=fun x hx=>Led.recs_ok hF x hx
 refine rangeM_law (gf:=128) (lb:=lb) rfl (enters_of func128 (by kernel_rfl) rfl) (hG (fun _=>False) w2 (fun k=>k=w.heap.size) (Keeps.refl _ _) (fun _ h=>h.elim) (fun k h=>by omega)) (Below.refl _ _) (fun k h=>by omega) (fun _=>rfl)
  (fun M pre V=>pre <+: L.kvs/\BAt V M w.heap.size (textK pre)/\Below w.heap.size w V)
  (fun _ _ _ _=>False)
  (fun _ s A B row hs hg hr=>⟨hs.1,own_bAt hs.2.1 hg hr,own_below hs.2.2 nlr hB2.size hg hr⟩)
  (fun _ c s A B row hs hg hr=>hs.elim)
  (fun M hM=>⟨List.nil_prefix,⟨_,_,.inl rfl,hR2,⟨rfl,.inl ⟨rfl,rfl⟩⟩,by simp [Value.ownBlock]⟩,hB2⟩)
  (fun x a' _=>a'={ tmps:=#[.pointer (some ⟨l,2,none⟩),undef,.string ⟨#[]⟩,.pointer (some ⟨w.heap.size,0,none⟩),.int .u32 x.1,.string x.2,.pointer (some ⟨l,2,none⟩),.pointer (some ⟨l,2,none⟩),.pointer (some ⟨l,2,none⟩),.agg #[.pointer r,.int .i64 L.kvs.length],.func (.func 128) #[] lb,.int .u32 x.1,.string x.2,undef,undef,undef,undef,undef,undef,undef,undef,undef,undef,undef,undef,undef,undef,undef,undef],defers:=[] })
  (fun _ _ _ _ _ _ hs _ _=>hs) ?assign ?body ?done ?stop
 case assign =>
  intro y M pre x V K hM1 hM2 _ hi hK
  simp only [encKV]
  gi_wp2
  exact hK _ _ (Keeps.refl _ _) hi rfl
 case body =>
  rintro y M pre x a' V hy1 hy2 hM1 hM2 hp ⟨hpre,hbat,hbel⟩ rfl
  have hxm:x∈L.kvs:=hp.subset (by simp)
  have hx:=hrec x hxm
  have HBt:=hid hbat
  have Hx:=hid hx
  clear hbat hx
  gi_wp2
  have hx:=Hx.out
  have hlen:=textK_len pre (fun z hz=>hrec z (hpre.subset hz))
  have hplen:=hpre.length_le
  have hsz:sizeK x.1.toNat<=18:=by unfold sizeK;split <;> (try split) <;> (try split) <;> omega
  have hxs:=hx.2.2.2
  have hk4:=k4_cells hx.1 hx.2.1
  have hNew:=RecAt.new V #[.int .u8 (x.1 / 16777216 % 256),.int .u8 (x.1 / 65536 % 256),.int .u8 (x.1 / 256 % 256),.int .u8 (x.1 % 256)] 5
  have hsA:(V.alloc (.cells #[.int .u8 (x.1 / 16777216 % 256),.int .u8 (x.1 / 65536 % 256),.int .u8 (x.1 / 256 % 256),.int .u8 (x.1 % 256)] 5)).heap.size=V.heap.size+1:=by simp
  have hkA:Keeps (fun k=>k=w.heap.size\/M<=k) V (V.alloc (.cells #[.int .u8 (x.1 / 16777216 % 256),.int .u8 (x.1 / 65536 % 256),.int .u8 (x.1 / 256 % 256),.int .u8 (x.1 % 256)] 5)):=(Keeps.refl _ _).alloc _
  have hbA:BAt (V.alloc (.cells #[.int .u8 (x.1 / 16777216 % 256),.int .u8 (x.1 / 65536 % 256),.int .u8 (x.1 / 256 % 256),.int .u8 (x.1 % 256)] 5)) M w.heap.size (textK pre):=HBt.out.keep (fun k hk=>Below.heap_alloc _ _ _ hk)
  clear HBt Hx
  generalize V.alloc (.cells #[.int .u8 (x.1 / 16777216 % 256),.int .u8 (x.1 / 65536 % 256),.int .u8 (x.1 / 256 % 256),.int .u8 (x.1 % 256)] 5)=V1 at *
  have hcells:∀ j u,(Lib.byteCells (k4 x.1))[j]? = some u->V1.cell? ⟨V.heap.size,j,none⟩=some u:=by
   intro j u hu
   rw [hk4] at hu
   match j with
   | 0=>cases hu;exact hNew.cell 0
   | 1=>cases hu;exact hNew.cell 1
   | 2=>cases hu;exact hNew.cell 2
   | 3=>cases hu;exact hNew.cell 3
   | j+4=>cases hu
  have HW:=hid (show Calls prog 79 #[.pointer (some ⟨w.heap.size,0,none⟩),.slice (some ⟨V.heap.size,0,none⟩) 4 4] V1 _ from bWrite M w.heap.size V.heap.size (textK pre) (k4 x.1) 4 V1 hbA (by omega) (by omega) (show (textK pre).length+4<=1000000 by omega) (show 0<4 by decide) hcells (by omega) (by omega))
  clear hcells hNew hk4
  refine ⟨trivial,rfl,(CallsIn.inRound _ (callsIn_wide.2 HW.out)).mono ?_⟩
  clear HW
  rintro e V2 ⟨rfl,hb2',hk2⟩
  have hs2:=hk2.size
  have HS:=hid (bWriteStr M w.heap.size (textK pre++k4 x.1) x.2 V2 hb2' (by omega) (by omega) (by rw [List.length_append,show (k4 x.1).length=4 from rfl];omega) hx.2.2.1)
  gi_wp2
  refine ⟨trivial,rfl,(CallsIn.inRound _ (callsIn_wide.2 HS.out)).mono ?_⟩
  clear HS
  rintro e V3 ⟨rfl,hb3',hk3⟩
  gi_wp2
  have hkk:=(hkA.trans hk2).trans hk3
  refine ⟨hkk,hp,?_,hbel.trans (hkk.toBelow (fun k h=>by omega) hbel.size)⟩
  rw [textK_app,show textK [x]=k4 x.1++x.2.data.toList by simp [textK,recT],<- List.append_assoc]
  exact hb3'
 case done =>
  rintro M V hM ⟨hpre,hbat,hbel⟩ hD
  have HBt:=hid hbat
  clear hbat
  go_wp2_with fail
  have hMw:w.heap.size<M:=by omega
  refine (bString w.heap.size w.heap.size (textK L.kvs) V (HBt.out.is hMw) hbel.size).mono ?_
  rintro e V' ⟨rfl,_,hb',ho'⟩
  have hD':=ho' _ _ hD (by simp;omega) (by intro c fz h;cases h)
  go_wp2
  exact text_end hD' (hbel.trans hb') (by omega)
 case stop =>
  rintro M c pre V hM hp h hD
  exact h.elim
end
section
open Go.RowKit Go.Shelf
theorem LedgerAt.keepsT {w w':World} {S:Nat->Prop} {l lim:Nat} {d:Nat×Nat} {L:Led} (h:LedgerAt w l d L lim) (ha:∀ g,S g->NoNodeT w g) (hne:¬ S l) (hk:Keeps S w w'):LedgerAt w' l d L lim:=by
 obtain ⟨⟨r,n₀,h3,h4⟩,h5,h6,h7⟩:=h
 refine ⟨⟨r,n₀,keeps_same hk hne h3,h4.keptT (X:=S) hk.size (fun g o u hg hc => ?_) ha⟩,h5,h6,h7⟩
 rw [hk.cell (p:=⟨g,o,none⟩) (World.block_lt_of_cell? w ⟨g,o,none⟩ hc) hg]
 exact hc
theorem LedgerAt.noNode {w:World} {l lim:Nat} {d:Nat×Nat} {L:Led} (h:LedgerAt w l d L lim):NoNodeT w l:=by
 obtain ⟨⟨r,n₀,hb,_⟩,_⟩:=h
 exact ⟨fun a n c e=>absurd e (hb.noNode.1 _ _ _),hb.noNode.2⟩
theorem LedgerAt.tag {w:World} {l lim:Nat} {d:Nat×Nat} {L:Led} (h:LedgerAt w l d L lim):∃ c,w.heap[l]? = some (.cells c 113 (0,0)):=by
 obtain ⟨⟨r,n₀,hb,_⟩,_⟩:=h
 exact ⟨_,hb⟩
theorem LedgerAt.noBk {w:World} {l lim:Nat} {d:Nat×Nat} {L:Led} (h:LedgerAt w l d L lim):NoBk w l:=by
 obtain ⟨⟨r,n₀,hb,_⟩,_⟩:=h
 intro z y _ h2
 rw [hb.ct] at h2
 cases h2
theorem BkF.own01 {B b:Nat} {w:World} {vt vp:Value} {L:Led} {k:Bk} (h:BkF B w b vt vp L k):∀ g,bkOwn b vt vp g->∃ z y,w.cell? ⟨g,0,none⟩=some (.int .i64 z)/\w.cell? ⟨g,1,none⟩=some (.int .i64 y):=by
 rintro g (rfl | hg | hg)
 ·exact ⟨_,_,h.bk.side 0 (by omega),h.bk.side 1 (by omega)⟩
 ·by_cases he:k.tubes=[]
  ·rw [h.nt he] at hg;simp [Value.ownBlock] at hg
  ·obtain ⟨oa,cap,rfl,hform⟩:=h.bk.tubes.form
   obtain ⟨g',e,_,_,_,t0,t1,_⟩:=h.bk.tube (m:=0) (List.length_pos_iff.2 he)
   subst e
   have:g'=g:=by simpa [Value.ownBlock] using hg
   subst this
   rw [Nat.zero_mul] at t0 t1
   exact ⟨_,_,t0,t1⟩
 ·by_cases he:k.poured=[]
  ·rw [h.np he] at hg;simp [Value.ownBlock] at hg
  ·obtain ⟨oa,cap,rfl,hform⟩:=h.bk.poured.form
   obtain ⟨g',e,_,_,_,t0,_⟩:=hform 0 (List.length_pos_iff.2 he)
   subst e
   have:g'=g:=by simpa [Value.ownBlock] using hg
   subst this
   have t1:=t0 1 (by omega)
   have t0:=t0 0 (by omega)
   rw [Nat.zero_mul] at t0 t1
   exact ⟨_,_,t0,t1⟩
theorem BkF.keepsN {w w':World} {S:Nat->Prop} {b:Nat} {vt vp:Value} {L:Led} {k:Bk} (h:BkF 0 w b vt vp L k) (hS:∀ g,S g->NoBk w g) (hk:Keeps S w w'):BkF 0 w' b vt vp L k:=by
 refine ⟨h.bk.keeps hk (fun g hg hs => ?_),h.sim,h.nt,h.np,h.fb,h.ft,h.fp⟩
 obtain ⟨z,y,h0,h1⟩:=h.own01 g hg
 exact hS g hs z y h0 h1
theorem BkX.keepsN {w w':World} {S:Nat->Prop} {b:Nat} {L:Led} (h:BkX 0 w b L) (hS:∀ g,S g->NoBk w g) (hk:Keeps S w w'):BkX 0 w' b L:=by
 obtain ⟨vt,vp,k,hf⟩:=h
 exact ⟨vt,vp,k,hf.keepsN hS hk⟩
end
end Go.Proofs.YtalncjhldkcmaaaGreat
