import Derived.Test.YtalncjhldkcmaaaGreatFbW1
import Derived.Deep.Slices
import Derived.Carry
import Derived.ProofKit
namespace Go.Proofs.YtalncjhldkcmaaaGreat
open _root_.Go.Proofs.Tryz
set_option maxHeartbeats 16000000
set_option maxRecDepth 8000
section
open Go.RowKit Go.Shelf
theorem done_lit {sb l g cap:Nat} {p:Int} {L:Led} (m:Cm) {mv:Value} {e:Int} {zs:List Int} {L':Led} (hm:encB m.ints=true) (hv:m.val=mv) (hE:L.stepE 32 m=e) (hN:L.stepN 32 m=zs) (hL:L.stepL 32 m=L') (w:World) (hS:KH w sb l g cap p L) :
  Calls prog 15 #[.pointer (some ⟨sb,0,none⟩),mv] w fun en w'=>∃ vv,en=.returned (.tuple #[vv,.int .i64 e])/\IntsIn w' vv zs/\KH w' sb l g cap p L'/\Keeps (fun k=>k=l\/k=g) w w'/\New w.heap.size vv:=by
 subst hv hE hN hL
 exact kdone_any sb l g cap p L m hm w hS
theorem none_snd:Led.none.Sound:=Led.none_sound ⟨Led.none_ok,(fun _ h=>by cases h),(fun _ h=>by cases h),(fun _ h=>by cases h),(fun _ h=>by cases h),(fun _ h=>by cases h),(fun _ h=>by cases h)⟩
def lg1:Led:=⟨[(1,3)],[],[]⟩
def lg2:Led:=⟨[(1,3)],[(5,⟨0,1,1,2,1,0,100,100,0,0⟩)],[]⟩
def lg3:Led:=⟨[(1,3)],[(5,⟨0,1,1,2,1,0,100,70,0,0⟩),(9,⟨2,2,1,2,1,0,0,30,0,0⟩)],[(5,9,30)]⟩
theorem lg_a:Led.none.stepE 32 ⟨1,0,0,0,0,1,0,0,3⟩=0/\Led.none.stepN 32 ⟨1,0,0,0,0,1,0,0,3⟩=[]/\Led.none.stepL 32 ⟨1,0,0,0,0,1,0,0,3⟩=lg1:=⟨by kernel_rfl,by kernel_rfl,by kernel_rfl⟩
theorem lg_b:lg1.stepE 32 ⟨2,5,0,2,100,1,0,1,0⟩=0/\lg1.stepN 32 ⟨2,5,0,2,100,1,0,1,0⟩=[]/\lg1.stepL 32 ⟨2,5,0,2,100,1,0,1,0⟩=lg2:=⟨by kernel_rfl,by kernel_rfl,by kernel_rfl⟩
theorem lg_c:lg2.stepE 32 ⟨4,5,9,0,30,1,2,2,0⟩=0/\lg2.stepN 32 ⟨4,5,9,0,30,1,2,2,0⟩=[]/\lg2.stepL 32 ⟨4,5,9,0,30,1,2,2,0⟩=lg3:=⟨by kernel_rfl,by kernel_rfl,by kernel_rfl⟩
theorem lg_d:lg3.stepE 32 ⟨12,9,0,0,0,0,0,0,0⟩=0/\lg3.stepN 32 ⟨12,9,0,0,0,0,0,0,0⟩=[2,0,30,0,0,1,0,1,2,2]/\lg3.stepL 32 ⟨12,9,0,0,0,0,0,0,0⟩=lg3:=⟨by kernel_rfl,by kernel_rfl,by kernel_rfl⟩
theorem lg_e:lg3.stepE 32 ⟨16,5,0,0,0,0,0,0,0⟩=0/\lg3.stepN 32 ⟨16,5,0,0,0,0,0,0,0⟩=[9]/\lg3.stepL 32 ⟨16,5,0,0,0,0,0,0,0⟩=lg3:=⟨by kernel_rfl,by kernel_rfl,by kernel_rfl⟩
theorem ints10 (w:World):IntsIn (w.alloc (.cells #[.int .i64 2,.int .i64 0,.int .i64 30,.int .i64 0,.int .i64 0,.int .i64 1,.int .i64 0,.int .i64 1,.int .i64 2,.int .i64 2] 3)) (.slice (some ⟨w.heap.size,0,none⟩) 10 10) [2,0,30,0,0,1,0,1,2,2]:=by
 refine .inl ⟨w.heap.size,10,rfl,by simp,fun i hi => ?_⟩
 rw [World.cell?_alloc_new]
 match i,hi with
 | 0,_=>rfl
 | 1,_=>rfl
 | 2,_=>rfl
 | 3,_=>rfl
 | 4,_=>rfl
 | 5,_=>rfl
 | 6,_=>rfl
 | 7,_=>rfl
 | 8,_=>rfl
 | 9,_=>rfl
 | n+10,h=>simp at h;omega
theorem ints1 (w:World):IntsIn (w.alloc (.cells #[.int .i64 9] 3)) (.slice (some ⟨w.heap.size,0,none⟩) 1 1) [9]:=by
 refine .inl ⟨w.heap.size,1,rfl,by simp,fun i hi => ?_⟩
 rw [World.cell?_alloc_new]
 match i,hi with
 | 0,_=>rfl
 | n+1,h=>simp at h
theorem made_row {w1 w2:World} {z:Nat} (h:w2.ownsRow w1.heap.size 5 1 (.slice (some ⟨w1.heap.size,0,none⟩) z z) z (madeCells (Value.cells (.int .u8 0)) (z*1)).toList) :
  ∃ cur,w2.heap[w1.heap.size]? = some (.cells cur 5 (0,0))/\cur.toList.take z=Lib.byteCells (List.replicate z 0)/\∀ v∈cur.toList,IsU8 v:=by
 have hc:(Value.int .u8 0).cells=#[.int .u8 0]:=rfl
 rw [hc,toList_madeCells_one] at h
 rcases h.2 with ⟨hv,_⟩ | ⟨g,cap,cur,hv,hB,hh,h1,h2,h3,h4⟩
 ·cases hv
 ·injection hv with hv _ hcap
  injection hv with hv
  injection hv with hv _ _
  subst hv hcap
  have hbc:Lib.byteCells (List.replicate z (0:UInt8))=List.replicate (z*1) (Value.int .u8 0):=by simp [Lib.byteCells]
  have hcur:cur.toList=List.replicate (z*1) (Value.int .u8 0):=by rw [<- h4,List.take_of_length_le (by simp;omega)]
  refine ⟨cur,hh,?_,?_⟩
  ·rw [hbc,<- h4,Nat.mul_one]
  ·intro x hx
   rw [hcur] at hx
   rw [List.eq_of_mem_replicate hx]
   exact ⟨_,rfl⟩
theorem newBox_alloc (w0:World) (g:Nat):StoreBox (w0.alloc (.cells #[.pointer none,.slice (some ⟨g,0,none⟩) 32768 32768,.int .i64 0] 53)) w0.heap.size none (.slice (some ⟨g,0,none⟩) 32768 32768) 0:=World.alloc_heap_new w0 _
theorem kstore_any (w:World) :
  Calls prog 12 #[] w fun e w'=>∃ sb l g,e=.returned (.tuple #[.pointer (some ⟨sb,0,none⟩),.bool true])/\KH w' sb l g 32768 0 lg3/\w.heap.size<=sb/\w.heap.size<=l/\w.heap.size<=g/\Below w.heap.size w w':=by
 obtain ⟨i0,hi,hz0,hz1,hz2⟩:=info_parts Tryz.infoByte
 go_enter func12,ntmps12
 go_wp2_with (at_make;refine wpList_make_full _ rfl _ _ 51 rfl w.heap.size 5 i0 (.int .u8 0) 1 underlying51 hi hz0 hz1 .i64 .i64 _ _ 32768 rfl rfl rfl rfl (by rw [hz2];omega) (by unfold maxLen;omega) (by simp) ?_;intro w0 hown0 hgrow0)
 have hrow:=made_row hown0
 have hB0:Below w.heap.size w w0:=Below.grown (Below.refl _ _) hgrow0 (by simp) (fun k hk=>by cases hk)
 clear hown0 hgrow0 hi hz0 hz1 hz2
 have hba:Below w0.heap.size w0 (w0.alloc (.cells #[.pointer none,.slice (some ⟨w.heap.size,0,none⟩) 32768 32768,.int .i64 0] 53)):=bal
 have hR0:RowD w0 w.heap.size (List.replicate 32768 0):=⟨hrow,List.length_replicate⟩
 have hN:=newBox_alloc w0 w.heap.size
 have hBa:Below w.heap.size w (w0.alloc (.cells #[.pointer none,.slice (some ⟨w.heap.size,0,none⟩) 32768 32768,.int .i64 0] 53)):=hB0.alloc hB0.size _
 have HO:=hid (sopen_any w0.heap.size w.heap.size 32768 none 0 (List.replicate 32768 0) 0 Led.none ⟨by omega,by unfold maxLen;omega⟩ (holds_zero (n:=256) (by omega) (by omega)) none_snd (by decide) _ hN (hR0.below hba))
 have HW:=hid hB0.size
 have HB:=hid hBa
 clear hN hBa hB0 hrow hba hR0
 go_wp2_with fail
 refine HO.out.mono ?_
 clear HO
 rintro e w1 ⟨l,rfl,hS1,hl1,hk1⟩
 generalize hsb:w0.heap.size=sb at *
 have HL:=hid (show w.heap.size<=l by have:=HB.out.size;omega)
 have HB1:=hid (show Below w.heap.size w w1 from below_keeps HB.out hk1 (fun k h=>by subst h;exact HW.out))
 clear HB hk1 hl1 hsb
 have HS:=hid (show KH w1 sb l w.heap.size 32768 0 Led.none from ⟨_,_,hS1,holds_zero (n:=256) (by omega) (by omega)⟩)
 clear hS1
 go_wp2_with fail
 refine (done_lit ⟨1,0,0,0,0,1,0,0,3⟩ (by decide +kernel) rfl lg_a.1 lg_a.2.1 lg_a.2.2 _ HS.out).mono ?_
 clear HS
 rintro e w2 ⟨v2,rfl,-,hS2,hk2,-⟩
 have HS:=hid hS2
 clear hS2
 go_wp2_with fail
 refine (done_lit ⟨2,5,0,2,100,1,0,1,0⟩ (by decide +kernel) rfl lg_b.1 lg_b.2.1 lg_b.2.2 _ HS.out).mono ?_
 clear HS
 rintro e w3 ⟨v3,rfl,-,hS3,hk3,-⟩
 have HS:=hid hS3
 clear hS3
 go_wp2_with fail
 refine (done_lit ⟨4,5,9,0,30,1,2,2,0⟩ (by decide +kernel) rfl lg_c.1 lg_c.2.1 lg_c.2.2 _ HS.out).mono ?_
 clear HS
 rintro e w4 ⟨v4,rfl,-,hS4,hk4,-⟩
 have HS:=hid hS4
 clear hS4
 go_wp2_with fail
 refine (done_lit ⟨12,9,0,0,0,0,0,0,0⟩ (by decide +kernel) rfl lg_d.1 lg_d.2.1 lg_d.2.2 _ HS.out).mono ?_
 have HL4:=hid HS.out.lt
 clear HS
 rintro e w5 ⟨v5,rfl,hi5,hS5,hk5,hn5⟩
 have HS:=hid hS5
 clear hS5
 go_wp2_with fail
 refine (done_lit ⟨16,5,0,0,0,0,0,0,0⟩ (by decide +kernel) rfl lg_e.1 lg_e.2.1 lg_e.2.2 _ HS.out).mono ?_
 rintro e w6 ⟨v6,rfl,hi6,hS6,hk6,-⟩
 have hi5':=hi5.keepsN hn5 (S:=fun k=>k=l\/k=w.heap.size) (fun x hx=>by have:=HL4.out;rcases hx with rfl | rfl <;> omega) hk6
 have HK:=hid (below_keeps HB1.out ((((hk2.trans hk3).trans hk4).trans hk5).trans hk6) (fun k h=>h.elim (fun h=>h ▸ HL.out) (fun h=>h ▸ Nat.le_refl _)))
 clear HS hi5 hk2 hk3 hk4 hk5 hk6 HB1 hn5 HL4
 have HS:=hid hS6
 have H5:=hid hi5'
 have H6:=hid hi6
 clear hS6 hi5' hi6
 have HQ1:=hid (same_any v5 _ [2,0,30,0,0,1,0,1,2,2] _ (H5.out.below' bal) (ints10 w6) (by simp))
 go_wp2_with fail
 refine HQ1.out.mono ?_
 clear HQ1
 rintro e w7 ⟨rfl,nd,rfl⟩
 have h6:IntsIn ((w6.alloc (.cells #[.int .i64 2,.int .i64 0,.int .i64 30,.int .i64 0,.int .i64 0,.int .i64 1,.int .i64 0,.int .i64 1,.int .i64 2,.int .i64 2] 3)).drewN nd) v6 [9]:=(H6.out.below' bal).drewN nd
 have hbb:Below w6.heap.size w6 ((w6.alloc (.cells #[.int .i64 2,.int .i64 0,.int .i64 30,.int .i64 0,.int .i64 0,.int .i64 1,.int .i64 0,.int .i64 1,.int .i64 2,.int .i64 2] 3)).drewN nd):=below_drewN bal nd
 have HK7:=hid (HK.out.trans (hbb.mono HK.out.size))
 have HS7:=hid (HS.out.below hbb)
 have H67:=hid h6
 clear H5 H6 HS HK hbb h6
 generalize ((w6.alloc (.cells #[.int .i64 2,.int .i64 0,.int .i64 30,.int .i64 0,.int .i64 0,.int .i64 1,.int .i64 0,.int .i64 1,.int .i64 2,.int .i64 2] 3)).drewN nd)=w7 at *
 have HQ2:=hid (same_any v6 _ [9] _ (H67.out.below' bal) (ints1 w7) (by simp))
 go_wp2_with fail
 refine HQ2.out.mono ?_
 clear HQ2
 rintro e w8 ⟨rfl,nd2,rfl⟩
 go_wp2
 go_ret2
 have hbb:Below w7.heap.size w7 ((w7.alloc (.cells #[.int .i64 9] 3)).drewN nd2):=below_drewN bal nd2
 exact ⟨sb,l,w.heap.size,rfl,HS7.out.below hbb,HW.out,HL.out,Nat.le_refl _,HK7.out.trans (hbb.mono HK7.out.size)⟩
end
section
open Go.RowKit Go.Shelf
def RawsIn (w:World) (v:Value) (n:Nat) (R:Nat->Nat->Int):Prop :=
 ∃ oa cap,v=.slice oa n cap/\n<=maxLen/\∀ i,i<n->∃ a:Addr,oa=some a/\a.block<w.heap.size/\(∀ j,j<5->w.cell? (a.add (i*5+j))=some (.int .i64 (R i j)))/\∀ j,I64 (R i j)
namespace Led
theorem act_psN (L:Led) (m:Cm):(L.act m).ps.length<=L.ps.length+(if m.k=4\/m.k=5 then 1 else 0):=by
 by_cases h4:m.k=4
 ·rw [if_pos (.inl h4)]
  simp only [Led.act,h4]
  exact insP_len _ _ _ _
 by_cases h5:m.k=5
 ·rw [if_pos (.inr h5)]
  simp only [Led.act,h5]
  exact insP_len _ _ _ _
 rw [if_neg (by omega),Led.act_ps h4 h5]
 exact Nat.le_refl _
theorem act_bs0 {L:Led} {m:Cm} (h1:m.k≠1):(L.act m).bs=L.bs:=by
 by_cases h2:m.k=2
 ·rw [Led.act,if_neg h1,if_pos h2];rfl
 by_cases h3:m.k=3
 ·rw [Led.act,if_neg h1,if_neg h2,if_pos h3];rfl
 by_cases h4:m.k=4
 ·rw [Led.act,if_neg h1,if_neg h2,if_neg h3,if_pos h4];rfl
 by_cases h5:m.k=5
 ·rw [Led.act,if_neg h1,if_neg h2,if_neg h3,if_neg h4,if_pos h5];rfl
 by_cases h6:m.k=6
 ·rw [Led.act,if_neg h1,if_neg h2,if_neg h3,if_neg h4,if_neg h5,if_pos h6];rfl
 by_cases h7:m.k=7
 ·rw [Led.act,if_neg h1,if_neg h2,if_neg h3,if_neg h4,if_neg h5,if_neg h6,if_pos h7];rfl
 by_cases h8:m.k=8
 ·rw [Led.act,if_neg h1,if_neg h2,if_neg h3,if_neg h4,if_neg h5,if_neg h6,if_neg h7,if_pos h8];rfl
 by_cases h9:m.k=9
 ·rw [Led.act,if_neg h1,if_neg h2,if_neg h3,if_neg h4,if_neg h5,if_neg h6,if_neg h7,if_neg h8,if_pos h9];exact (Led.chg_bs _ _ _).1
 by_cases h10:m.k=10
 ·rw [Led.act,if_neg h1,if_neg h2,if_neg h3,if_neg h4,if_neg h5,if_neg h6,if_neg h7,if_neg h8,if_neg h9,if_pos h10];exact (Led.chg_bs _ _ _).1
 by_cases h11:m.k=11
 ·rw [Led.act,if_neg h1,if_neg h2,if_neg h3,if_neg h4,if_neg h5,if_neg h6,if_neg h7,if_neg h8,if_neg h9,if_neg h10,if_pos h11];exact (Led.chg_bs _ _ _).1
 rw [Led.act,if_neg h1,if_neg h2,if_neg h3,if_neg h4,if_neg h5,if_neg h6,if_neg h7,if_neg h8,if_neg h9,if_neg h10,if_neg h11]
theorem act_bsN (L:Led) (m:Cm):∀ x∈(L.act m).bs,x∈L.bs\/(m.k=1/\x.1=m.b):=by
 intro x hx
 by_cases h:m.k=1
 ·rw [Led.act,if_pos h] at hx
  rcases mem_insB.1 hx with rfl | hx
  ·exact .inr ⟨h,rfl⟩
  ·exact .inl hx.1
 ·rw [act_bs0 h] at hx
  exact .inl hx
def Nar (L:Led):Prop:=∀ x∈L.bs,x.1<=2
theorem Nar.step {L:Led} (h:L.Nar) {m:Cm} (hm:CmR m) (lim:Nat):(L.stepL lim m).Nar:=by
 unfold Led.stepL
 split
 ·intro x hx
  rcases act_bsN L m x hx with h1 | ⟨_,h1⟩
  ·exact h x h1
  ·rw [h1];exact hm.b
 ·exact h
theorem step_ps (L:Led) (m:Cm) (lim:Nat):(L.stepL lim m).ps.length<=L.ps.length+(if m.k=4\/m.k=5 then 1 else 0):=by
 unfold Led.stepL
 split
 ·exact act_psN L m
 ·exact Nat.le_add_right _ _
theorem up_len {α:Type} {f:α->Nat} {N:Nat}:∀ (l:List α) (lo:Nat),l.Pairwise (fun a b=>f a<f b)->(∀ x∈l,lo<f x/\f x<=N)->l.length<=N - lo
 | [],_,_,_=>Nat.zero_le _
 | a::t,lo,hp,h=>by
  have h1:=h a (List.mem_cons_self ..)
  rw [List.pairwise_cons] at hp
  have:=up_len t (f a) hp.2 (fun x hx=>⟨hp.1 x hx,(h x (List.mem_cons_of_mem _ hx)).2⟩)
  rw [List.length_cons]
  omega
theorem few_of {L:Led} (hI:L.Inv) (hS:L.Small) (hN:L.Nar) {z:Nat} (hp:L.ps.length<=z):L.kvs.length<=14+z:=by
 have h1:=up_len (f:=Prod.fst) (N:=2) L.bs 0 hI.ok.bs (fun x hx=>⟨(hI.ok.b1 x hx).1,hN x hx⟩)
 have h2:=up_len (f:=Prod.fst) (N:=12) L.ts 0 hI.ok.ts (fun x hx=>⟨(hI.ok.t1 x hx).1,(hS x.1 x.2 ((tube_mem hI.ok).2 hx)).1⟩)
 simp only [Led.kvs,List.length_append,List.length_map]
 omega
end Led
theorem lg3_small:lg3.Small:=fun n q hq=>by
 have hT:∀ n,lg3.tube n=if n=5 then some ⟨0,1,1,2,1,0,100,70,0,0⟩ else if n=9 then some ⟨2,2,1,2,1,0,0,30,0,0⟩ else none:=fun n=>by
  unfold Led.tube lg3
  by_cases h5:n=5
  ·subst h5;rfl
  ·by_cases h9:n=9
   ·subst h9;rfl
   ·have h5':¬ 5=n:=fun e=>h5 e.symm
    have h9':¬ 9=n:=fun e=>h9 e.symm
    simp [h5,h9,h5',h9']
 rw [hT] at hq
 split at hq
 ·next e=>cases hq;subst e;exact ⟨by omega,by show 1<=2;omega,fun e=>by cases e⟩
 ·split at hq
  ·next e=>cases hq;subst e;exact ⟨by omega,by show 1<=2;omega,fun e=>by cases e⟩
  ·cases hq
theorem Reach.small {L:Led} (h:Reach lg3 L):L.Small:=h Led.Small lg3_small (fun _ _ hI hP hm=>hP.step hI hm)
structure PS (W:World) (sb l g gc k:Nat) (L0:Led) (p:Int) (L:Led) (wr:World):Prop where
 st:KH wr sb l g gc p L
 bel:Below W.heap.size W wr
 far:W.heap.size<=sb/\W.heap.size<=l/\W.heap.size<=g
 rch:Reach L0 L
 cnt:0<=p/\p<=k
 prs:(L.ps.length:Int)<=1+p/\L.ps.length<=15
 nar:L.Nar
theorem PS.below {W wr w':World} {sb l g gc k:Nat} {p:Int} {L0 L:Led} (h:PS W sb l g gc k L0 p L wr) (hb:Below wr.heap.size wr w'):PS W sb l g gc k L0 p L w' :=
 ⟨h.st.below hb,h.bel.trans (hb.mono h.bel.size),h.far,h.rch,h.cnt,h.prs,h.nar⟩
theorem PS.may {W wr w':World} {sb l g gc k:Nat} {p:Int} {L0 L:Led} {m:Cm} (h:PS W sb l g gc k L0 p L wr) (hs:KH w' sb l g gc (mayP m p) L) (hk:Keeps (fun k=>k=sb) wr w'):PS W sb l g gc (k+1) L0 (mayP m p) L w' :=
 ⟨hs,below_keeps h.bel hk (fun _ e=>e ▸ h.far.1),h.far,h.rch,by have:=h.cnt;unfold mayP;split <;> omega,by have:=h.prs;unfold mayP;split <;> omega,h.nar⟩
theorem PS.both {W wr w1 w':World} {sb l g gc k:Nat} {p:Int} {L0 L:Led} {m:Cm} (h:PS W sb l g gc k L0 p L wr) (hm:CmR m) (hb:mayB m p=true) (hs:KH w' sb l g gc (mayP m p) (L.stepL 32 m)) (hk1:Keeps (fun k=>k=sb) wr w1) (hk:Keeps (fun k=>k=l\/k=g) w1 w'):PS W sb l g gc (k+1) L0 (mayP m p) (L.stepL 32 m) w':=by
 have hst:=L.step_ps m 32
 refine ⟨hs,below_keeps (below_keeps h.bel hk1 (fun _ e=>e ▸ h.far.1)) hk (fun _ e=>e.elim (fun e=>e ▸ h.far.2.1) (fun e=>e ▸ h.far.2.2)),h.far,h.rch.step h.st.inv hm,?_,?_,h.nar.step hm 32⟩
 ·have:=h.cnt
  unfold mayP
  split <;> omega
 ·have:=h.prs
  unfold mayB at hb
  unfold mayP
  by_cases h4:m.k=4\/m.k=5
  ·rw [if_pos h4] at hb hst
   rw [if_pos h4]
   have:=of_decide_eq_true hb
   omega
  ·rw [if_neg h4] at hst
   rw [if_neg h4]
   omega
theorem plays_any (v:Value) (n:Nat) (R:Nat->Nat->Int) (W:World) (hR:RawsIn W v n R) (sb l g gc:Nat) (L0:Led) (w:World) (hP:PS W sb l g gc 0 L0 0 L0 w) :
  Calls prog 16 #[.pointer (some ⟨sb,0,none⟩),v] w fun e w'=>e=.returned (.tuple #[])/\∃ p L,PS W sb l g gc 60 L0 p L w':=by
 obtain ⟨oa,cap,rfl,hn,hel⟩:=hR
 have HEl:=hid hel
 have HP:=hid hP
 clear hel hP
 go_enter func16,ntmps16
 go_wp2_with fail
 go_loopw [4] (fun i wr=>∃ k:Nat,k<=60/\k<=n/\i=.int .i64 k/\∃ p L,PS W sb l g gc k L0 p L wr) (fun i _=>60 - (intOf i).toNat)
 case atStart=>exact ⟨0,by omega,by omega,rfl,0,L0,HP.out⟩
 case round =>
  clear HP
  obtain ⟨k,hk60,hkn,rfl,p,L,hPS⟩:=hrel
  by_cases hlt:k<n/\k<60
  ·obtain ⟨a,rfl,hab,hcell,hi64⟩:=HEl.out k hlt.1
   obtain ⟨hl1,hl2⟩:=hlt
   have hbw:=hPS.bel
   have x0:wr.cell? (a.add (k*5))=some (.int .i64 (R k 0)):=by exact (hbw.cell (by rw [Addr.add_block];exact hab)).trans (hcell 0 (by omega))
   have x1:wr.cell? ⟨(a.add (k*5)).block,(a.add (k*5)).off+1,none⟩=some (.int .i64 (R k 1)):=by show wr.cell? ((a.add (k*5)).add 1)=_;rw [Addr.addadd];exact (hbw.cell (by rw [Addr.add_block];exact hab)).trans (hcell 1 (by omega))
   have x2:wr.cell? ⟨(a.add (k*5)).block,(a.add (k*5)).off+2,none⟩=some (.int .i64 (R k 2)):=by show wr.cell? ((a.add (k*5)).add 2)=_;rw [Addr.addadd];exact (hbw.cell (by rw [Addr.add_block];exact hab)).trans (hcell 2 (by omega))
   have x3:wr.cell? ⟨(a.add (k*5)).block,(a.add (k*5)).off+3,none⟩=some (.int .i64 (R k 3)):=by show wr.cell? ((a.add (k*5)).add 3)=_;rw [Addr.addadd];exact (hbw.cell (by rw [Addr.add_block];exact hab)).trans (hcell 3 (by omega))
   have x4:wr.cell? ⟨(a.add (k*5)).block,(a.add (k*5)).off+4,none⟩=some (.int .i64 (R k 4)):=by show wr.cell? ((a.add (k*5)).add 4)=_;rw [Addr.addadd];exact (hbw.cell (by rw [Addr.add_block];exact hab)).trans (hcell 4 (by omega))
   have HX:=hid hPS
   have HC:=hid (command_any (R k 0) (R k 1) (R k 2) (R k 3) (R k 4) (hi64 0) (hi64 1) (hi64 2) (hi64 3) (hi64 4))
   have hl1':(k:Int)<(n:Int):=by omega
   have hl2':(k:Int)<60:=by omega
   clear hcell hi64 hbw hPS
   go_wp2_with fail
   refine (HC.out _).mono ?_
   clear HC x0 x1 x2 x3 x4
   rintro e w2 ⟨m,rfl,hm,hb2⟩
   have hK2:=HX.out.below hb2
   have hc0:Below w2.heap.size w2 (w2.alloc (.cells #[.int .i64 m.k,.int .i64 m.t,.int .i64 m.o,.int .i64 m.d,.int .i64 m.v,.int .i64 m.b,.int .i64 m.x,.int .i64 m.y,.int .i64 m.n] 31)):=(Below.refl _ w2).alloc nlr _
   have hK3:=hK2.below hc0
   have hH3:=Cm.has_new w2 31 m
   have hlt3:=has_new_lt w2 m
   have hcs:w2.heap.size≠sb:=by have:=hK2.st.lt;omega
   have hpp:0<=p/\p<=1000:=by have:=hK2.cnt;omega
   have HM:=hid (may_any sb l g gc p L m hpp _ hK3.st)
   have HY:=hid (And.intro hm (And.intro hK3 (And.intro hH3 (And.intro hlt3 hcs))))
   unfold Cm.val at *
   clear hm hb2 hK2 hK3 hH3 hlt3 hc0 HX hcs hpp
   go_wp2_with fail
   refine HM.out.mono ?_
   clear HM
   rintro e w4 ⟨rfl,hS4,hk4⟩
   obtain ⟨hm,hK3,hH3,hlt3,hcs⟩:=HY.out
   have hH4:=has_keeps hH3 hk4 hlt3 hcs
   clear HY hH3 hlt3 hcs
   have hK3s:=hid hK3
   clear hK3
   generalize w2.heap.size=cb at *
   cases hmb:mayB m p with
   | false =>
    have HE:=hid (hK3s.out.may hS4 hk4)
    clear hK3s hS4 hk4 hH4 hm
    go_wp2_with fail
    exact ⟨⟨k+1,by omega,by omega,by go_num,_,_,HE.out⟩,by simp [intOf];omega⟩
   | true =>
    have HD:=hid (kdone_any sb l g gc (mayP m p) L m hm.enc w4 hS4)
    have z0:=hH4.1 0 (by omega)
    have z1:=hH4.1 1 (by omega)
    have z2:=hH4.1 2 (by omega)
    have z3:=hH4.1 3 (by omega)
    have z4:=hH4.1 4 (by omega)
    have z5:=hH4.1 5 (by omega)
    have z6:=hH4.1 6 (by omega)
    have z7:=hH4.1 7 (by omega)
    have z8:=hH4.1 8 (by omega)
    simp only [Cm.ints] at z0 z1 z2 z3 z4 z5 z6 z7 z8
    have HY:=hid (And.intro hm (And.intro hk4 hmb))
    unfold Cm.val at *
    clear hS4 hk4 hH4 hm
    go_wp2_with fail
    refine HD.out.mono ?_
    clear HD z0 z1 z2 z3 z4 z5 z6 z7 z8
    rintro e w5 ⟨vv,rfl,-,hS5,hk5,-⟩
    have HE:=hid (hK3s.out.both HY.out.1 HY.out.2.2 hS5 HY.out.2.1 hk5)
    clear HY hS5 hk5 hK3s
    go_wp2_with fail
    exact ⟨⟨k+1,by omega,by omega,by go_num,_,_,HE.out⟩,by simp [intOf];omega⟩
  ·have HE:=hid (show PS W sb l g gc 60 L0 p L wr from ⟨hPS.st,hPS.bel,hPS.far,hPS.rch,by have:=hPS.cnt;omega,hPS.prs,hPS.nar⟩)
   have hge:¬ ((k:Int)<(n:Int)/\(k:Int)<60):=by omega
   clear HEl hPS hlt
   by_cases hA:(k:Int)<(n:Int)
   ·have hB:¬ (k:Int)<60:=fun h=>hge ⟨hA,h⟩
    clear hge
    go_wp2
    go_end0
    exact ⟨rfl,p,L,HE.out⟩
   ·clear hge
    go_wp2
    go_end0
    exact ⟨rfl,p,L,HE.out⟩
end
section
open Go.ChangeShapes Go.WideShapes Go.ChangeAt Go.RowKit Go.Shelf Go.Deep
theorem Tryz.cellsRaw:prog.cellsOf 34=5:=by kernel_rfl
theorem list5 {α:Type} {l:List α} (h:l.length=5):∃ c0 c1 c2 c3 c4,l=[c0,c1,c2,c3,c4]:=by
 match l,h with
 | [c0,c1,c2,c3,c4],_=>exact ⟨c0,c1,c2,c3,c4,rfl⟩
theorem raw_cells {H:Type} {enc:TypeId×Value->H} {w:World} {base n:Nat} {spare:Nat->Bool} {held:Bool} {cs:List Value} {x:DataW H×List MemPlace}
  (h:DataW.trod enc prog w base spare held n 34 cs=some x):∃ z:Nat->Int,cs=[.int .i64 (z 0),.int .i64 (z 1),.int .i64 (z 2),.int .i64 (z 3),.int .i64 (z 4)]/\∀ j,I64 (z j):=by
 obtain ⟨xs,k,_,hx,hcl,hlen,hall⟩:=DataW.trod_struct underlying34 h
 obtain ⟨v0,v1,v2,v3,v4,rfl⟩:=list5 (hcl.trans Tryz.cellsRaw)
 obtain ⟨y0,y1,y2,y3,y4,rfl⟩:=list5 hlen
 have g0:=hall 0 _ rfl
 have g1:=hall 1 _ rfl
 have g2:=hall 2 _ rfl
 have g3:=hall 3 _ rfl
 have g4:=hall 4 _ rfl
 obtain ⟨n0,e0,rfl,w0⟩:=DataW.trod_int underlying3 g0
 obtain ⟨n1,e1,rfl,w1⟩:=DataW.trod_int underlying3 g1
 obtain ⟨n2,e2,rfl,w2⟩:=DataW.trod_int underlying3 g2
 obtain ⟨n3,e3,rfl,w3⟩:=DataW.trod_int underlying3 g3
 obtain ⟨n4,e4,rfl,w4⟩:=DataW.trod_int underlying3 g4
 simp [Tryz.cellsI] at e0 e1 e2 e3 e4
 subst e0 e1 e2 e3 e4
 refine ⟨fun i=>[n0,n1,n2,n3,n4].getD i 0,rfl,fun i => ?_⟩
 match i with
 | 0=>exact .of_wf w0
 | 1=>exact .of_wf w1
 | 2=>exact .of_wf w2
 | 3=>exact .of_wf w3
 | 4=>exact .of_wf w4
 | n+5=>exact ⟨by simp,by simp⟩
set_option maxRecDepth 100000 in
theorem open_raws {H:Type} {enc:TypeId×Value->H} {W:World} {base:Nat} {v:Value} {d:DataW H} {p:List MemPlace}
  (hval:Value.okWide prog W .any base 25 v) (h:DataW.Trod enc prog W 0 (fun _=>true) true 25 v d p):∃ n R,RawsIn W v n R:=by
 obtain ⟨a1,len1,cap1,rfl⟩:=okWide_slice underlying25 hval
 obtain ⟨fuel,hf⟩:=h
 rcases open_slice underlying25 hf with ⟨hcs,_⟩ | ⟨a,len,cap,m,n,D,Pl,hcs,hb,hl,hm,hmm,_,hx⟩
 ·simp [Value.cells] at hcs
  obtain ⟨rfl,rfl,rfl⟩:=hcs
  exact ⟨0,fun _ _=>0,none,0,rfl,by unfold maxLen;omega,fun i hi=>by omega⟩
 ·simp [Value.cells] at hcs
  obtain ⟨rfl,rfl,rfl⟩:=hcs
  simp only [if_true] at hmm
  subst hmm
  have each:∀ i,i<len1->∃ z:Nat->Int,(∀ j,j<5->W.cell? (a.add (i*5+j))=some (.int .i64 (z j)))/\∀ j,I64 (z j):=fun i hi=>by
   obtain ⟨cs',h1,h2⟩:=hx i (by omega)
   rw [Tryz.cellsRaw] at h1
   obtain ⟨_,hlen,hcell⟩:=World.cells?_some h1
   obtain ⟨z,rfl,hz⟩:=raw_cells h2
   refine ⟨z,fun j hj => ?_,hz⟩
   have:=hcell j hj
   rw [Addr.addadd] at this
   match j,hj,this with
   | 0,_,e=>simpa using e
   | 1,_,e=>simpa using e
   | 2,_,e=>simpa using e
   | 3,_,e=>simpa using e
   | 4,_,e=>simpa using e
  obtain ⟨R,hR⟩:=choose_lt each
  refine ⟨len1,R,some a,_,rfl,by omega,fun i hi=>⟨a,rfl,?_,(hR i hi).1,(hR i hi).2⟩⟩
  have:=cell_lt ((hR i hi).1 0 (by omega))
  rwa [Addr.add_block] at this
theorem array5 {α:Type} {cs:Array α} (h:cs.size=5):∃ c0 c1 c2 c3 c4,cs=#[c0,c1,c2,c3,c4]:=by
 obtain ⟨l⟩:=cs
 match l,h with
 | [c0,c1,c2,c3,c4],_=>exact ⟨c0,c1,c2,c3,c4,rfl⟩
def rawD {H:Type} (c:Nat->Int):DataW H:=.agg [.lit (.int .i64 (c 0)),.lit (.int .i64 (c 1)),.lit (.int .i64 (c 2)),.lit (.int .i64 (c 3)),.lit (.int .i64 (c 4))]
def rawA (c:Nat->Int):Value:=.agg #[.int .i64 (c 0),.int .i64 (c 1),.int .i64 (c 2),.int .i64 (c 3),.int .i64 (c 4)]
set_option maxRecDepth 100000 in
theorem open_raw {H:Type} {enc:TypeId×Value->H} {w:World} {r:_} {b0 base:Nat} {spare:Nat->Bool} {held:Bool} {v:Value} {d:DataW H} {p:List MemPlace}
  (hv:Value.okWide prog w r b0 34 v) (h:DataW.Trod enc prog w base spare held 34 v d p) :
  ∃ c:Nat->Int,v=rawA c/\d=rawD c/\p=[]/\∀ i,(Lit.int .i64 (c i)).wf=true:=by
 obtain ⟨cs,rfl,hsz⟩:=okWide_struct underlying34 hv
 obtain ⟨v0,v1,v2,v3,v4,rfl⟩:=array5 (hsz.trans Tryz.cellsRaw)
 obtain ⟨fuel,hf⟩:=h
 obtain ⟨xs,n,_,hx,_,hlen,hall⟩:=DataW.trod_struct underlying34 hf
 obtain ⟨y0,y1,y2,y3,y4,rfl⟩:=list5 hlen
 simp only [Prod.mk.injEq] at hx
 have g0:=hall 0 _ rfl
 have g1:=hall 1 _ rfl
 have g2:=hall 2 _ rfl
 have g3:=hall 3 _ rfl
 have g4:=hall 4 _ rfl
 obtain ⟨n0,e0,rfl,w0⟩:=DataW.trod_int underlying3 g0
 obtain ⟨n1,e1,rfl,w1⟩:=DataW.trod_int underlying3 g1
 obtain ⟨n2,e2,rfl,w2⟩:=DataW.trod_int underlying3 g2
 obtain ⟨n3,e3,rfl,w3⟩:=DataW.trod_int underlying3 g3
 obtain ⟨n4,e4,rfl,w4⟩:=DataW.trod_int underlying3 g4
 simp [Tryz.cellsI,Value.cells] at e0 e1 e2 e3 e4
 subst e0 e1 e2 e3 e4
 refine ⟨fun i=>[n0,n1,n2,n3,n4].getD i 0,rfl,hx.1,hx.2,fun i => ?_⟩
 match i with
 | 0=>exact w0
 | 1=>exact w1
 | 2=>exact w2
 | 3=>exact w3
 | 4=>exact w4
 | n+5=>rfl
set_option maxRecDepth 100000 in
theorem shut_raw {H:Type} {enc:TypeId×Value->H} {w:World} {base:Nat} {spare:Nat->Bool} {held:Bool} {c:Nat->Int} (hw:∀ i,(Lit.int .i64 (c i)).wf=true) :
  DataW.Trod enc prog w base spare held 34 (rawA c) (rawD c) []:=by
 refine ⟨2,?_⟩
 have t:∀ i,DataW.trod enc prog w base spare held 1 3 [.int .i64 (c i)]=some (.lit (.int .i64 (c i)),[]):=fun i=>by simp [DataW.trod,underlying3,hw i]
 have:=trod_struct_mk (enc:=enc) (w:=w) (base:=base) (spare:=spare) (held:=held) (n:=1) (cs:=[.int .i64 (c 0),.int .i64 (c 1),.int .i64 (c 2),.int .i64 (c 3),.int .i64 (c 4)])
  (xs:=[(.lit (.int .i64 (c 0)),[]),(.lit (.int .i64 (c 1)),[]),(.lit (.int .i64 (c 2)),[]),(.lit (.int .i64 (c 3)),[]),(.lit (.int .i64 (c 4)),[])]) underlying34 (by rw [Tryz.cellsRaw];rfl) (by simp [Tryz.cellsI,t])
 simpa [rawA,rawD,Value.cells] using this
end
end Go.Proofs.YtalncjhldkcmaaaGreat
