import Derived.Test.YtalncjhldkcmaaaGreatFb47
import Derived.Test.YtalncjhldkcmaaaGreatFb40
import Derived.OwnWalk
namespace Go.Proofs.YtalncjhldkcmaaaGreat
open _root_.Go.Proofs.Tryz
set_option maxHeartbeats 16000000
set_option maxRecDepth 8000
section
open Go.RowKit Go.Shelf
theorem Tryz.infoPairP:(prog.info? 76).map (fun i=>(i.zero,i.size,i.bytes))=some (some (.pointer none),1,8):=by kernel_rfl
theorem WI.grown_box {B:Nat} {w w7:World} {wb:Nat} {v:Value} {qs:List PD} (h:WI B w wb v qs) (hg:w.grownBy w7 v.ownBlock):w7.cell? ⟨wb,0,none⟩=some v/\w7.frozen? ⟨wb,0,none⟩=false:=by
 have hk7:Keeps (fun g=>v.ownBlock=some g) w w7:=(Keeps.refl _ w).grown hg (fun k e=>.inl e)
 have hwb:¬ v.ownBlock=some wb:=fun e=>by
  obtain ⟨c,t⟩:=h.row_tag e
  exact tag_ne t h.box (by decide) rfl
 exact ⟨(hk7.cell (p:=⟨wb,0,none⟩) h.lt hwb).trans h.cell,(hk7.frozen (p:=⟨wb,0,none⟩) h.lt hwb).trans h.fz⟩
theorem one_cell (w:World) (x:Value) (t:TypeId):∀ j u,[x][j]? = some u->(w.alloc (.cells #[x] t)).cell? ((⟨w.heap.size,0,none⟩:Addr).add j)=some u:=by
 intro j u hj
 match j,hj with
 | 0,hj=>simp at hj;subst hj;simp [Addr.add]
theorem none_snd:Led.none.Sound:=Led.none_sound ⟨Led.none_ok,(fun _ h=>by cases h),(fun _ h=>by cases h),(fun _ h=>by cases h),(fun _ h=>by cases h),(fun _ h=>by cases h),(fun _ h=>by cases h)⟩
theorem PairI.ltg {w:World} {p l d g b n t:Nat} {L:Led} (h:PairI w p l d g b n t L):g<w.heap.size:=by obtain ⟨img,h1,_⟩:=h.disk;exact h1.ltg
theorem made_disk {w1 w2:World} {z:Nat} (hz:z<=1000) (h:w2.ownsRow w1.heap.size 5 1 (.slice (some ⟨w1.heap.size,0,none⟩) (z*128) (z*128)) (z*128) (madeCells (Value.cells (.int .u8 0)) (z*128*1)).toList) (hgr:w1.grownBy w2 none) :
  DiskH (w2.alloc (.cells #[.slice (some ⟨w1.heap.size,0,none⟩) (z*128) (z*128)] 88)) w2.heap.size w1.heap.size z (List.replicate (z*128) 0)/\Below w1.heap.size w1 (w2.alloc (.cells #[.slice (some ⟨w1.heap.size,0,none⟩) (z*128) (z*128)] 88))/\w1.heap.size<=w2.heap.size:=by
 have hb2:Below w1.heap.size w1 w2:=Below.grown (Below.refl _ _) hgr nlr (fun k hk=>by cases hk)
 have hba:Below w2.heap.size w2 (w2.alloc (.cells #[.slice (some ⟨w1.heap.size,0,none⟩) (z*128) (z*128)] 88)):=(Below.refl _ w2).alloc nlr _
 have hc:(Value.int .u8 0).cells=#[.int .u8 0]:=rfl
 rw [hc,toList_madeCells_one] at h
 refine ⟨?_,hb2.trans (hba.mono hb2.size),hb2.size⟩
 rcases h.2 with ⟨hv,_⟩ | ⟨g,cap,cur,hv,hB,hh,h1,h2,h3,h4⟩
 ·cases hv
 ·injection hv with hv _ hcap
  injection hv with hv
  injection hv with hv _ _
  subst hv hcap
  have hbc:Lib.byteCells (List.replicate (z*128) (0:UInt8))=List.replicate (z*128*1) (Value.int .u8 0):=by simp [Lib.byteCells]
  have hcur:cur.toList=List.replicate (z*128*1) (Value.int .u8 0):=by rw [<- h4,List.take_of_length_le (by simp;omega)]
  refine ⟨⟨z*128,Nat.le_refl _,by unfold maxLen;omega,World.alloc_heap_new w2 _⟩,⟨cur,(hba.block _ (Array.getElem?_eq_some_iff.1 hh).1).trans hh,?_,?_⟩,by simp⟩
  ·rw [hbc,<- h4,Nat.mul_one]
  ·intro x hx
   rw [hcur] at hx
   rw [List.eq_of_mem_replicate hx]
   exact ⟨_,rfl⟩
theorem begins_any (B wb:Nat) (v:Value) (qs:List PD) (c:Int) (z:Nat) (hz:z<300) (HPk:Hid (∀ u,Calls prog 31 #[.int .i64 c,.int .i64 300] u fun e w'=>e=.returned (.int .i64 z)/\w'=u)) (w:World) (h:WI B w wb v qs) (hB:B<=w.heap.size) (hl:qs.length<=1000) :
  Calls prog 24 #[.pointer (some ⟨wb,0,none⟩),.int .i64 c] w fun e w'=>e=.returned (.bool true)/\∃ v' qs',WI B w' wb v' qs'/\qs'.length<=qs.length+1/\qs.length<=qs'.length/\(16<=z/\z<=256->qs'.length=qs.length+1)/\Keeps (fun g=>B<=g) w w'/\TagK w w':=by
 obtain ⟨i0,hi,hz0,hz1,hz2⟩:=info_parts Tryz.infoByte
 have H:=hid h
 have hzi:(z:Int)<300:=by omega
 clear h
 go_enter func24,ntmps24
 go_wp2_with fail
 refine (HPk.out _).mono ?_
 clear HPk
 rintro e w1 ⟨rfl,rfl⟩
 have HMk:=hid (fun w2 hown hgrow=>made_disk (w1:=w1) (w2:=w2) (z:=z) (by omega) hown hgrow)
 by_cases hb1:z<16
 ·have hbi:(z:Int)<16:=by omega
  go_wp2_with (at_make;refine wpList_make_full _ rfl _ _ 51 rfl w1.heap.size 5 i0 (.int .u8 0) 1 underlying51 hi hz0 hz1 .i64 .i64 _ _ (z*128) rfl rfl rfl rfl (by rw [hz2];omega) (by unfold maxLen;omega) (by simp) ?_;intro w2 hown2 hgrow2;obtain ⟨hDk,hbD,hszD⟩:=HMk.out w2 hown2 hgrow2;have hconv:=conv_disk hDk (z*128);clear hown2 hgrow2)
  refine (open_bad z (.inl hb1) (by omega) ⟨(List.replicate (z*128) (0:UInt8)).toArray⟩ (by show (List.replicate (z*128) (0:UInt8)).toArray.size=_;simp) _).mono ?_
  rintro e w3 ⟨rfl,hb3⟩
  have hbD:=hbD.trans (hb3.mono hbD.size)
  have HE:=hid (And.intro (H.out.below hbD) (And.intro (below_toKeeps hbD (fun g=>B<=g)) (TagK.below hbD)))
  clear hbD hDk hconv H hb3
  go_wp2
  go_ret
  exact ⟨rfl,v,qs,HE.out.1,by omega,by omega,fun h=>by omega,HE.out.2.1,HE.out.2.2⟩
 by_cases hb2:256<z
 ·have hbi:¬ (z:Int)<16:=by omega
  have hbj:(256:Int)<(z:Int):=by omega
  go_wp2_with (at_make;refine wpList_make_full _ rfl _ _ 51 rfl w1.heap.size 5 i0 (.int .u8 0) 1 underlying51 hi hz0 hz1 .i64 .i64 _ _ (z*128) rfl rfl rfl rfl (by rw [hz2];omega) (by unfold maxLen;omega) (by simp) ?_;intro w2 hown2 hgrow2;obtain ⟨hDk,hbD,hszD⟩:=HMk.out w2 hown2 hgrow2;have hconv:=conv_disk hDk (z*128);clear hown2 hgrow2)
  refine (open_bad z (.inr hb2) (by omega) ⟨(List.replicate (z*128) (0:UInt8)).toArray⟩ (by show (List.replicate (z*128) (0:UInt8)).toArray.size=_;simp) _).mono ?_
  rintro e w3 ⟨rfl,hb3⟩
  have hbD:=hbD.trans (hb3.mono hbD.size)
  have HE:=hid (And.intro (H.out.below hbD) (And.intro (below_toKeeps hbD (fun g=>B<=g)) (TagK.below hbD)))
  clear hbD hDk hconv H hb3
  go_wp2
  go_ret
  exact ⟨rfl,v,qs,HE.out.1,by omega,by omega,fun h=>by omega,HE.out.2.1,HE.out.2.2⟩
 have hbi:¬ (z:Int)<16:=by omega
 have hbj:¬ (256:Int)<(z:Int):=by omega
 go_wp2_with (at_make;refine wpList_make_full _ rfl _ _ 51 rfl w1.heap.size 5 i0 (.int .u8 0) 1 underlying51 hi hz0 hz1 .i64 .i64 _ _ (z*128) rfl rfl rfl rfl (by rw [hz2];omega) (by unfold maxLen;omega) (by simp) ?_;intro w2 hown2 hgrow2;obtain ⟨hDk,hbD,hszD⟩:=HMk.out w2 hown2 hgrow2;have hconv:=conv_disk hDk (z*128);clear hown2 hgrow2)
 refine (opens_any _ _ z 0 _ Led.none _ hDk (holds_zero (by omega) (by omega)) none_snd (by show 0<=_;omega)).mono ?_
 rintro e w3 ⟨l,rfl,hL3,hl3,hb3⟩
 have hdk:=hDk.below hb3
 have hB3:Below w1.heap.size w1 w3:=hbD.trans (hb3.mono hbD.size)
 have hW3:=H.out.below hB3
 have wc:w3.cell? ⟨wb,0,none⟩=some v:=by simp only [World.cell?,hW3.box];rfl
 have wf:w3.frozen? ⟨wb,0,none⟩=false:=by simp [World.frozen?,hW3.box]
 have hl1:w1.heap.size<=l:=Nat.le_trans hbD.size hl3
 have HX:=hid (And.intro hL3 (And.intro hdk (And.intro hB3 (And.intro hW3 hl1))))
 have HLt:=hid (fun x (hx:x∈qs)=>And.intro (H.out.each x hx).led.lt (PairI.ltg (H.out.each x hx)))
 clear hbD hDk hconv hb3 H hL3 hl3 hdk hB3 hW3 HMk hl1
 generalize w2.heap.size=db at *
 obtain ⟨ip,hip,hp0,hp1,hp2⟩:=info_parts Tryz.infoPairP
 have hA3:=HX.out.2.2.2.1
 have hb4:Below w3.heap.size w3 (((w3.alloc (.cells #[.int .i64 0,.int .i64 0,.int .i64 0,.int .i64 0,.int .i64 0,.int .i64 0,.int .i64 0,.int .i64 0,.int .i64 0,.int .i64 0,.slice none 0 0,.slice none 0 0] 94)).alloc (.cells #[.pointer (some ⟨l,0,none⟩),.pointer (some ⟨db,0,none⟩),.pointer (some ⟨w3.heap.size,0,none⟩)] 75)).alloc (.cells #[.pointer (some ⟨w3.heap.size+1,0,none⟩)] 76)):=(((Below.refl _ w3).alloc nlr _).alloc (by simp) _).alloc (by simp;omega) _
 have hW6:=hA3.below hb4
 have HW6:=hid hW6
 have HB4:=hid hb4
 have wr6:=hW6.row
 have HAl:=hid hW6.all
 have hB3s:=HX.out.2.2.1.size
 clear hA3 hb4 hW6
 go_wp2_with (at_builtin;refine wpList_append_all (C:=IsPtr) rfl (.tmp 53) (.tmp 60) 61 rfl B 76 ip (.pointer none) 8 underlying61 hip hp0 rfl ⟨_,rfl⟩ (fun u hu=>by obtain ⟨x,rfl⟩:=hu;rfl) hp1 hp2 v qs.length (ptrs qs) rfl wr6 HAl.out (fun u hu=>by obtain ⟨x,_,rfl⟩:=List.mem_map.1 hu;exact ⟨_,rfl⟩) ⟨w3.heap.size+2,0,none⟩ 1 1 [.pointer (some ⟨w3.heap.size+1,0,none⟩)] rfl rfl (by have:=one_cell ((w3.alloc (.cells #[.int .i64 0,.int .i64 0,.int .i64 0,.int .i64 0,.int .i64 0,.int .i64 0,.int .i64 0,.int .i64 0,.int .i64 0,.int .i64 0,.slice none 0 0,.slice none 0 0] 94)).alloc (.cells #[.pointer (some ⟨l,0,none⟩),.pointer (some ⟨db,0,none⟩),.pointer (some ⟨w3.heap.size,0,none⟩)] 75)) (.pointer (some ⟨w3.heap.size+1,0,none⟩)) 76;simpa using this) (fun u hu=>by simp at hu;subst hu;exact ⟨_,rfl⟩) (by unfold maxLen;omega) (by omega) (by simp;omega) ?_;intro v7 w7 ho7 hg7 ha7;obtain ⟨g7,cap7,rfl⟩:=own_form ho7;obtain ⟨wc7,wf7⟩:=HW6.out.grown_box hg7)
 go_ret
 obtain ⟨hL3,hdk,hB3,hW3,hl1⟩:=HX.out
 have hq:PD.I ⟨w3.heap.size+1,l,db,w1.heap.size,w3.heap.size,z,0,Led.none⟩ (((w3.alloc (.cells #[.int .i64 0,.int .i64 0,.int .i64 0,.int .i64 0,.int .i64 0,.int .i64 0,.int .i64 0,.int .i64 0,.int .i64 0,.int .i64 0,.slice none 0 0,.slice none 0 0] 94)).alloc (.cells #[.pointer (some ⟨l,0,none⟩),.pointer (some ⟨db,0,none⟩),.pointer (some ⟨w3.heap.size,0,none⟩)] 75)).alloc (.cells #[.pointer (some ⟨w3.heap.size+1,0,none⟩)] 76)):=by
  refine ⟨?_,⟨_,hdk.below HB4.out,holds_zero (by omega) (by omega)⟩,hL3.below HB4.out,none_snd,?_⟩
  ·unfold PairH
   show (_:World).heap[w3.heap.size+1]? = _
   rw [Below.heap_alloc _ _ _ (by simp)]
   have:=heap_alloc_new (w3.alloc (.cells #[.int .i64 0,.int .i64 0,.int .i64 0,.int .i64 0,.int .i64 0,.int .i64 0,.int .i64 0,.int .i64 0,.int .i64 0,.int .i64 0,.slice none 0 0,.slice none 0 0] 94)) (.cells #[.pointer (some ⟨l,0,none⟩),.pointer (some ⟨db,0,none⟩),.pointer (some ⟨w3.heap.size,0,none⟩)] 75)
   simpa using this
  ·have hbk:BkAt (w3.alloc (.cells #[.int .i64 0,.int .i64 0,.int .i64 0,.int .i64 0,.int .i64 0,.int .i64 0,.int .i64 0,.int .i64 0,.int .i64 0,.int .i64 0,.slice none 0 0,.slice none 0 0] 94)) w3.heap.size (.slice none 0 0) (.slice none 0 0) ⟨fun _=>0,[],[]⟩:=BkAt.box w3 ⟨fun _=>0,[],[]⟩
   have hX:BkX 0 (w3.alloc (.cells #[.int .i64 0,.int .i64 0,.int .i64 0,.int .i64 0,.int .i64 0,.int .i64 0,.int .i64 0,.int .i64 0,.int .i64 0,.int .i64 0,.slice none 0 0,.slice none 0 0] 94)) w3.heap.size Led.none:=⟨_,_,_,hbk,⟨fun _ _=>rfl,rfl,List.Perm.refl _⟩,fun _=>rfl,fun _=>rfl,Nat.zero_le _,fun _ _=>Nat.zero_le _,fun _ _=>Nat.zero_le _⟩
   exact hX.below ((bal).alloc (by simp) _)
 have hk7:Keeps (fun g=>B<=g) w1 w7:=((below_toKeeps hB3 (fun g=>B<=g)).trans (below_toKeeps HB4.out _)).grown hg7 (fun k e=>.inl (wr6.lt k e).1)
 refine ⟨rfl,_,_,HW6.out.more hq (fun x hx=>⟨?_,?_,?_⟩) ⟨by show B<=w3.heap.size+1;omega,by show B<=l;omega,by show B<=w1.heap.size;omega⟩ ho7 hg7 ha7,by simp,by simp,fun _=>by simp,hk7.set1 HW6.out.far.1 _ _,((TagK.below hB3).trans (TagK.below HB4.out)).trans (HW6.out.tagMore hg7)⟩
 ·have:=(hW3.each x hx).pair.lt
  show x.p≠w3.heap.size+1
  omega
 ·have:=(HLt.out x hx).1
  show x.l≠l
  omega
 ·have:=(HLt.out x hx).2
  show x.g≠w1.heap.size
  omega
end
section
open Go.RowKit Go.Shelf
theorem lpick_val (c:Int) (h:I64 c) (n:Nat) (hn:0<n) (hn2:n<=1000):∃ z:Nat,z<n/\∀ w,Calls prog 31 #[.int .i64 c,.int .i64 n] w fun e w'=>e=.returned (.int .i64 z)/\w'=w:=by
 obtain ⟨h1,h2⟩:=h
 have hz:((n:Int) == 0)=false:=bnf.2 (by omega)
 have hr:∀ a:Int,0<=a->∃ z:Nat,a % (n:Int)=z/\z<n:=fun a ha=>by
  have g1:=Int.emod_nonneg a (b:=(n:Int)) (by omega)
  have g2:=Int.emod_lt_of_pos a (b:=(n:Int)) (by omega)
  exact ⟨(a % (n:Int)).toNat,by omega,by omega⟩
 have HR:=hid hr
 clear hr
 by_cases h:c<0
 ·have e : -(c+1).tmod (n:Int)=(-(c+1)) % (n:Int):=by
   rw [<- Int.neg_tmod,Int.tmod_eq_emod_of_nonneg (by omega)]
  have HE:=hid e
  clear e
  obtain ⟨z,hz1,hz2⟩:=HR.out (-(c+1)) (by omega)
  have HZ:=hid hz1
  clear hz1
  refine ⟨z,hz2,fun w => ?_⟩
  go_enter func31,ntmps31
  go_wp2
  go_ret
  exact ⟨ret_int (by rw [HE.out,HZ.out]),rfl⟩
 ·obtain ⟨z,hz1,hz2⟩:=HR.out c (by omega)
  have HZ:=hid hz1
  clear hz1
  refine ⟨z,hz2,fun w => ?_⟩
  go_enter func31,ntmps31
  go_wp2
  go_ret
  exact ⟨ret_int HZ.out,rfl⟩
structure OpD where
 k:Int
 on:Int
 c:Nat->Int
 fr:ByteArray
 nn:Int
 l:Nat->Int
def OpD.val (o:OpD):Value:=.agg #[.int .i64 o.k,.int .i64 o.on,.int .i64 (o.c 0),.int .i64 (o.c 1),.int .i64 (o.c 2),.int .i64 (o.c 3),.int .i64 (o.c 4),.int .i64 (o.c 5),.int .i64 (o.c 6),.int .i64 (o.c 7),.int .i64 (o.c 8),.string o.fr,.int .i64 o.nn,.int .i64 (o.l 0),.int .i64 (o.l 1),.int .i64 (o.l 2),.int .i64 (o.l 3)]
def StepPost (B:Nat) (w:World) (wb:Nat) (qs:List PD) (e:Ending) (w':World):Prop:=e=.returned (.bool true)/\∃ v' qs',WI B w' wb v' qs'/\qs'.length<=qs.length+1/\qs.length<=qs'.length/\Keeps (fun g=>B<=g) w w'/\TagK w w'
theorem step_open (B wb:Nat) (v:Value) (qs:List PD) (o:OpD) (hk:o.k=1) (hn:I64 o.nn) (w:World) (h:WI B w wb v qs) (hB:B<=w.heap.size) (hl:qs.length<=900) :
  Calls prog 25 #[.pointer (some ⟨wb,0,none⟩),o.val] w (StepPost B w wb qs):=by
 obtain ⟨z,hz,hpk⟩:=lpick_val o.nn hn 300 (by omega) (by omega)
 have H:=hid h
 clear h hn
 unfold OpD.val
 rw [hk]
 go_enter func25,ntmps25
 have HB:=hid (fun u hu hBu=>begins_any B wb v qs o.nn z hz (hid hpk) u hu hBu (by omega))
 have hb0:Below w.heap.size w (w.alloc (.cells #[.int .i64 1,.int .i64 o.on,.int .i64 (o.c 0),.int .i64 (o.c 1),.int .i64 (o.c 2),.int .i64 (o.c 3),.int .i64 (o.c 4),.int .i64 (o.c 5),.int .i64 (o.c 6),.int .i64 (o.c 7),.int .i64 (o.c 8),.string o.fr,.int .i64 o.nn,.int .i64 (o.l 0),.int .i64 (o.l 1),.int .i64 (o.l 2),.int .i64 (o.l 3)] 70)):=(Below.refl _ w).alloc nlr _
 have hW:=H.out.below hb0
 have hs0:=hb0.size
 go_wp2_with fail
 refine (HB.out _ hW (by omega)).mono ?_
 rintro e w1 ⟨rfl,v1,qs1,hW1,h1,h2,_,h4,h5⟩
 have HE:=hid (And.intro hW1 (And.intro h1 (And.intro h2 (And.intro ((below_toKeeps hb0 (fun g=>B<=g)).trans h4) ((TagK.below hb0).trans h5)))))
 clear hW1 h1 h2 h4 h5 hb0 hW HB H
 go_wp2
 go_ret
 exact ⟨rfl,v1,qs1,HE.out.1,HE.out.2.1,HE.out.2.2.1,HE.out.2.2.2⟩
end
end Go.Proofs.YtalncjhldkcmaaaGreat
