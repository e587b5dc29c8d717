import Derived.Test.YtalncjhldkcmaaaGreatFbX0
import Derived.Test.YtalncjhldkcmaaaGreatFb47
namespace Go.Proofs.YtalncjhldkcmaaaGreat
open _root_.Go.Proofs.Tryz
set_option maxHeartbeats 16000000
set_option maxRecDepth 8000
section
open Go.RowKit Go.Shelf
theorem nums_reply (e:Int) (zs:List Int) (he:0<=e/\e<=10) (hn:zs.length<65536) (hz:∀ z∈zs,0<=z/\z<=1000000):numsL (replyL e zs)=zs/\numsT (replyL e zs)=e/\numsE (replyL e zs)=0:=by
 have hfl:∀ l:List Int,l.flatMap (fun z=>be4 z.toNat)=(l.map Int.toNat).flatMap fun f=>be4 f:=fun l=>by rw [List.flatMap_map]
 have hd:(replyL e zs).drop 3=(zs.map Int.toNat).flatMap fun f=>be4 (id f):=by
  show zs.flatMap (fun z=>be4 z.toNat)=_
  exact hfl zs
 have hc:cnt (replyL e zs)=zs.length:=by
  show (UInt8.ofNat (zs.length / 256)).toNat*256+(UInt8.ofNat zs.length).toNat=zs.length
  rw [UInt8.toNat_ofNat',UInt8.toNat_ofNat'];omega
 have hlen:(replyL e zs).length=3+4*zs.length:=by
  have:(replyL e zs).length=3+((zs.map Int.toNat).flatMap fun f=>be4 (id f)).length:=by
   rw [<- hd,List.length_drop]
   have:3<=(replyL e zs).length:=by simp [replyL]
   omega
  rw [this,flat_len id,List.length_map]
 have hnum:∀ j (hj:j<zs.length),numB ((replyL e zs).drop 3) (4*j)=zs[j].toNat:=fun j hj=>by
  have:=hz zs[j] (List.getElem_mem hj)
  rw [hd,flat_numB id (zs.map Int.toNat) j (by simpa using hj) (by simp only [List.getElem_map,id];omega)]
  simp
 have hB:numsB (replyL e zs)=true:=by
  unfold numsB
  rw [hc,hlen]
  have h0:((replyL e zs).getD 0 0).toNat=e.toNat:=by
   show (UInt8.ofNat e.toNat).toNat=e.toNat
   rw [UInt8.toNat_ofNat'];omega
  rw [h0]
  have hk:okN ((replyL e zs).drop 3) zs.length=true:=by
   unfold okN
   rw [List.all_eq_true]
   intro j hj
   have hj':=List.mem_range.1 hj
   have:=hz zs[j] (List.getElem_mem hj')
   rw [hnum j hj']
   exact decide_eq_true (by omega)
  rw [hk,decide_eq_true (show 3<=3+4*zs.length by omega),decide_eq_true (show e.toNat<=10 by omega),decide_eq_true (rfl:3+4*zs.length=3+4*zs.length)]
  rfl
 obtain ⟨h1,h2,h3⟩:=nums_good _ hB
 refine ⟨?_,?_,h3⟩
 ·rw [h1,hc]
  apply List.ext_getElem (by simp)
  intro i h1 h2
  simp only [List.getElem_map,List.getElem_range]
  rw [hnum i h2]
  have:=hz zs[i] (List.getElem_mem h2)
  omega
 ·rw [h2]
  show ((UInt8.ofNat e.toNat).toNat:Int)=e
  rw [UInt8.toNat_ofNat'];omega
theorem reply_size (e:Int) (zs:List Int) (hn:zs.length<65536):(⟨(replyL e zs).toArray⟩:ByteArray).size<=maxLen:=by
 show (replyL e zs).toArray.size<=maxLen
 have hfl:∀ l:List Int,(l.flatMap fun z=>be4 z.toNat).length=4*l.length:=fun l=>by
  induction l with
  | nil=>rfl
  | cons a l ih=>rw [List.flatMap_cons,List.length_append,ih,be4_len,List.length_cons];omega
 have:(replyL e zs).length=3+4*zs.length:=by
  unfold replyL;rw [List.length_append,hfl];rfl
 simp only [List.size_toArray,this]
 unfold maxLen;omega
def StoreBox (w:World) (sb:Nat) (lp:Option Addr) (v:Value) (p:Int):Prop:=w.heap[sb]? = some (.cells #[.pointer lp,v,.int .i64 p] 53 (0,0))
theorem StoreBox.c0 {w:World} {sb:Nat} {lp:Option Addr} {v:Value} {p:Int} (h:StoreBox w sb lp v p):w.cell? ⟨sb,0,none⟩=some (.pointer lp):=by simp only [World.cell?,show w.heap[sb]? = _ from h];rfl
theorem StoreBox.c1 {w:World} {sb:Nat} {lp:Option Addr} {v:Value} {p:Int} (h:StoreBox w sb lp v p):w.cell? ⟨sb,1,none⟩=some v:=by simp only [World.cell?,show w.heap[sb]? = _ from h];rfl
theorem StoreBox.c2 {w:World} {sb:Nat} {lp:Option Addr} {v:Value} {p:Int} (h:StoreBox w sb lp v p):w.cell? ⟨sb,2,none⟩=some (.int .i64 p):=by simp only [World.cell?,show w.heap[sb]? = _ from h];rfl
theorem StoreBox.fz {w:World} {sb:Nat} {lp:Option Addr} {v:Value} {p:Int} (h:StoreBox w sb lp v p) (i:Nat):w.frozen? ⟨sb,i,none⟩=false:=by simp [World.frozen?,show w.heap[sb]? = _ from h]
theorem StoreBox.lt {w:World} {sb:Nat} {lp:Option Addr} {v:Value} {p:Int} (h:StoreBox w sb lp v p):sb<w.heap.size:=(Array.getElem?_eq_some_iff.1 h).1
theorem StoreBox.noNode {w:World} {sb g n c:Nat} {lp:Option Addr} {p:Int} (h:StoreBox w sb lp (.slice (some ⟨g,0,none⟩) n c) p):NoNodeT w sb:=by
 refine ⟨fun s k c e => ?_,fun o kk e => ?_⟩
 ·rw [h.c0] at e;cases e
 ·unfold StoreBox at h
  simp only [World.cell?,h] at e
  match o,e with
  | 0,e=>simp at e
  | 1,e=>simp at e
  | 2,e=>simp at e
  | o+3,e=>simp at e
structure RowD (w:World) (g:Nat) (img:List UInt8):Prop where
 row:∃ cur,w.heap[g]? = some (.cells cur 5 (0,0))/\cur.toList.take 32768=Lib.byteCells img/\∀ v∈cur.toList,IsU8 v
 len:img.length=32768
variable {w w':World} {g:Nat} {img:List UInt8}
theorem RowD.lt (h:RowD w g img):g<w.heap.size:=by obtain ⟨c,h,_⟩:=h.row;exact (Array.getElem?_eq_some_iff.1 h).1
theorem RowD.keeps {S:Nat->Prop} (h:RowD w g img) (hk:Keeps S w w') (hg:¬ S g):RowD w' g img:=by
 obtain ⟨⟨cur,h4,h5,h6⟩,h7⟩:=h
 exact ⟨⟨cur,keeps_same hk hg h4,h5,h6⟩,h7⟩
theorem RowD.below (h:RowD w g img) (hb:Below w.heap.size w w'):RowD w' g img:=h.keeps (below_toKeeps hb (fun _=>False)) (fun h=>h)
theorem RowD.byte (h:RowD w g img) {j:Nat} (hj:j<img.length):w.cell? ⟨g,j,none⟩=some (.int .u8 ((img[j].toNat:Nat):Int)):=by
 obtain ⟨cur,h4,h5,_⟩:=h.row
 have h1:(cur.toList.take 32768)[j]? = some (.int .u8 ((img[j].toNat:Nat):Int)):=by rw [h5];simp [Lib.byteCells,hj]
 rw [List.getElem?_take,if_pos (by rw [<- h.len];exact hj)] at h1
 simp only [World.cell?,h4]
 simpa using h1
theorem RowD.noNode (h:RowD w g img):NoNodeT w g:=by
 obtain ⟨cur,h4,_,h6⟩:=h.row
 have ha:=allC_of h4 h6
 refine ⟨fun a l c e => ?_,fun o k e => ?_⟩
 ·obtain ⟨x,hx⟩:=ha _ _ e;cases hx
 ·obtain ⟨x,hx⟩:=ha _ _ e;cases hx
theorem RowD.tag (h:RowD w g img):∃ c,w.heap[g]? = some (.cells c 5 (0,0)):=by
 obtain ⟨cur,h4,_⟩:=h.row
 exact ⟨_,h4⟩
theorem RowD.put (h:RowD w g img) {o:Nat} {s:List UInt8} (hs:o+s.length<=32768) {cur:Array Value} (hc:w.heap[g]? = some (.cells cur 5 (0,0))) :
  RowD (w.setRow g (cur.toList.take o++Lib.byteCells s++cur.toList.drop (o+s.length)).toArray) g (putB img o s):=by
 obtain ⟨cur',h4,h5,h6⟩:=h.row
 obtain rfl:cur'=cur:=by rw [hc] at h4;injection h4 with h4;injection h4 with e _ _;exact e.symm
 have hlen:=h.len
 have hrow:=setRow_heap w g _ (cur'.toList.take o++Lib.byteCells s++cur'.toList.drop (o+s.length)).toArray 5 (0,0) hc
 have hx:cur'.toList=Lib.byteCells img++cur'.toList.drop 32768:=by rw [<- h5,List.take_append_drop]
 have hp:(putB img o s).length=32768:=by rw [putB_len (by omega)];exact hlen
 have he:=byteCells_put img o s (cur'.toList.drop 32768) (by omega)
 rw [<- hx] at he
 refine ⟨⟨_,hrow,?_,?_⟩,hp⟩
 ·rw [List.toList_toArray,he,List.take_append_of_le_length (by simp [Lib.byteCells,hp]),List.take_of_length_le (by simp [Lib.byteCells,hp])]
 ·rw [List.toList_toArray,he]
  intro v hv
  rcases List.mem_append.1 hv with hv | hv
  ·exact byteCells_u8 _ v hv
  ·exact h6 v (List.mem_of_mem_drop hv)
theorem RowD.conv (h:RowD w g img) (cap:Nat):(convert 51 9 (.slice (some ⟨g,0,none⟩) 32768 cap)).run prog w=.ok (.string ⟨img.toArray⟩) w:=by
 have h1:=own_conv (w:=w) (g:=g) (cap:=cap) (l:=img) (fun j hj=>by rw [addr_add];exact h.byte hj)
 rw [h.len] at h1
 exact h1
def wrJ (img:List UInt8) (ws:List WN) (k j:Nat):List UInt8:=if j<ws.length then allW img (ws.take j) else if ws.length=0 then img else mkW (allW img (ws.take (ws.length - 1))) (ws.getD (ws.length - 1) (-1,[])) k
theorem wrJ_succ (img:List UInt8) (ws:List WN) (k:Nat) {j:Nat} (hj:j<ws.length):wrJ img ws k (j+1)=mkW (wrJ img ws k j) ws[j] (if j+1=ws.length then k else 128):=by
 unfold wrJ
 rw [if_pos hj]
 by_cases h:j+1=ws.length
 ·rw [if_neg (by omega),if_neg (by omega),if_pos h,<- h]
  simp [List.getD_eq_getElem?_getD,List.getElem?_eq_getElem hj]
 ·rw [if_pos (by omega),if_neg h]
  exact allW_succ img ws hj
theorem wrJ_zero (img:List UInt8) (ws:List WN) (k:Nat):wrJ img ws k 0=img:=by
 unfold wrJ
 split
 ·rfl
 ·rw [if_pos (by omega)]
theorem wrJ_all (img:List UInt8) (ws:List WN):wrJ img ws 128 ws.length=allW img ws:=by
 by_cases h:ws.length=0
 ·rw [List.length_eq_zero_iff.1 h];rfl
 ·have:=wrJ_succ img ws 128 (j:=ws.length - 1) (by omega)
  rw [show ws.length - 1+1=ws.length by omega,ite_self] at this
  rw [this]
  unfold wrJ
  rw [if_pos (by omega),<- allW_succ img ws (by omega),show ws.length - 1+1=ws.length by omega,List.take_length]
theorem write_nil (sb:Nat) (n:Int) (w:World) :
  Calls prog 22 #[.pointer (some ⟨sb,0,none⟩),.slice none 0 0,.int .i64 n] w fun e w'=>e=.returned (.tuple #[])/\w'=w:=by
 go_enter func22,ntmps22
 go_wp2_with fail
 go_loopw [6] (fun i wr=>i=.int .i64 0/\wr=w) (fun _ _=>0)
 case atStart=>exact ⟨rfl,rfl⟩
 case round =>
  obtain ⟨rfl,rfl⟩:=hrel
  go_wp2
  go_end0
  exact ⟨rfl,rfl⟩
theorem write_any (sb cap:Nat) (lp:Option Addr) (p:Int) (img:List UInt8) (g:Nat) (hcap:32768<=cap/\cap<=maxLen) (gw cw:Nat) (ws:List WN) (k:Nat) (hk:k<=128) (hw:∀ x∈ws,x.1 = -1\/(0<=x.1/\x.1<256/\x.2.length=128)) (hlen:ws.length<=cw/\ws.length<=1000) (cur:Array Value) (w:World)
  (hB:StoreBox w sb lp (.slice (some ⟨g,0,none⟩) 32768 cap) p) (hR:RowD w g img) (h3:w.heap[gw]? = some (.cells cur 84 (0,0))) (h4:cur.toList.take (ws.length*2)=wCells ws) :
  Calls prog 22 #[.pointer (some ⟨sb,0,none⟩),.slice (some ⟨gw,0,none⟩) ws.length cw,.int .i64 k] w fun e w'=>e=.returned (.tuple #[])/\RowD w' g (wrJ img ws k ws.length)/\Keeps (fun x=>x=g) w w':=by
 obtain ⟨cg,hcg⟩:=hR.tag
 have hne:¬ gw=g:=tag_ne h3 hcg (by decide)
 have hnb:¬ sb=g:=tag_ne hB hcg (by decide)
 have H:=hid (And.intro hB (And.intro h3 h4))
 have Hf:=hid hw
 have HR:=hid hR
 have hcap2:=hcap.2
 have hcap1:=hcap.1
 clear hB hR h3 h4 hw hcg hcap
 go_enter func22,ntmps22
 go_wp2_with fail
 go_loopw [6] (fun i wr=>∃ j:Nat,j<=ws.length/\i=.int .i64 j/\RowD wr g (wrJ img ws k j)/\Keeps (fun x=>x=g) w wr) (fun i _=>ws.length - (intOf i).toNat)
 case atStart=>exact ⟨0,by omega,rfl,by rw [wrJ_zero];exact HR.out,Keeps.refl _ _⟩
 case round =>
  clear HR
  obtain ⟨j,hj,rfl,hDj,hkj⟩:=hrel
  by_cases hjl:j<ws.length
  ·have hji:(j:Int)<(ws.length:Int):=by omega
   obtain ⟨c0,c1⟩:=wr_cells (keeps_same hkj hne H.out.2.1) H.out.2.2 hjl
   have dc:=StoreBox.c1 (keeps_same hkj hnb H.out.1)
   have hx:=Hf.out _ (List.getElem_mem hjl)
   have HS:=hid (wrJ_succ img ws k hjl)
   generalize ws[j]=x at *
   obtain ⟨s,dt⟩:=x
   simp only at hx c0 c1
   rcases hx with rfl | ⟨h0,h1,h2⟩
   ·have HE:=hid (And.intro hDj hkj)
    rw [mkW_flush] at HS
    clear hDj hkj
    go_wp2_with fail
    go_quiet (fail)
    go_wp2_with fail
    exact ⟨⟨j+1,by omega,by go_num,by rw [HS.out];exact HE.out.1.below (below_drewN (Below.refl _ _) _),HE.out.2.drewN _⟩,by simp [intOf];omega⟩
   ·have hds:(⟨dt.toArray⟩:ByteArray).size=128:=by show dt.toArray.size=128;rw [List.size_toArray,h2]
    obtain ⟨s,rfl⟩:∃ z:Nat,s=(z:Int):=⟨s.toNat,by omega⟩
    have hs0:decide ((s:Int)<0)=false:=decide_eq_false (by omega)
    have hs2:decide ((256:Int)<=(s:Int))=false:=decide_eq_false (by omega)
    have hs3:s<256:=by omega
    have hw1:wrap64 ((s:Int)*128)=(s:Int)*128:=by unfold wrap64;omega
    have hw2:IntKind.i64.wrap ((s:Int)*128)=(s:Int)*128:=by simp only [IntKind.wrap,IntKind.bits,IntKind.signed];simp;omega
    have hcs:s*128<cap:=by omega
    have H2:=hid (And.intro h2 (And.intro hDj hkj))
    clear h0 h1 h2 hDj hkj
    go_wp2_with fail
    go_quiet (fail)
    by_cases hla:j+1=ws.length
    ·have hlb:((j:Int) == (ws.length:Int) - 1)=true:=beq_iff_eq.2 (by omega)
     rw [if_pos hla] at HS
     clear hla
     go_wp2_with fail
     refine wp_region_then 18 (by kernel_rfl) (by decide) (by kernel_rfl) (by kernel_rfl) (by kernel_rfl) (by kernel_rfl) ?_
     simp only [List.take_succ_cons,List.take_zero]
     repeat (go_big_quiet_step (fail))
     refine wpQuiet_nil ?_
     rintro w3 ⟨nq2,rfl⟩
     simp only [List.drop_succ_cons,List.drop_zero]
     obtain ⟨h2,hDj,hkj⟩:=H2.out
     have hce:(⟨dt.toArray⟩:ByteArray).extract 0 k=⟨(dt.take k).toArray⟩:=by
      apply ByteArray.ext
      simp
     have hs':(⟨(dt.take k).toArray⟩:ByteArray).size=(dt.take k).length:=by show (dt.take k).toArray.size=_;rw [List.size_toArray]
     have hl:(dt.take k).length=k:=by rw [List.length_take];omega
     rw [hce]
     obtain ⟨cur2,hcur,hcb,hcu⟩:=hDj.row
     have hsz:32768<=cur2.size:=by
      have:=congrArg List.length hcb
      simp [Lib.byteCells,hDj.len] at this
      omega
     refine wpList_copy_run rfl (.tmp 59) (.tmp 66) 51 9 rfl _ _ _ _ rfl rfl (Lib.run_copy_row_string (P:=prog) ((wr.drewN nq).drewN nq2) 51 9 _ 5 g (s*128) (32768 - s*128) (cap - s*128) ⟨(dt.take k).toArray⟩ cur2 5 underlying51 Tryz.infoByteS hcur (by rw [hs',hl];omega) (by rw [hs',hl];omega)) ?_
     have hp:=((hDj.below (below_drewN (Below.refl _ _) nq)).below (below_drewN (Below.refl _ _) nq2)).put (o:=s*128) (s:=dt.take k) (by rw [hl];omega) hcur
     have hk2:=keeps_setRow ((hkj.drewN nq).drewN nq2) (g:=g) (.inl rfl) (cur2.toList.take (s*128)++Lib.byteCells (dt.take k)++cur2.toList.drop (s*128+(dt.take k).length)).toArray
     rw [hs']
     rw [mkW_pos] at HS
     have HE:=hid (And.intro hp hk2)
     clear hp hk2 hDj hkj hcur hcb hcu
     generalize ((wr.drewN nq).drewN nq2).setRow g (cur2.toList.take (s*128)++Lib.byteCells (dt.take k)++cur2.toList.drop (s*128+(dt.take k).length)).toArray=w9 at *
     go_wp2_with fail
     exact ⟨⟨j+1,by omega,by go_num,by rw [HS.out];exact HE.out.1,HE.out.2⟩,by simp [intOf];omega⟩
    ·have hlb:((j:Int) == (ws.length:Int) - 1)=false:=beq_eq_false_iff_ne.2 (by omega)
     rw [if_neg hla] at HS
     clear hla
     go_wp2_with fail
     refine wp_region_then 18 (by kernel_rfl) (by decide) (by kernel_rfl) (by kernel_rfl) (by kernel_rfl) (by kernel_rfl) ?_
     simp only [List.take_succ_cons,List.take_zero]
     repeat (go_big_quiet_step (fail))
     refine wpQuiet_nil ?_
     rintro w3 ⟨nq2,rfl⟩
     simp only [List.drop_succ_cons,List.drop_zero]
     obtain ⟨h2,hDj,hkj⟩:=H2.out
     have hce:(⟨dt.toArray⟩:ByteArray).extract 0 128=⟨(dt.take 128).toArray⟩:=by
      apply ByteArray.ext
      simp
     have hs':(⟨(dt.take 128).toArray⟩:ByteArray).size=(dt.take 128).length:=by show (dt.take 128).toArray.size=_;rw [List.size_toArray]
     have hl:(dt.take 128).length=128:=by rw [List.length_take];omega
     rw [hce]
     obtain ⟨cur2,hcur,hcb,hcu⟩:=hDj.row
     have hsz:32768<=cur2.size:=by
      have:=congrArg List.length hcb
      simp [Lib.byteCells,hDj.len] at this
      omega
     refine wpList_copy_run rfl (.tmp 59) (.tmp 66) 51 9 rfl _ _ _ _ rfl rfl (Lib.run_copy_row_string (P:=prog) ((wr.drewN nq).drewN nq2) 51 9 _ 5 g (s*128) (32768 - s*128) (cap - s*128) ⟨(dt.take 128).toArray⟩ cur2 5 underlying51 Tryz.infoByteS hcur (by rw [hs',hl];omega) (by rw [hs',hl];omega)) ?_
     have hp:=((hDj.below (below_drewN (Below.refl _ _) nq)).below (below_drewN (Below.refl _ _) nq2)).put (o:=s*128) (s:=dt.take 128) (by rw [hl];omega) hcur
     have hk2:=keeps_setRow ((hkj.drewN nq).drewN nq2) (g:=g) (.inl rfl) (cur2.toList.take (s*128)++Lib.byteCells (dt.take 128)++cur2.toList.drop (s*128+(dt.take 128).length)).toArray
     rw [hs']
     rw [mkW_pos] at HS
     have HE:=hid (And.intro hp hk2)
     clear hp hk2 hDj hkj hcur hcb hcu
     generalize ((wr.drewN nq).drewN nq2).setRow g (cur2.toList.take (s*128)++Lib.byteCells (dt.take 128)++cur2.toList.drop (s*128+(dt.take 128).length)).toArray=w9 at *
     go_wp2_with fail
     exact ⟨⟨j+1,by omega,by go_num,by rw [HS.out];exact HE.out.1,HE.out.2⟩,by simp [intOf];omega⟩
  ·have hji:¬ (j:Int)<(ws.length:Int):=by omega
   have HE:=hid (And.intro hDj hkj)
   clear hDj hkj
   go_wp2
   go_end0
   obtain rfl:j=ws.length:=by omega
   exact ⟨rfl,HE.out.1,HE.out.2⟩
end
section
open Go.RowKit Go.Shelf
structure KD where
 g:Nat
 cap:Nat
 img:List UInt8
 t:Nat
structure KAt (w:World) (sb l:Nat) (κ:KD) (p:Int) (L:Led):Prop where
 box:StoreBox w sb (some ⟨l,0,none⟩) (.slice (some ⟨κ.g,0,none⟩) 32768 κ.cap) p
 cap:32768<=κ.cap/\κ.cap<=maxLen
 row:RowD w κ.g κ.img
 led:LedgerAt w l (256,κ.t) L 32
 snd:L.Sound
def KD.Has (κ:KD) (L:Led):Prop:=Holds κ.img 256 κ.t L.text
section
variable {w w':World} {sb l:Nat} {κ:KD} {p:Int} {L:Led}
theorem KAt.inv (h:KAt w sb l κ p L):L.Inv:=h.snd.inv
theorem KAt.lt (h:KAt w sb l κ p L):sb<w.heap.size/\l<w.heap.size/\κ.g<w.heap.size:=⟨h.box.lt,h.led.lt,h.row.lt⟩
theorem KAt.ne (h:KAt w sb l κ p L):sb≠l/\sb≠κ.g/\l≠κ.g:=by
 obtain ⟨cl,tl⟩:=h.led.tag
 obtain ⟨cg,tg⟩:=h.row.tag
 exact ⟨tag_ne h.box tl (by decide),tag_ne h.box tg (by decide),tag_ne tl tg (by decide)⟩
theorem KAt.keepsT {S:Nat->Prop} (h:KAt w sb l κ p L) (hS:∀ x,S x->NoNodeT w x) (h1:¬ S sb) (h2:¬ S l) (h3:¬ S κ.g) (hk:Keeps S w w'):KAt w' sb l κ p L :=
 ⟨keeps_same hk h1 h.box,h.cap,h.row.keeps hk h3,h.led.keepsT hS h2 hk,h.snd⟩
theorem KAt.below (h:KAt w sb l κ p L) (hb:Below w.heap.size w w'):KAt w' sb l κ p L:=h.keepsT (S:=fun _=>False) (fun _ h=>h.elim) (fun h=>h) (fun h=>h) (fun h=>h) (below_toKeeps hb _)
theorem IntsIn.keepsN {S:Nat->Prop} {v:Value} {zs:List Int} {B:Nat} (h:IntsIn w v zs) (hn:New B v) (hS:∀ x,S x->x<B) (hk:Keeps S w w'):IntsIn w' v zs:=by
 rcases h with ⟨g,cap,rfl,hg,hc⟩ | h
 ·refine .inl ⟨g,cap,rfl,Nat.lt_of_lt_of_le hg hk.size,fun j hj => ?_⟩
  have hb:=hn _ _ _ rfl
  rw [World.cell?_of_block (w:=w) (hk.block g hg (fun hs=>by have:=hS _ hs;simp only at hb;omega))]
  exact hc j hj
 ·exact .inr h
end
theorem fOn_ask {L:Led} {m:Cm} (hm:encB m.ints=true) (hk:12<=m.k) (lim:Nat):L.fOn lim (encS m.ints)=false:=by
 obtain ⟨hb1,hb2⟩:=Cm.back hm
 unfold Led.fOn
 rw [hb1,hb2,decide_eq_false (show ¬ m.k<12 by omega)]
 simp
theorem sdo_any (sb l:Nat) (κ:KD) (p:Int) (L:Led) (m:Cm) (hm:encB m.ints=true) (w:World) (hS:KAt w sb l κ p L) :
  Calls prog 21 #[.pointer (some ⟨sb,0,none⟩),m.val] w fun e w'=>∃ vv wv,e=.returned (.tuple #[vv,.int .i64 (L.stepE 32 m),wv])/\IntsIn w' vv (L.stepN 32 m)/\WrV w.heap.size w' wv (L.fWr 32 (256,κ.t) (encS m.ints))/\KAt w' sb l { κ with t:=L.fTn 32 κ.t (encS m.ints) } p (L.stepL 32 m)/\Keeps (fun k=>k=l) w w'/\New w.heap.size vv:=by
 obtain ⟨hb1,hb2⟩:=Cm.back hm
 have hfew:L.kvs.length<7000:=by have:=hS.led.few;omega
 have hE:encE m.ints=0:=by simp [encE,hm]
 have hEs:(⟨(encS m.ints).toArray⟩:ByteArray).size<=maxLen:=by
  show (encS m.ints).toArray.size<=maxLen
  have:=(enc_len m.ints hm).2
  simp only [List.size_toArray];unfold maxLen;omega
 have HEn:=hid (encodeF_any m.ints)
 rw [hE] at HEn
 simp only [Cm.ints] at HEn
 have HDo:=hid (fun u (hu:KAt u sb l κ p L)=>do_any l (256,κ.t) L 32 ⟨(encS m.ints).toArray⟩ hEs u hu.led hu.snd.inv ⟨by show 16<=256;omega,by show 256<=256;omega⟩)
 have e1:L.fErr 32 (encS m.ints)=L.stepE 32 m/\L.fNum 32 (encS m.ints)=L.stepN 32 m/\L.fLed 32 (encS m.ints)=L.stepL 32 m:=by simp [Led.fErr,Led.fNum,Led.fLed,hb1,hb2]
 have hSd:=fLed_sound hS.snd 32 (encS m.ints)
 rw [e1.2.2] at hSd
 unfold LDoEnds at HDo
 rw [show (⟨(encS m.ints).toArray⟩:ByteArray).data.toList=encS m.ints from rfl,e1.1,e1.2.1,e1.2.2,fDk_eq] at HDo
 have hlen:=Led.stepN_len (m:=m) hfew 32
 have HNu:=hid (fun u=>numbersFN_any ⟨(replyL (L.stepE 32 m) (L.stepN 32 m)).toArray⟩ u (reply_size _ _ hlen))
 obtain ⟨n1,n2,n3⟩:=nums_reply (L.stepE 32 m) (L.stepN 32 m) (Led.stepE_range L 32 m) hlen (Led.stepN_range hS.inv hfew 32)
 rw [show (⟨(replyL (L.stepE 32 m) (L.stepN 32 m)).toArray⟩:ByteArray).data.toList=replyL (L.stepE 32 m) (L.stepN 32 m) from rfl,n1,n2,n3] at HNu
 have hb0:=Cm.hb w m
 have HS:=hid hS
 have HB:=hid hb0
 have HI:=hid hSd
 clear hb1 hb2 hE hEs e1 hlen n1 n2 n3 hS hb0 hm hSd
 generalize L.fWr 32 (256,κ.t) (encS m.ints)=ws at *
 generalize L.fTn 32 κ.t (encS m.ints)=t2 at *
 generalize (⟨(encS m.ints).toArray⟩:ByteArray)=fr at *
 generalize (⟨(replyL (L.stepE 32 m) (L.stepN 32 m)).toArray⟩:ByteArray)=rp at *
 generalize L.stepE 32 m=se at *
 generalize L.stepN 32 m=sn at *
 generalize L.stepL 32 m=L2 at *
 unfold Cm.val
 go_enter func21,ntmps21
 go_wp2_with fail
 refine (HEn.out _).mono ?_
 clear HEn
 rintro e w1 ⟨rfl,hb1⟩
 have hB1:Below w.heap.size w w1:=HB.out.trans (hb1.mono HB.out.size)
 have hS1:=HS.out.below hB1
 have c0:=hS1.box.c0
 have HS1:=hid hS1
 clear hS1 HB hb1
 go_wp2_with fail
 refine (HDo.out _ HS1.out).mono ?_
 clear HDo
 rintro e w2 ⟨wv,rfl,hV2,hA2,hk2⟩
 obtain ⟨oa,cw,rfl,-⟩:=hV2.form
 have HV2:=hid hV2
 clear hV2
 go_wp2_with fail
 refine (HNu.out _).mono ?_
 clear HNu
 rintro e w3 ⟨vv,rfl,hi3,hb3,hn3⟩
 go_wp2
 go_ret3
 have hne:=HS1.out.ne
 have h2:KAt w2 sb l { κ with t:=t2 } p L2:=⟨keeps_same hk2 hne.1 HS1.out.box,HS1.out.cap,HS1.out.row.keeps hk2 (fun e=>hne.2.2 e.symm),hA2,HI.out⟩
 exact ⟨vv,_,rfl,hi3,(HV2.out.below hb3).mono hB1.size,h2.below hb3,((below_toKeeps hB1 (fun k=>k=l)).trans hk2).trans (below_toKeeps hb3 _),hn3.mono (Nat.le_trans hB1.size hk2.size)⟩
theorem write_all (sb cap:Nat) (lp:Option Addr) (p:Int) (img:List UInt8) (g B:Nat) (hcap:32768<=cap/\cap<=maxLen) (wv:Value) (ws:List WN) (hf:fitsW 256 ws) (w:World)
  (hB:StoreBox w sb lp (.slice (some ⟨g,0,none⟩) 32768 cap) p) (hR:RowD w g img) (hV:WrV B w wv ws) :
  Calls prog 22 #[.pointer (some ⟨sb,0,none⟩),wv,.int .i64 128] w fun e w'=>e=.returned (.tuple #[])/\RowD w' g (allW img ws)/\Keeps (fun x=>x=g) w w':=by
 rcases hV with ⟨rfl,rfl⟩ | ⟨gw,cw,rfl,_,hcw,hlen,cur,h3,h4⟩
 ·refine (write_nil sb _ w).mono ?_
  rintro e w' ⟨rfl,rfl⟩
  exact ⟨rfl,hR,Keeps.refl _ _⟩
 ·refine (write_any sb cap lp p img g hcap gw cw ws 128 (by omega) hf.1 ⟨hcw,hlen.2⟩ cur w hB hR h3 h4).mono ?_
  rintro e w' ⟨rfl,h1,h2⟩
  rw [wrJ_all] at h1
  exact ⟨rfl,h1,h2⟩
def KH (w:World) (sb l g cap:Nat) (p:Int) (L:Led):Prop:=∃ img t,KAt w sb l ⟨g,cap,img,t⟩ p L/\Holds img 256 t L.text
theorem KH.below {w w':World} {sb l g cap:Nat} {p:Int} {L:Led} (h:KH w sb l g cap p L) (hb:Below w.heap.size w w'):KH w' sb l g cap p L:=by
 obtain ⟨img,t,h1,h2⟩:=h;exact ⟨img,t,h1.below hb,h2⟩
theorem KH.lt {w:World} {sb l g cap:Nat} {p:Int} {L:Led} (h:KH w sb l g cap p L):sb<w.heap.size/\l<w.heap.size/\g<w.heap.size:=by
 obtain ⟨img,t,h1,h2⟩:=h;exact h1.lt
theorem KH.inv {w:World} {sb l g cap:Nat} {p:Int} {L:Led} (h:KH w sb l g cap p L):L.Inv:=by
 obtain ⟨img,t,h1,h2⟩:=h;exact h1.inv
theorem KH.snd {w:World} {sb l g cap:Nat} {p:Int} {L:Led} (h:KH w sb l g cap p L):L.Sound:=by
 obtain ⟨img,t,h1,h2⟩:=h;exact h1.snd
theorem KH.few {w:World} {sb l g cap:Nat} {p:Int} {L:Led} (h:KH w sb l g cap p L):L.kvs.length<=32:=by
 obtain ⟨img,t,h1,h2⟩:=h;exact h1.led.few
theorem kdoneN_any (sb l:Nat) (κ:KD) (p:Int) (L:Led) (m:Cm) (hm:encB m.ints=true) (hq:12<=m.k) (w:World) (hS:KAt w sb l κ p L) :
  Calls prog 15 #[.pointer (some ⟨sb,0,none⟩),m.val] w fun e w'=>∃ vv,e=.returned (.tuple #[vv,.int .i64 (L.stepE 32 m)])/\IntsIn w' vv (L.stepN 32 m)/\KAt w' sb l κ p (L.stepL 32 m)/\Keeps (fun k=>k=l) w w'/\New w.heap.size vv:=by
 have hb0:=Cm.hb w m
 have hof:=fOn_ask (L:=L) hm hq 32
 have HDo:=hid (sdo_any sb l κ p L m hm _ (hS.below hb0))
 rw [show L.fWr 32 (256,κ.t) (encS m.ints)=[] by unfold Led.fWr;rw [hof];rfl,show L.fTn 32 κ.t (encS m.ints)=κ.t by unfold Led.fTn;rw [hof];rfl] at HDo
 have HB:=hid hb0
 clear hb0 hS hm hq hof
 generalize L.stepE 32 m=se at *
 generalize L.stepN 32 m=sn at *
 generalize L.stepL 32 m=L2 at *
 unfold Cm.val at *
 go_enter func15,ntmps15
 go_wp2_with fail
 refine HDo.out.mono ?_
 clear HDo
 rintro e w1 ⟨vv,wv,rfl,hi1,hV1,hS1,hk1,hn1⟩
 obtain rfl:wv=.slice none 0 0:=by
  rcases hV1 with ⟨_,h⟩ | ⟨gw,cw,_,_,_,h,_⟩
  ·exact h
  ·simp at h
 go_wp2_with (go_at_call 22;refine (write_nil sb _ _).mono ?_;rintro e w' ⟨rfl,rfl⟩)
 go_ret2
 exact ⟨vv,rfl,hi1,hS1,(below_toKeeps HB.out _).trans hk1,hn1.mono HB.out.size⟩
theorem kdone_any (sb l g cap:Nat) (p:Int) (L:Led) (m:Cm) (hm:encB m.ints=true) (w:World) (hS:KH w sb l g cap p L) :
  Calls prog 15 #[.pointer (some ⟨sb,0,none⟩),m.val] w fun e w'=>∃ vv,e=.returned (.tuple #[vv,.int .i64 (L.stepE 32 m)])/\IntsIn w' vv (L.stepN 32 m)/\KH w' sb l g cap p (L.stepL 32 m)/\Keeps (fun k=>k=l\/k=g) w w'/\New w.heap.size vv:=by
 have hb0:=Cm.hb w m
 obtain ⟨img,t,hK,hH⟩:=hS
 obtain ⟨hb1,hb2⟩:=Cm.back hm
 have e1:L.fLed 32 (encS m.ints)=L.stepL 32 m:=by simp [Led.fLed,hb1,hb2]
 have HDo:=hid (sdo_any sb l ⟨g,cap,img,t⟩ p L m hm _ (hK.below hb0))
 have HF:=hid (show fitsW 256 (L.fWr 32 (256,t) (encS m.ints)) from fFits (n:=256) (by omega) hK.snd hK.led.few t (encS m.ints))
 have HH:=hid (show Holds (allW img (L.fWr 32 (256,t) (encS m.ints))) 256 (L.fTn 32 t (encS m.ints)) (L.stepL 32 m).text by rw [<- e1];exact fHolds (n:=256) hH hK.snd hK.led.few (encS m.ints))
 have HB:=hid hb0
 have HL:=hid hK.lt
 clear hb0 hm hb1 hb2 e1 hK hH
 simp only at HDo
 generalize L.fWr 32 (256,t) (encS m.ints)=ws at *
 generalize L.fTn 32 t (encS m.ints)=t2 at *
 generalize L.stepE 32 m=se at *
 generalize L.stepN 32 m=sn at *
 generalize L.stepL 32 m=L2 at *
 unfold Cm.val at *
 go_enter func15,ntmps15
 go_wp2_with fail
 refine HDo.out.mono ?_
 clear HDo
 rintro e w1 ⟨vv,wv,rfl,hi1,hV1,hS1,hk1,hn1⟩
 have HW:=hid (write_all sb cap _ p img g _ hS1.cap wv ws HF.out w1 hS1.box hS1.row hV1)
 obtain ⟨oa,cw,rfl,-⟩:=hV1.form
 have H1:=hid (And.intro hi1 (And.intro hS1 (And.intro hk1 hn1)))
 clear hi1 hV1 hS1 hk1 hn1
 go_wp2_with fail
 refine HW.out.mono ?_
 clear HW
 rintro e w2 ⟨rfl,hR2,hk2⟩
 go_wp2
 go_ret2
 obtain ⟨hi1,hS1,hk1,hn1⟩:=H1.out
 have hn0:New w.heap.size vv:=hn1.mono HB.out.size
 have hl:=HL.out
 have hne:=hS1.ne
 have hA2:=hS1.led.keepsT (S:=fun x=>x=g) (fun x hx=>by rw [hx];exact hS1.row.noNode) hne.2.2 hk2
 refine ⟨vv,rfl,hi1.keepsN hn0 (S:=fun x=>x=g) (fun x hx=>by rw [hx];exact hl.2.2) hk2,⟨allW img ws,t2,⟨keeps_same hk2 hne.2.1 hS1.box,hS1.cap,hR2,hA2,hS1.snd⟩,HH.out⟩,?_,hn0⟩
 exact (((below_toKeeps HB.out _).trans hk1).mono (fun x _ hx=>.inl hx)).trans (hk2.mono (fun x _ hx=>.inr hx))
theorem sopen_any (sb g cap:Nat) (lp:Option Addr) (p:Int) (img:List UInt8) (t:Nat) (L:Led) (hcap:32768<=cap/\cap<=maxLen) (hH:Holds img 256 t L.text) (hSd:L.Sound) (hf:L.kvs.length<=32) (w:World) (hB:StoreBox w sb lp (.slice (some ⟨g,0,none⟩) 32768 cap) p) (hR:RowD w g img) :
  Calls prog 23 #[.pointer (some ⟨sb,0,none⟩)] w fun e w'=>∃ l,e=.returned (.bool true)/\KAt w' sb l ⟨g,cap,img,t⟩ p L/\w.heap.size<=l/\Keeps (fun k=>k=sb) w w':=by
 have hconv:=hR.conv cap
 have c1:=hB.c1
 have HO:=hid (open_holds 256 t img L hH hSd hf w)
 have HN:=hid (And.intro hB (And.intro hR hcap))
 have HW:=hid (write_nil sb 128)
 have HS:=hid hSd
 clear hH hSd hf hB hR hcap
 generalize (⟨img.toArray⟩:ByteArray)=ba at *
 go_enter func23,ntmps23
 go_wp2_with fail
 refine HO.out.mono ?_
 clear HO hconv
 rintro e w1 ⟨l,rfl,hA1,hl,hb1⟩
 obtain ⟨hB,hR,hcap⟩:=HN.out
 have hsl:=hB.lt
 have hB1:StoreBox w1 sb lp (.slice (some ⟨g,0,none⟩) 32768 cap) p:=(hb1.block sb hsl).trans hB
 have d0:=hB1.c0
 have f0:=hB1.fz 0
 have H1:=hid (And.intro hB1 (And.intro hA1 (And.intro (hR.below hb1) (And.intro hcap (And.intro hsl (And.intro hl hb1))))))
 clear hB1 hA1 c1 hB hR hcap hsl hl hb1 HN
 go_wp2_with fail
 refine (HW.out _).mono ?_
 rintro e w2 ⟨rfl,rfl⟩
 go_wp2
 go_ret
 obtain ⟨hB1,hA1,hR1,hcap,hsl,hl,hb1⟩:=H1.out
 have hks:Keeps (fun k=>k=sb) w1 (w1.setCell ⟨sb,0,none⟩ (.pointer (some ⟨l,0,none⟩))):=(Keeps.refl (fun k=>k=sb) w1).setCell (p:=⟨sb,0,none⟩) (.inl rfl) _
 have hbx:StoreBox (w1.setCell ⟨sb,0,none⟩ (.pointer (some ⟨l,0,none⟩))) sb (some ⟨l,0,none⟩) (.slice (some ⟨g,0,none⟩) 32768 cap) p:=heap_setCell_same w1 sb 0 _ _ _ hB1
 obtain ⟨cg,tg⟩:=hR1.tag
 have hgs:¬ g=sb:=fun e=>tag_ne hB1 tg (by decide) e.symm
 exact ⟨l,rfl,⟨hbx,hcap,hR1.keeps hks hgs,hA1.keepsT (S:=fun k=>k=sb) (fun x hx=>by rw [hx];exact hB1.noNode) (by omega) hks,HS.out⟩,hl,(below_toKeeps hb1 _).trans hks⟩
theorem KAt.set2 {w:World} {sb l:Nat} {κ:KD} {p:Int} {L:Led} (h:KAt w sb l κ p L) (p':Int):KAt (w.setCell ⟨sb,2,none⟩ (.int .i64 p')) sb l κ p' L:=by
 have hks:Keeps (fun k=>k=sb) w (w.setCell ⟨sb,2,none⟩ (.int .i64 p')):=(Keeps.refl (fun k=>k=sb) w).setCell (p:=⟨sb,2,none⟩) (.inl rfl) _
 have hne:=h.ne
 exact ⟨heap_setCell_same w sb 2 _ _ _ h.box,h.cap,h.row.keeps hks (fun e=>hne.2.1 e.symm),h.led.keepsT (S:=fun k=>k=sb) (fun x hx=>by rw [hx];exact h.box.noNode) (fun e=>hne.1 e.symm) hks,h.snd⟩
theorem KH.set2 {w:World} {sb l g cap:Nat} {p:Int} {L:Led} (h:KH w sb l g cap p L) (p':Int):KH (w.setCell ⟨sb,2,none⟩ (.int .i64 p')) sb l g cap p' L:=by
 obtain ⟨img,t,h1,h2⟩:=h;exact ⟨img,t,h1.set2 p',h2⟩
def mayB (m:Cm) (p:Int):Bool:=if m.k=4\/m.k=5 then decide (p+1<=14) else true
def mayP (m:Cm) (p:Int):Int:=if m.k=4\/m.k=5 then p+1 else p
theorem may_any (sb l g cap:Nat) (p:Int) (L:Led) (m:Cm) (hp:0<=p/\p<=1000) (w:World) (hS:KH w sb l g cap p L) :
  Calls prog 14 #[.pointer (some ⟨sb,0,none⟩),m.val] w fun e w'=>e=.returned (.bool (mayB m p))/\KH w' sb l g cap (mayP m p) L/\Keeps (fun k=>k=sb) w w':=by
 obtain ⟨img,t,hK,hH⟩:=hS
 have c2:=hK.box.c2
 have f2:=hK.box.fz 2
 have hsb:=hK.box.lt
 have H1:=hid (fun (ob:Obj)=>show KH (w.alloc ob) sb l g cap p L/\Keeps (fun k=>k=sb) w (w.alloc ob) from
  ⟨⟨img,t,hK.below bal,hH⟩,below_toKeeps bal _⟩)
 have H2:=hid (fun (ob:Obj) (p':Int)=>show KH ((w.setCell ⟨sb,2,none⟩ (.int .i64 p')).alloc ob) sb l g cap p' L/\Keeps (fun k=>k=sb) w ((w.setCell ⟨sb,2,none⟩ (.int .i64 p')).alloc ob) from
  ⟨⟨img,t,(hK.set2 p').below bal,hH⟩,((Keeps.refl (fun k=>k=sb) w).setCell (p:=⟨sb,2,none⟩) (.inl rfl) (.int .i64 p')).trans (below_toKeeps bal _)⟩)
 clear hK hH
 unfold Cm.val
 go_enter func14,ntmps14
 go_wp2
 ·next h =>
  have h':m.k=4:=by omega
  have e1:mayB m p=decide (p+1<=14):=by unfold mayB;rw [if_pos (.inl h')]
  have e2:mayP m p=p+1:=by unfold mayP;rw [if_pos (.inl h')]
  rw [e1,e2]
  go_ret
  exact ⟨rfl,H2.out _ _⟩
 ·next h =>
  have h':¬ (m.k=4\/m.k=5):=by simp only [bne_iff_ne,ne_eq] at h;omega
  have e1:mayB m p=true:=by unfold mayB;rw [if_neg h']
  have e2:mayP m p=p:=by unfold mayP;rw [if_neg h']
  rw [e1,e2]
  go_ret
  exact ⟨rfl,H1.out _⟩
 ·next h0 h =>
  have h':m.k=4\/m.k=5:=by simp only [bne_eq_false_iff_eq] at h;omega
  have e1:mayB m p=decide (p+1<=14):=by unfold mayB;rw [if_pos h']
  have e2:mayP m p=p+1:=by unfold mayP;rw [if_pos h']
  rw [e1,e2]
  go_ret
  exact ⟨rfl,H2.out _ _⟩
end
end Go.Proofs.YtalncjhldkcmaaaGreat
