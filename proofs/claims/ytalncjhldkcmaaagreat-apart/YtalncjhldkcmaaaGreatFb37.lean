import Derived.Test.YtalncjhldkcmaaaGreatFb00
import Derived.Test.YtalncjhldkcmaaaGreatFb02
import Derived.Test.YtalncjhldkcmaaaGreatFb33
import Derived.Test.YtalncjhldkcmaaaGreatFb09
import Derived.Lib.BufferWrite
import Derived.Test.YtalncjhldkcmaaaGreatFb01
import Derived.Deep.QuietTactic
import Derived.Deep.LoopGhost
namespace Go.Proofs.YtalncjhldkcmaaaGreat
open _root_.Go.Proofs.Tryz
set_option maxHeartbeats 16000000
set_option maxRecDepth 8000
section
open Go.RowKit Go.Shelf
def IsU8 (v:Value):Prop:=∃ z,v=.int .u8 z
structure DiskH (w:World) (d g n:Nat) (img:List UInt8):Prop where
 box:∃ cap,n*128<=cap/\cap<=maxLen/\w.heap[d]? = some (.cells #[.slice (some ⟨g,0,none⟩) (n*128) cap] 88 (0,0))
 row:∃ cur,w.heap[g]? = some (.cells cur 5 (0,0))/\cur.toList.take (n*128)=Lib.byteCells img/\∀ v∈cur.toList,IsU8 v
 len:img.length=n*128
variable {w w':World} {d g n:Nat} {img:List UInt8}
theorem DiskH.lt (h:DiskH w d g n img):d<w.heap.size:=by obtain ⟨c,_,_,h⟩:=h.box;exact (Array.getElem?_eq_some_iff.1 h).1
theorem DiskH.ltg (h:DiskH w d g n img):g<w.heap.size:=by obtain ⟨c,h,_⟩:=h.row;exact (Array.getElem?_eq_some_iff.1 h).1
theorem DiskH.keeps {S:Nat->Prop} (h:DiskH w d g n img) (hk:Keeps S w w') (hd:¬ S d) (hg:¬ S g):DiskH w' d g n img:=by
 obtain ⟨⟨cap,h1,h2,h3⟩,⟨cur,h4,h5,h6⟩,h7⟩:=h
 exact ⟨⟨cap,h1,h2,keeps_same hk hd h3⟩,⟨cur,keeps_same hk hg h4,h5,h6⟩,h7⟩
theorem DiskH.below (h:DiskH w d g n img) (hb:Below w.heap.size w w'):DiskH w' d g n img:=h.keeps (below_toKeeps hb (fun _=>False)) (fun h=>h) (fun h=>h)
theorem DiskH.cell (h:DiskH w d g n img):∃ cap,n*128<=cap/\cap<=maxLen/\w.cell? ⟨d,0,none⟩=some (.slice (some ⟨g,0,none⟩) (n*128) cap):=by
 obtain ⟨cap,h1,h2,h3⟩:=h.box
 exact ⟨cap,h1,h2,by simp only [World.cell?,h3];rfl⟩
theorem DiskH.byte (h:DiskH w d g n img) {j:Nat} (hj:j<img.length):w.cell? ⟨g,j,none⟩=some (.int .u8 ((img[j].toNat:Nat):Int)):=by
 obtain ⟨cur,h4,h5,_⟩:=h.row
 have h1:(cur.toList.take (n*128))[j]? = some (.int .u8 ((img[j].toNat:Nat):Int)):=by rw [h5];simp [Lib.byteCells,hj]
 rw [List.getElem?_take,if_pos (by rw [<- h.len];exact hj)] at h1
 simp only [World.cell?,h4]
 simpa using h1
theorem DiskH.apart (h:DiskH w d g n img):¬ d=g:=by
 rintro rfl
 obtain ⟨cap,_,_,h3⟩:=h.box
 obtain ⟨cur,h4,_⟩:=h.row
 rw [h3] at h4
 injection h4 with h4
 injection h4 with _ e _
 exact absurd e (by decide)
theorem DiskH.all (h:DiskH w d g n img):AllC IsU8 w g:=by
 obtain ⟨cur,h4,_,h6⟩:=h.row
 exact allC_of h4 h6
theorem DiskH.noNode (h:DiskH w d g n img):NoNodeT w g:=by
 refine ⟨fun a l c e => ?_,fun o k e => ?_⟩
 ·obtain ⟨x,hx⟩:=h.all _ _ e;cases hx
 ·obtain ⟨x,hx⟩:=h.all _ _ e;cases hx
theorem DiskH.noBk (h:DiskH w d g n img):NoBk w g:=by
 intro z y h0 _
 obtain ⟨x,hx⟩:=h.all _ _ h0;cases hx
theorem DiskH.tag (h:DiskH w d g n img):∃ c,w.heap[d]? = some (.cells c 88 (0,0)):=by
 obtain ⟨cap,_,_,h3⟩:=h.box
 exact ⟨_,h3⟩
theorem DiskH.tagg (h:DiskH w d g n img):∃ c,w.heap[g]? = some (.cells c 5 (0,0)):=by
 obtain ⟨cur,h4,_⟩:=h.row
 exact ⟨_,h4⟩
theorem byteCells_put (img:List UInt8) (o:Nat) (s:List UInt8) (rest:List Value) (h:o+s.length<=img.length) :
  (Lib.byteCells img++rest).take o++Lib.byteCells s++(Lib.byteCells img++rest).drop (o+s.length)=Lib.byteCells (putB img o s)++rest:=by
 have hl:(Lib.byteCells img).length=img.length:=by simp [Lib.byteCells]
 rw [List.take_append_of_le_length (by omega),List.drop_append_of_le_length (by omega)]
 simp [Lib.byteCells,putB]
theorem byteCells_u8 (l:List UInt8):∀ v∈Lib.byteCells l,IsU8 v:=by
 intro v hv
 simp only [Lib.byteCells,List.mem_map] at hv
 obtain ⟨b,_,rfl⟩:=hv
 exact ⟨_,rfl⟩
theorem DiskH.put (h:DiskH w d g n img) {o:Nat} {s:List UInt8} (hs:o+s.length<=n*128) {cur:Array Value} (hc:w.heap[g]? = some (.cells cur 5 (0,0))) :
  DiskH (w.setRow g (cur.toList.take o++Lib.byteCells s++cur.toList.drop (o+s.length)).toArray) d g n (putB img o s):=by
 obtain ⟨cur',h4,h5,h6⟩:=h.row
 obtain rfl:cur'=cur:=by rw [hc] at h4;injection h4 with h4;injection h4 with e _ _;exact e.symm
 have hlen:=h.len
 have hrow:=setRow_heap w g _ (cur'.toList.take o++Lib.byteCells s++cur'.toList.drop (o+s.length)).toArray 5 (0,0) hc
 have hx:cur'.toList=Lib.byteCells img++cur'.toList.drop (n*128):=by rw [<- h5,List.take_append_drop]
 have hp:(putB img o s).length=n*128:=by rw [putB_len (by omega)];exact hlen
 have he:=byteCells_put img o s (cur'.toList.drop (n*128)) (by omega)
 rw [<- hx] at he
 refine ⟨?_,⟨_,hrow,?_,?_⟩,hp⟩
 ·obtain ⟨cap,h1,h2,h3⟩:=h.box
  exact ⟨cap,h1,h2,(setRow_other w g d _ h.apart).trans h3⟩
 ·rw [List.toList_toArray,he,List.take_append_of_le_length (by simp [Lib.byteCells,hp]),List.take_of_length_le (by simp [Lib.byteCells,hp])]
 ·rw [List.toList_toArray,he]
  intro v hv
  rcases List.mem_append.1 hv with hv | hv
  ·exact byteCells_u8 _ v hv
  ·exact h6 v (List.mem_of_mem_drop hv)
theorem keeps_setRow {S:Nat->Prop} {a:World} (h:Keeps S a w) (hg:S g\/a.heap.size<=g) (c:Array Value):Keeps S a (w.setRow g c) :=
 ⟨h.os,h.tape,h.output,by simpa [World.setRow] using h.size,fun k hk hs=>(setRow_other w g k c (hg.elim (fun hg e=>hs (e ▸ hg)) (fun hg e=>by omega))).trans (h.block k hk hs)⟩
def wCells (l:List WN):List Value:=l.flatMap fun p=>[.int .i64 p.1,.string ⟨p.2.toArray⟩]
theorem wCells_append (a b:List WN):wCells (a++b)=wCells a++wCells b:=by simp [wCells]
def WrV (B:Nat) (w:World) (v:Value) (ws:List WN):Prop :=
 (ws=[]/\v=.slice none 0 0)\/∃ g cap,v=.slice (some ⟨g,0,none⟩) ws.length cap/\B<=g/\ws.length<=cap/\(0<ws.length/\ws.length<=1000)/\∃ cur,w.heap[g]? = some (.cells cur 84 (0,0))/\cur.toList.take (ws.length*2)=wCells ws
theorem WrV.keeps {B:Nat} {v:Value} {ws:List WN} (h:WrV B w v ws) {S:Nat->Prop} (hk:Keeps S w w') (hS:∀ g c,w.heap[g]? = some (.cells c 84 (0,0))->¬ S g):WrV B w' v ws:=by
 rcases h with h | ⟨g,cap,hv,hB,h1,h2,cur,h3,h4⟩
 ·exact .inl h
 ·exact .inr ⟨g,cap,hv,hB,h1,h2,cur,keeps_same hk (hS g cur h3) h3,h4⟩
theorem WrV.below {B:Nat} {v:Value} {ws:List WN} (h:WrV B w v ws) (hb:Below w.heap.size w w'):WrV B w' v ws:=h.keeps (below_toKeeps hb (fun _=>False)) (fun _ _ _ h=>h)
theorem wCells_get (ws:List WN) {i:Nat} (hi:i<ws.length):(wCells ws)[i*2]? = some (.int .i64 ws[i].1)/\(wCells ws)[i*2+1]? = some (.string ⟨ws[i].2.toArray⟩):=by
 induction ws generalizing i with
 | nil=>simp at hi
 | cons a l ih =>
  match i,hi with
  | 0,_=>exact ⟨rfl,rfl⟩
  | i+1,hi =>
   have:=ih (i:=i) (by simpa using hi)
   have e:wCells (a::l)=[.int .i64 a.1,.string ⟨a.2.toArray⟩]++wCells l:=by simp [wCells]
   rw [e,show (i+1)*2=i*2+2 by omega]
   simpa using this
end
section
open Go.RowKit Go.Shelf
def PairH (w:World) (p l d b:Nat):Prop:=w.heap[p]? = some (.cells #[.pointer (some ⟨l,0,none⟩),.pointer (some ⟨d,0,none⟩),.pointer (some ⟨b,0,none⟩)] 75 (0,0))
theorem PairH.lt {w:World} {p l d b:Nat} (h:PairH w p l d b):p<w.heap.size:=(Array.getElem?_eq_some_iff.1 h).1
theorem PairH.c0 {w:World} {p l d b:Nat} (h:PairH w p l d b):w.cell? ⟨p,0,none⟩=some (.pointer (some ⟨l,0,none⟩)):=by simp only [World.cell?,show w.heap[p]? = _ from h];rfl
theorem PairH.c1 {w:World} {p l d b:Nat} (h:PairH w p l d b):w.cell? ⟨p,1,none⟩=some (.pointer (some ⟨d,0,none⟩)):=by simp only [World.cell?,show w.heap[p]? = _ from h];rfl
theorem PairH.c2 {w:World} {p l d b:Nat} (h:PairH w p l d b):w.cell? ⟨p,2,none⟩=some (.pointer (some ⟨b,0,none⟩)):=by simp only [World.cell?,show w.heap[p]? = _ from h];rfl
theorem PairH.fz {w:World} {p l d b:Nat} (h:PairH w p l d b) (j:Nat):w.frozen? ⟨p,j,none⟩=false:=by simp [World.frozen?,show w.heap[p]? = _ from h]
theorem PairH.keeps {S:Nat->Prop} {w w':World} {p l d b:Nat} (h:PairH w p l d b) (hk:Keeps S w w') (hs:¬ S p):PairH w' p l d b:=(hk.block p h.lt hs).trans h
theorem PairH.below {w w':World} {p l d b:Nat} (h:PairH w p l d b) (hb:Below w.heap.size w w'):PairH w' p l d b:=(hb.block p h.lt).trans h
theorem PairH.noNode {w:World} {p l d b:Nat} (h:PairH w p l d b):NoNodeT w p:=by
 refine ⟨fun a n c e => ?_,fun o kk e => ?_⟩
 ·rw [h.c0] at e;cases e
 ·simp only [World.cell?,show w.heap[p]? = _ from h] at e
  match o,e with
  | 0,e=>cases e
  | 1,e=>cases e
  | 2,e=>cases e
  | o+3,e=>simp at e
theorem PairH.noBk {w:World} {p l d b:Nat} (h:PairH w p l d b):NoBk w p:=by
 intro z y h0 _
 rw [h.c0] at h0;cases h0
theorem PairH.setB {w:World} {p l d b b':Nat} (h:PairH w p l d b):PairH (w.setCell ⟨p,2,none⟩ (.pointer (some ⟨b',0,none⟩))) p l d b':=heap_setCell_same w p 2 _ _ _ h
theorem PairH.setL {w:World} {p l d b l':Nat} (h:PairH w p l d b):PairH (w.setCell ⟨p,0,none⟩ (.pointer (some ⟨l',0,none⟩))) p l' d b:=heap_setCell_same w p 0 _ _ _ h
theorem wpList_copy_run {P:Program} {w:World} {ops:Array Oper} {rest:List Oper} {o:Oper} {a:Act} {Q:Exit->Act->World->Prop} (hgd:o.guard=none) (d s:Operand) (dT sT:TypeId)
  (ho:o.op=.call { callee:=.builtin .copy,args:=#[d,s],argTypes:=#[dT,sT] }) (vd vs v':Value) (w':World) (hd:a.eval d=vd) (hs:a.eval s=vs)
  (hrun:(Builtin.copy_ #[dT,sT] o.type #[vd,vs]).run P w=.ok v' w') (h:wpList P ops Q rest (a.put o.dst v') w'):wpList P ops Q (o::rest) a w:=by
 refine wpList_plain hgd fun K hK => ?_
 unfold Oper.wp
 simp [execOp,ho,resolve,invoke,builtin,hd,hs,hrun,Result.andThen]
 exact hK _ _ h
theorem Tryz.infoByteS:(prog.info? 5).map (·.size)=some 1:=by kernel_rfl
theorem make_sec (d g n:Nat) (img:List UInt8) (s:Nat) (dt:List UInt8) (k:Nat) (hn:n<=256) (hs:s<n) (hdt:dt.length=128) (hk:k<=128) (w:World) (hD:DiskH w d g n img) :
  Calls prog 87 #[.pointer (some ⟨d,0,none⟩),.agg #[.int .i64 s,.string ⟨dt.toArray⟩],.int .i64 k] w fun e w'=>e=.returned (.tuple #[])/\DiskH w' d g n (mkW img ((s:Int),dt) k)/\Keeps (fun x=>x=g) w w':=by
 have hb1:Below w.heap.size w (w.alloc (.cells #[.int .i64 s,.string ⟨dt.toArray⟩] 84)):=bal
 have hD1:=hD.below hb1
 have hN:=RecAt.new w #[.int .i64 s,.string ⟨dt.toArray⟩] 84
 obtain ⟨cap,hc1,hc2,dc⟩:=hD1.cell
 obtain ⟨cur,hcur,hcb,hcu⟩:=hD1.row
 have hsz:n*128<=cur.size:=by
  have:=congrArg List.length hcb
  simp [Lib.byteCells,hD.len] at this
  omega
 have n0:(w.alloc (.cells #[.int .i64 s,.string ⟨dt.toArray⟩] 84)).cell? ⟨w.heap.size,0,none⟩=some (.int .i64 s):=hN.cell 0
 have n1:(w.alloc (.cells #[.int .i64 s,.string ⟨dt.toArray⟩] 84)).cell? ⟨w.heap.size,1,none⟩=some (.string ⟨dt.toArray⟩):=hN.cell 1
 have hw1:wrap64 ((s:Int)*128)=(s:Int)*128:=by unfold wrap64;omega
 have hw2:IntKind.i64.wrap ((s:Int)*128)=(s:Int)*128:=by simp only [IntKind.wrap,IntKind.bits,IntKind.signed];simp;omega
 have hcap:s*128<cap:=by omega
 have H:=hid (And.intro hD1 (And.intro hb1 (And.intro hcur (And.intro hsz hD.lt))))
 have hds:(⟨dt.toArray⟩:ByteArray).size=128:=by show dt.toArray.size=128;rw [List.size_toArray,hdt]
 clear hD hD1 hb1 hN hcur hcb hcu hsz
 go_enter func87,ntmps87
 go_wp2_with fail
 refine wp_region_then 12 (by kernel_rfl) (by decide) (by kernel_rfl) (by kernel_rfl) (by kernel_rfl) (by kernel_rfl) ?_
 simp only [List.take_succ_cons,List.take_zero]
 repeat (go_big_quiet_step (fail))
 refine wpQuiet_nil ?_
 rintro w3 ⟨nq,rfl⟩
 simp only [List.drop_succ_cons,List.drop_zero]
 obtain ⟨hD1,hb1,hcur,hsz,hdl⟩:=H.out
 have hce:(⟨dt.toArray⟩:ByteArray).extract 0 k=⟨(dt.take k).toArray⟩:=by
  apply ByteArray.ext
  simp
 have hs':(⟨(dt.take k).toArray⟩:ByteArray).size=(dt.take k).length:=by show (dt.take k).toArray.size=_;rw [List.size_toArray]
 have hl:(dt.take k).length=k:=by rw [List.length_take];omega
 rw [hce]
 refine wpList_copy_run rfl (.tmp 16) (.tmp 20) 51 9 rfl _ _ _ _ rfl rfl (Lib.run_copy_row_string (P:=prog) ((w.alloc (.cells #[.int .i64 s,.string ⟨dt.toArray⟩] 84)).drewN nq) 51 9 _ 5 g (s*128) (n*128 - s*128) (cap - s*128) ⟨(dt.take k).toArray⟩ cur 5 underlying51 Tryz.infoByteS hcur (by rw [hs',hl];omega) (by rw [hs',hl];omega)) ?_
 have hp:=(hD1.below (below_drewN (Below.refl _ _) nq)).put (o:=s*128) (s:=dt.take k) (by rw [hl];omega) hcur
 have hk1:Keeps (fun x=>x=g) w ((w.alloc (.cells #[.int .i64 s,.string ⟨dt.toArray⟩] 84)).drewN nq):=(below_toKeeps hb1 _).drewN nq
 have hk2:=keeps_setRow hk1 (g:=g) (.inl rfl) (cur.toList.take (s*128)++Lib.byteCells (dt.take k)++cur.toList.drop (s*128+(dt.take k).length)).toArray
 rw [hs']
 have HE:=hid (And.intro hp hk2)
 clear hp hk2 hk1 hD1 hb1 hcur
 generalize ((w.alloc (.cells #[.int .i64 s,.string ⟨dt.toArray⟩] 84)).drewN nq).setRow g (cur.toList.take (s*128)++Lib.byteCells (dt.take k)++cur.toList.drop (s*128+(dt.take k).length)).toArray=w9 at *
 go_wp2
 go_end0
 rw [mkW_pos]
 exact ⟨rfl,HE.out.1,HE.out.2⟩
theorem make_flush (d:Nat) (dt:List UInt8) (k:Nat) (w:World) :
  Calls prog 87 #[.pointer (some ⟨d,0,none⟩),.agg #[.int .i64 (-1),.string ⟨dt.toArray⟩],.int .i64 k] w fun e w'=>e=.returned (.tuple #[])/\Below w.heap.size w w':=by
 have hb1:Below w.heap.size w (w.alloc (.cells #[.int .i64 (-1),.string ⟨dt.toArray⟩] 84)):=bal
 have H:=hid hb1
 clear hb1
 go_enter func87,ntmps87
 go_wp2
 go_end0
 exact ⟨rfl,H.out⟩
theorem make_any (d g n:Nat) (img:List UInt8) (x:WN) (hx:x.1 = -1\/(0<=x.1/\x.1<n/\x.2.length=128)) (k:Nat) (hn:n<=256) (hk:k<=128) (w:World) (hD:DiskH w d g n img) :
  Calls prog 87 #[.pointer (some ⟨d,0,none⟩),.agg #[.int .i64 x.1,.string ⟨x.2.toArray⟩],.int .i64 k] w fun e w'=>e=.returned (.tuple #[])/\DiskH w' d g n (mkW img x k)/\Keeps (fun x=>x=g) w w':=by
 obtain ⟨s,dt⟩:=x
 rcases hx with hx | ⟨h0,h1,h2⟩
 ·simp only at hx
  subst hx
  refine (make_flush d dt k w).mono ?_
  rintro e w' ⟨rfl,hb⟩
  rw [mkW_flush]
  exact ⟨rfl,hD.below hb,below_toKeeps hb _⟩
 ·simp only at h0 h1 h2
  obtain ⟨m,rfl⟩:∃ m:Nat,s=m:=⟨s.toNat,by omega⟩
  exact make_sec d g n img m dt k hn (by omega) h2 hk w hD
end
section
open Go.RowKit Go.Shelf
theorem fits_nil (d:Nat) (w:World):Calls prog 49 #[.pointer (some ⟨d,0,none⟩),.slice none 0 0] w fun e w'=>e=.returned (.bool true)/\w'=w:=by
 go_enter func49,ntmps49
 go_wp2_with fail
 go_loopw [5] (fun i wr=>i=.int .i64 0/\wr=w) (fun _ _=>0)
 case atStart=>exact ⟨rfl,rfl⟩
 case round =>
  obtain ⟨rfl,rfl⟩:=hrel
  go_wp2_with fail
  go_ret
  exact ⟨rfl,rfl⟩
theorem all_nil (d:Nat) (w:World):Calls prog 50 #[.pointer (some ⟨d,0,none⟩),.slice none 0 0] w fun e w'=>e=.returned (.tuple #[])/\w'=w:=by
 go_enter func50,ntmps50
 go_wp2_with fail
 go_loopw [4] (fun i wr=>i=.int .i64 0/\wr=w) (fun _ _=>0)
 case atStart=>exact ⟨rfl,rfl⟩
 case round =>
  obtain ⟨rfl,rfl⟩:=hrel
  go_wp2
  go_end0
  exact ⟨rfl,rfl⟩
theorem drewN_more {w wr:World} (h:∃ q,wr=w.drewN q) (n:Nat):∃ q,wr.drewN n=w.drewN q:=by
 obtain ⟨q,rfl⟩:=h
 exact ⟨q+n,by simp [World.drewN,Nat.add_assoc]⟩
theorem allW_succ (img:List UInt8) (ws:List WN) {j:Nat} (hj:j<ws.length):allW img (ws.take (j+1))=mkW (allW img (ws.take j)) ws[j] 128:=by
 rw [List.take_succ_eq_append_getElem hj,allW_append];rfl
theorem wr_cells {w:World} {gw:Nat} {ws:List WN} {cur:Array Value} (h3:w.heap[gw]? = some (.cells cur 84 (0,0))) (h4:cur.toList.take (ws.length*2)=wCells ws) {i:Nat} (hi:i<ws.length):w.cell? ⟨gw,i*2,none⟩=some (.int .i64 ws[i].1)/\w.cell? ⟨gw,i*2+1,none⟩=some (.string ⟨ws[i].2.toArray⟩):=by
 obtain ⟨g1,g2⟩:=wCells_get ws hi
 rw [<- h4,List.getElem?_take,if_pos (by omega)] at g1 g2
 refine ⟨?_,?_⟩
 ·simp only [World.cell?,h3];simpa using g1
 ·simp only [World.cell?,h3];simpa using g2
theorem all_any (d g n:Nat) (img:List UInt8) (v:Value) (ws:List WN) (B:Nat) (w:World) (hn:n<=256) (hD:DiskH w d g n img) (hV:WrV B w v ws) (hf:fitsW n ws) :
  Calls prog 50 #[.pointer (some ⟨d,0,none⟩),v] w fun e w'=>e=.returned (.tuple #[])/\DiskH w' d g n (allW img ws)/\Keeps (fun x=>x=g) w w':=by
 rcases hV with ⟨rfl,rfl⟩ | ⟨gw,cap,rfl,_,hcap,hlen,cur,h3,h4⟩
 ·refine (all_nil d w).mono ?_
  rintro e w' ⟨rfl,rfl⟩
  exact ⟨rfl,hD,Keeps.refl _ _⟩
 ·obtain ⟨cg,hcg⟩:=hD.tagg
  have hne:¬ gw=g:=tag_ne h3 hcg (by decide)
  have H:=hid (And.intro hD (And.intro h3 h4))
  have Hf:=hid hf.1
  clear hD h3 h4 hf hcg
  go_enter func50,ntmps50
  go_wp2_with fail
  go_loopw [4] (fun i wr=>∃ j:Nat,j<=ws.length/\i=.int .i64 j/\DiskH wr d g n (allW img (ws.take j))/\Keeps (fun x=>x=g) w wr) (fun i _=>ws.length - (intOf i).toNat)
  case atStart=>exact ⟨0,by omega,rfl,H.out.1,Keeps.refl _ _⟩
  case round =>
   obtain ⟨j,hj,rfl,hDj,hkj⟩:=hrel
   by_cases hjl:j<ws.length
   ·have hji:(j:Int)<(ws.length:Int):=by omega
    obtain ⟨c0,c1⟩:=wr_cells (keeps_same hkj hne H.out.2.1) H.out.2.2 hjl
    have HM:=hid (make_any d g n (allW img (ws.take j)) ws[j] (Hf.out _ (List.getElem_mem hjl)) 128 hn (by omega) wr hDj)
    have HK:=hid (And.intro (allW_succ img ws hjl) hkj)
    clear hDj hkj
    generalize ws[j]=x at *
    go_wp2_with fail
    refine HM.out.mono ?_
    clear HM
    rintro e w2 ⟨rfl,hD2,hk2⟩
    have HE:=hid (And.intro hD2 (HK.out.2.trans hk2))
    clear hD2 hk2 c0 c1
    go_wp2_with fail
    exact ⟨⟨j+1,by omega,by go_num,by rw [HK.out.1];exact HE.out.1,HE.out.2⟩,by simp [intOf];omega⟩
   ·have hji:¬ (j:Int)<(ws.length:Int):=by omega
    have HE:=hid (And.intro hDj hkj)
    clear hDj hkj
    go_wp2
    go_end0
    refine ⟨rfl,?_,HE.out.2⟩
    have:=HE.out.1
    rwa [List.take_of_length_le (by omega)] at this
theorem fits_any (d g n:Nat) (img:List UInt8) (v:Value) (ws:List WN) (B:Nat) (w:World) (hn:n<=256) (hD:DiskH w d g n img) (hV:WrV B w v ws) (hf:fitsW n ws) :
  Calls prog 49 #[.pointer (some ⟨d,0,none⟩),v] w fun e w'=>e=.returned (.bool true)/\∃ q,w'=w.drewN q:=by
 rcases hV with ⟨rfl,rfl⟩ | ⟨gw,cap,rfl,_,hcap,hlen,cur,h3,h4⟩
 ·refine (fits_nil d w).mono ?_
  rintro e w' ⟨rfl,rfl⟩
  exact ⟨rfl,0,rfl⟩
 ·obtain ⟨capd,_,_,dc⟩:=hD.cell
  have hq1:((n*128:Nat):Int).tdiv 128=(n:Int):=by rw [Int.tdiv_eq_ediv_of_nonneg (by omega)];omega
  have hwn:wrap64 (n:Int)=(n:Int):=by unfold wrap64;omega
  have hwn2:IntKind.i64.wrap (n:Int)=(n:Int):=by simp only [IntKind.wrap,IntKind.bits,IntKind.signed];simp;omega
  have H:=hid (And.intro dc (And.intro h3 h4))
  have Hf:=hid hf
  clear hD h3 h4 hf dc
  go_enter func49,ntmps49
  go_wp2_with fail
  go_loopw [5] (fun i wr=>∃ j:Nat,j<=ws.length/\i=.int .i64 j/\∃ q,wr=w.drewN q) (fun i _=>ws.length - (intOf i).toNat)
  case atStart=>exact ⟨0,by omega,rfl,0,rfl⟩
  case round =>
   obtain ⟨j,hj,rfl,hwr⟩:=hrel
   have Hq:=hid hwr
   have hhp:wr.heap=w.heap:=by obtain ⟨q,rfl⟩:=hwr;rfl
   have h3:wr.heap[gw]? = some (.cells cur 84 (0,0)):=by rw [hhp];exact H.out.2.1
   have dc:wr.cell? ⟨d,0,none⟩=some (.slice (some ⟨g,0,none⟩) (n*128) capd):=by have:=H.out.1;simp only [World.cell?,hhp] at this ⊢;exact this
   clear hwr hhp
   by_cases hjl:j<ws.length
   ·have hji:(j:Int)<(ws.length:Int):=by omega
    obtain ⟨c0,c1⟩:=wr_cells h3 H.out.2.2 hjl
    have hx:=Hf.out.1 _ (List.getElem_mem hjl)
    generalize ws[j]=x at *
    obtain ⟨s,dt⟩:=x
    simp only at hx c0 c1
    clear h3
    rcases hx with rfl | ⟨h0,h1,h2⟩
    ·go_wp2_with fail
     go_quiet (fail)
     go_wp2_with fail
     exact ⟨⟨j+1,by omega,by go_num,drewN_more Hq.out _⟩,by simp [intOf];omega⟩
    ·have hds:(⟨dt.toArray⟩:ByteArray).size=128:=by show dt.toArray.size=128;rw [List.size_toArray,h2]
     have hs1:(s != -1)=true:=by simp;omega
     have hs0:decide (s<0)=false:=decide_eq_false (by omega)
     have hs2:decide ((n:Int)<=s)=false:=decide_eq_false (by omega)
     clear h0 h1
     generalize (⟨dt.toArray⟩:ByteArray)=ba at *
     go_wp2_with fail
     go_quiet (fail)
     go_wp2_with fail
     exact ⟨⟨j+1,by omega,by go_num,drewN_more Hq.out _⟩,by simp [intOf];omega⟩
   ·have hji:¬ (j:Int)<(ws.length:Int):=by omega
    obtain ⟨c0,c1⟩:=wr_cells h3 H.out.2.2 (i:=ws.length - 1) (by omega)
    have hlast:(ws[ws.length - 1]'(by omega)).1 = -1:=Hf.out.2 _ (by rw [List.getLast?_eq_getElem?,List.getElem?_eq_getElem])
    rw [hlast] at c0
    clear hlast c1 H Hf h3
    generalize ws.length=N at *
    obtain ⟨N,rfl⟩:∃ M,N=M+1:=⟨N - 1,by omega⟩
    simp only [Nat.add_sub_cancel] at c0
    have hl0:¬ ((N+1:Nat):Int)=0:=by omega
    go_wp2
    go_ret
    exact ⟨rfl,Hq.out⟩
end
end Go.Proofs.YtalncjhldkcmaaaGreat
