import Derived.Test.YtalncjhldkcmaaaGreatFbW1
import Derived.Laws.AppendOwnNone
import Derived.BigQuiet
namespace Go.Proofs.YtalncjhldkcmaaaGreat
open _root_.Go.Proofs.Tryz
set_option maxHeartbeats 16000000
set_option maxRecDepth 8000
section
open Go.RowKit Go.Shelf
theorem AllI.noNode {w:World} {g:Nat} (h:AllI w g):NoNodeT w g:=by
 refine ⟨fun a l c e => ?_,fun o k e => ?_⟩
 ·obtain ⟨k,hk⟩:=h _ _ e;cases hk
 ·obtain ⟨k',hk⟩:=h _ _ e;cases hk
theorem AllI.block {w w':World} {g:Nat} (h:AllI w g) (e:w'.heap[g]? = w.heap[g]?):AllI w' g:=fun o v hv=>h o v (by rw [<- World.cell?_of_block (a:=⟨g,o,none⟩) e];exact hv)
structure OutAt (w:World) (base:Nat) (v:Value) (zs:List Int):Prop where
 own:w.ownsRow base 3 1 v zs.length (intCells zs)
 all:∀ g,v.ownBlock=some g->AllI w g
theorem OutAt.nil (w:World) (base:Nat):OutAt w base (.slice none 0 0) []:=⟨World.ownsRow_nil w base _ 1,fun g hg=>by simp [Value.ownBlock] at hg⟩
theorem OutAt.keeps {S:Nat->Prop} {w w':World} {base:Nat} {v:Value} {zs:List Int} (h:OutAt w base v zs) (hk:Keeps S w w') (hs:∀ g,v.ownBlock=some g->¬ S g):OutAt w' base v zs :=
 ⟨row_keeps h.own hk hs,fun g hg=>(h.all g hg).block (hk.block g (h.own.lt g hg).2 (hs g hg))⟩
theorem OutAt.below {w w':World} {base:Nat} {v:Value} {zs:List Int} (h:OutAt w base v zs) (hk:Below w.heap.size w w'):OutAt w' base v zs :=
 ⟨ownsRow_block h.own (fun g hg=>hk.block g (h.own.lt g hg).2),fun g hg=>(h.all g hg).block (hk.block g (h.own.lt g hg).2)⟩
theorem OutAt.ints {w:World} {base:Nat} {v:Value} {zs:List Int} (h:OutAt w base v zs):IntsIn w v zs:=own_intsIn h.own rfl
theorem OutAt.new {w:World} {base:Nat} {v:Value} {zs:List Int} (h:OutAt w base v zs):New base v:=by
 intro g n c e
 subst e
 rcases h.own.2 with ⟨hv,_⟩ | ⟨g',cap,cur,hv,hB,_⟩
 ·cases hv
 ·injection hv with hv _ _
  injection hv with hv
  subst hv
  exact hB
theorem KAt.grown {w w':World} {sb l:Nat} {κ:KD} {p:Int} {L:Led} {row:Option Nat} (h:KAt w sb l κ p L) (hg:w.grownBy w' row) (hr:∀ b,row=some b->NoNodeT w b/\b≠sb/\b≠l/\b≠κ.g):KAt w' sb l κ p L:=by
 have hks:Keeps (fun k=>row=some k) w w':=(Keeps.refl _ w).grown hg (fun k e=>.inl e)
 exact h.keepsT (S:=fun k=>row=some k) (fun x hx=>(hr x hx).1) (fun e=>(hr _ e).2.1 rfl) (fun e=>(hr _ e).2.2.1 rfl) (fun e=>(hr _ e).2.2.2 rfl) hks
theorem intCells_all (zs:List Int):∀ u∈intCells zs,∃ k,u=Value.int .i64 k:=by
 intro u hu
 obtain ⟨z,_,rfl⟩:=List.mem_map.1 hu
 exact ⟨z,rfl⟩
theorem intCells_len (zs:List Int):(intCells zs).length=zs.length:=by simp [intCells]
theorem intCells_app (zs ys:List Int):intCells zs++intCells ys=intCells (zs++ys):=by simp [intCells]
theorem add_zero_at (g j:Nat):(⟨g,0,none⟩:Addr).add j=⟨g,j,none⟩:=by unfold Addr.add;split <;> simp_all
theorem wpList_out {w:World} {ops:Array Oper} {rest:List Oper} {o:Oper} {a:Act} {Q:Exit->Act->World->Prop} (hgd:o.guard=none) (s x:Operand)
  (ho:o.op=.call { callee:=.builtin .append,args:=#[s,x],argTypes:=#[36,36] })
  {base:Nat} {v xv:Value} {zs ys:List Int} (hs:a.eval s=v) (hout:OutAt w base v zs) (hx:a.eval x=xv) (hxv:IntsIn w xv ys) (hlen:zs.length+ys.length<=1000000) (hbase:base<=w.heap.size)
  (h:∀ v' w',OutAt w' base v' (zs++ys)->w.grownBy w' v.ownBlock->wpList prog ops Q rest (a.put o.dst v') w'):wpList prog ops Q (o::rest) a w:=by
 obtain ⟨i0,hi,hz0,hz1,hz2⟩:=info_parts Tryz.infoInt
 rcases hxv with ⟨g,cap,rfl,hg,hc⟩ | ⟨rfl,rfl⟩
 ·refine wpList_append_ints hgd s x 36 ho base 3 i0 (.int .i64 0) 8 underlying36 hi hz0 rfl hz1 hz2 v zs.length (intCells zs) hs hout.own hout.all (intCells_all zs) ⟨g,0,none⟩ ys.length cap (intCells ys) hx (intCells_len ys) ?_ (intCells_all ys) (by unfold maxLen;omega) (by omega) hbase ?_
  ·intro j u hj
   rw [add_zero_at]
   have hj':j<ys.length:=by
    have:=(List.getElem?_eq_some_iff.1 hj).1
    rwa [intCells_len] at this
   rw [hc j hj']
   simp only [intCells,List.getElem?_map,List.getElem?_eq_getElem hj',Option.map_some] at hj
   exact hj
  ·intro v' w' ho' hg' ha'
   refine h v' w' ⟨?_,ha'⟩ hg'
   rw [List.length_append,<- intCells_app]
   exact ho'
 ·refine wpList_append_own_none hgd s x 36 ho base 3 i0 1 underlying36 hi v zs.length (intCells zs) hs hout.own hx ?_
  refine h v w (by rw [List.append_nil];exact hout) ⟨rfl,rfl,rfl,Nat.le_refl _,fun _ _ _=>rfl⟩
theorem two_ints (w:World) (x y:Int) (t:TypeId):IntsIn (w.alloc (.cells #[.int .i64 x,.int .i64 y] t)) (.slice (some ⟨w.heap.size,0,none⟩) 2 2) [x,y]:=by
 refine .inl ⟨w.heap.size,2,rfl,by simp,fun i hi => ?_⟩
 simp only [World.cell?,heap_alloc_new]
 match i,hi with
 | 0,_=>rfl
 | 1,_=>rfl
def Led.ansL (L:Led) (m:Cm):List Int:=L.stepE 32 m::((L.stepN 32 m).length:Int)::L.stepN 32 m
def Led.cmQ (k n:Nat):Cm:=⟨k,n,0,0,0,0,0,0,0⟩
def Led.partL (L:Led) (n k:Nat):List Int:=(if 12<k then L.ansL (Led.cmQ 12 n) else [])++(if 15<k then L.ansL (Led.cmQ 15 n) else [])++(if 16<k then L.ansL (Led.cmQ 16 n) else [])
def Led.tubesL (L:Led):Nat->List Int
 | 0=>[]
 | n+1=>L.tubesL n++(if 1<=n then L.partL n 17 else [])
def Led.boxesL (L:Led):Nat->List Int
 | 0=>[]
 | n+1=>L.boxesL n++(if 1<=n then L.ansL (Led.cmCont n) else [])
def Led.shownL (L:Led):List Int:=L.tubesL 13++L.boxesL 3
theorem Led.cmQ_enc {k n:Nat} (hk:k=12\/k=15\/k=16) (h:1<=n/\n<=12):encB (Led.cmQ k n).ints=true:=by
 rcases hk with rfl | rfl | rfl
 ·exact cmShow_enc h
 ·exact Led.cmUp_enc h
 ·exact Led.cmDown_enc h
theorem Led.ask_act (L:Led) (m:Cm) (h:m.k=12\/m.k=13\/m.k=15\/m.k=16):L.act m=L:=by
 rcases h with h | h | h | h <;> simp [Led.act,h]
theorem Led.ask_step (L:Led) (m:Cm) (h:m.k=12\/m.k=13\/m.k=15\/m.k=16):L.stepL 32 m=L:=by
 unfold Led.stepL
 rw [L.ask_act m h,ite_self]
theorem Led.part_same (L:Led) (n:Nat) {k:Nat} (h:k=13\/k=14):L.partL n (k+1)=L.partL n k:=by
 rcases h with rfl | rfl <;> simp [Led.partL]
theorem Led.part_next (L:Led) (n:Nat) {k:Nat} (h:k=12\/k=15\/k=16):L.partL n (k+1)=L.partL n k++L.ansL (Led.cmQ k n):=by
 rcases h with rfl | rfl | rfl <;> simp [Led.partL]
theorem Led.part_start (L:Led) (n:Nat):L.partL n 12=[]:=by simp [Led.partL]
theorem Led.tubes_next (L:Led) {n:Nat} (h:1<=n):L.tubesL (n+1)=L.tubesL n++L.partL n 17:=by
 show L.tubesL n++(if 1<=n then _ else _)=_
 rw [if_pos h]
theorem Led.boxes_next (L:Led) {n:Nat} (h:1<=n):L.boxesL (n+1)=L.boxesL n++L.ansL (Led.cmCont n):=by
 show L.boxesL n++(if 1<=n then _ else _)=_
 rw [if_pos h]
theorem memG_len (S:Nat->Bool):(memG S).length<=1000:=by
 have:=memTo_len S 1000
 unfold memG
 omega
theorem Led.ask_len (L:Led) {k n:Nat} (hf:L.kvs.length<=32) (h:k=12\/k=15\/k=16):(L.stepN 32 (Led.cmQ k n)).length<=1000:=by
 rcases h with rfl | rfl | rfl
 ·cases hq:L.tube n with
  | some q=>rw [show L.stepN 32 (Led.cmQ 12 n)=showQ q from (show_some hq hf).2.1];simp [showQ]
  | none=>rw [show L.stepN 32 (Led.cmQ 12 n)=[] from (show_none hq).2.1];simp
 ·cases hq:L.tube n with
  | some q=>rw [show L.stepN 32 (Led.cmQ 15 n)=natsI (L.above n) from (Led.up_some hq hf).2.1,natsI_len];exact memG_len _
  | none=>rw [show L.stepN 32 (Led.cmQ 15 n)=[] from (Led.up_none hq).2.1];simp
 ·cases hq:L.tube n with
  | some q=>rw [show L.stepN 32 (Led.cmQ 16 n)=natsI (L.below n) from (Led.down_some hq hf).2.1,natsI_len];exact memG_len _
  | none=>rw [show L.stepN 32 (Led.cmQ 16 n)=[] from (Led.down_none hq).2.1];simp
theorem Led.cont_len (L:Led) {b:Nat} (hI:L.Inv) (hb:1<=b) (hf:L.kvs.length<=32):(L.stepN 32 (Led.cmCont b)).length<=96:=by
 rw [(Led.cont_step hI hb hf).1,Led.contQ_len]
 have h1:(L.inB b).length<=L.ts.length:=by unfold Led.inB;exact List.length_filter_le _ _
 have h2:L.kvs.length=L.bs.length+L.ts.length+L.ps.length:=by simp [Led.kvs];omega
 omega
structure SH (w:World) (sb l:Nat) (κ:KD) (p:Int) (L:Led) (ov:Value) (zs:List Int) (wr:World):Prop where
 st:KAt wr sb l κ p L
 out:OutAt wr w.heap.size ov zs
 kp:Keeps (fun k=>k=l) w wr
 lt:sb<w.heap.size/\l<w.heap.size/\κ.g<w.heap.size
variable {w wr w':World} {sb l:Nat} {κ:KD} {p:Int} {L:Led} {ov:Value} {zs:List Int}
theorem SH.far (h:SH w sb l κ p L ov zs wr):∀ g,ov.ownBlock=some g->g≠sb/\g≠l/\g≠κ.g:=fun g hg=>by
 have:=(h.out.own.lt g hg).1
 have:=h.lt
 omega
theorem SH.done (h:SH w sb l κ p L ov zs wr) (hs:KAt w' sb l κ p L) (hk:Keeps (fun k=>k=l) wr w'):SH w sb l κ p L ov zs w' :=
 ⟨hs,h.out.keeps hk (fun g hg=>(h.far g hg).2.1),h.kp.trans hk,h.lt⟩
theorem SH.below (h:SH w sb l κ p L ov zs wr) (hb:Below wr.heap.size wr w'):SH w sb l κ p L ov zs w' :=
 ⟨h.st.below hb,h.out.below hb,h.kp.trans ⟨hb.os,hb.tape,hb.output,hb.size,fun k hk _=>hb.block k hk⟩,h.lt⟩
theorem SH.grown {v':Value} {ys:List Int} (h:SH w sb l κ p L ov zs wr) (ho:OutAt w' w.heap.size v' ys) (hg:wr.grownBy w' ov.ownBlock):SH w sb l κ p L v' ys w' :=
 ⟨h.st.grown hg (fun b hb=>⟨(h.out.all b hb).noNode,h.far b hb⟩),ho,h.kp.grown hg (fun k hk=>.inr (h.out.own.lt k hk).1),h.lt⟩
theorem IntsIn.grown {a b:World} {v:Value} {ys:List Int} {row:Option Nat} (h:IntsIn a v ys) (hg:a.grownBy b row) (hne:∀ g n c,v=.slice (some g) n c->row≠some g.block):IntsIn b v ys:=by
 rcases h with ⟨g,cap,rfl,hl,hc⟩ | h
 ·exact .inl ⟨g,cap,rfl,Nat.lt_of_lt_of_le hl hg.size,fun i hi=>hg.cell (hc i hi) (fun e=>hne _ _ _ rfl e.symm)⟩
 ·exact .inr h
theorem SH.list {w5 w6:World} (h:SH w sb l κ p L ov zs wr) {vv:Value} {ys:List Int} (hi:IntsIn w5 vv ys) (hn:New wr.heap.size vv) (o:Obj) (hg:(w5.alloc o).grownBy w6 ov.ownBlock):IntsIn w6 vv ys:=by
 refine (hi.below' ((Below.refl _ w5).alloc nlr o)).grown hg (fun g n c e he => ?_)
 have h1:=hn g n c e
 have h2:=(h.out.own.lt _ he).2
 omega
end
section
open Go.RowKit Go.Shelf
theorem shown_any (sb l:Nat) (κ:KD) (p:Int) (L:Led) (w:World) (hS:KAt w sb l κ p L) :
  Calls prog 20 #[.pointer (some ⟨sb,0,none⟩)] w fun e w'=>∃ vv,e=.returned vv/\IntsIn w' vv L.shownL/\KAt w' sb l κ p L/\Keeps (fun k=>k=l) w w'/\L.shownL.length<1000000/\New w.heap.size vv:=by
 have HF:=hid hS.led.few
 have HS:=hid (show SH w sb l κ p L (.slice none 0 0) [] w from ⟨hS,OutAt.nil _ _,Keeps.refl _ _,hS.lt⟩)
 clear hS
 go_enter func20,ntmps20
 go_wp2_with fail
 go_loopg [3,4] 12 (fun gk ov iv wr=>∃ c:Nat,c+gk=13/\1<=c/\iv=.int .i64 c/\SH w sb l κ p L ov (L.tubesL c) wr/\(L.tubesL c).length<=6000*c)
 case atStart=>exact ⟨1,by omega,by omega,rfl,HS.out,by simp [Led.tubesL]⟩
 case round =>
  clear HS
  obtain ⟨c,hc13,hc1,rfl,hSH,hlen⟩:=hrel
  have HC:=hid hc13
  by_cases hc:c<=12
  ·have hci:(c:Int)<=12:=by omega
   have HX:=hid (And.intro hSH hlen)
   clear hSH hlen hc13
   go_wp2_with fail
   go_loopg [3,5] 5 (fun gk ov iv wr=>∃ k:Nat,k+gk=17/\12<=k/\iv=.int .i64 k/\SH w sb l κ p L ov (L.tubesL c++L.partL c k) wr/\(L.tubesL c++L.partL c k).length<=6000*c+1002*(k - 12))
   case atStart=>exact ⟨12,by omega,by omega,rfl,by rw [Led.part_start,List.append_nil];exact HX.out.1,by rw [Led.part_start,List.append_nil];have:=HX.out.2;omega⟩
   case round =>
    clear HX
    obtain ⟨k,hk17,hk12,rfl,hSH,hlen⟩:=hrel
    have HK:=hid hk17
    clear hk17
    by_cases hk:k<=16
    ·have hki:(k:Int)<=16:=by have:=hk;omega
     by_cases hs:k=13\/k=14
     ·have HE:=hid (And.intro hSH hlen)
      rw [<- Led.part_same L c hs] at HE
      clear hSH hlen
      by_cases h13:k=13
      ·have k13:((k:Int) == 13)=true:=beq_iff_eq.2 (by omega)
       clear hs h13
       go_wp2_with fail
       go_roundg (16 - k)
       case measure=>have:=HK.out;omega
       case rel=>exact ⟨k+1,by have:=HK.out;omega,by omega,by go_num,HE.out.1,by have:=HE.out.2;omega⟩
      ·have k13:((k:Int) == 13)=false:=bnf.2 (by omega)
       have k14:((k:Int) == 14)=true:=beq_iff_eq.2 (by omega)
       clear hs h13
       go_wp2_with fail
       go_roundg (16 - k)
       case measure=>have:=HK.out;omega
       case rel=>exact ⟨k+1,by have:=HK.out;omega,by omega,by go_num,HE.out.1,by have:=HE.out.2;omega⟩
     ·have hk3:k=12\/k=15\/k=16:=by omega
      have k13:((k:Int) == 13)=false:=bnf.2 (by omega)
      have k14:((k:Int) == 14)=false:=bnf.2 (by omega)
      have HD:=hid (kdoneN_any sb l κ p L (Led.cmQ k c) (Led.cmQ_enc hk3 ⟨hc1,hc⟩) (by simp only [Led.cmQ];omega) _ hSH.st)
      rw [L.ask_step (Led.cmQ k c) (by simp only [Led.cmQ];omega)] at HD
      have HN:=hid (And.intro (L.part_next c hk3) (L.ask_len (n:=c) HF.out hk3))
      have hle:(L.stepN 32 (Led.cmQ k c)).length<=1000:=HN.out.2
      have HX:=hid (And.intro hSH hlen)
      unfold Cm.val Led.cmQ at HD
      clear hSH hlen hs hk3
      go_wp2_with fail
      refine HD.out.mono ?_
      clear HD
      rintro e w5 ⟨vv,rfl,hI5,hS5,hk5,hn5⟩
      obtain ⟨oa,ca,rfl,_⟩:=hI5.parts
      have HS5:=hid (HX.out.1.done hS5 hk5)
      have HI5:=hid (fun (o:Obj) (w6:World) hg=>HX.out.1.list (w6:=w6) hI5 hn5 o hg)
      have HLn:=hid HX.out.2
      have hbz:=HS5.out.kp.size
      clear HX hI5 hS5 hk5 hn5
      have HO5:=fun o=>(HS5.out.below (bal (o:=o)))
      have hl5:(L.tubesL c++L.partL c k).length+2<=1000000:=by have:=HLn.out;omega
      have HE:=hid (And.intro HN.out.1 (And.intro hle HLn.out))
      clear HN HLn
      change (L.stepN 32 ⟨k,c,0,0,0,0,0,0,0⟩).length<=1000 at hle
      generalize hse:L.stepE 32 ⟨k,c,0,0,0,0,0,0,0⟩=se at *
      generalize hsn:L.stepN 32 ⟨k,c,0,0,0,0,0,0,0⟩=sn at *
      have HEQ:=hid (And.intro hse hsn)
      clear hse hsn
      generalize hzs:L.tubesL c++L.partL c k=zs at *
      have HZ:=hid hzs
      clear hzs
      have hl6:(zs++[se,(sn.length:Int)]).length+sn.length<=1000000:=by have:=HE.out.2.2;simp;omega
      go_wp2_with (first
       | (at_builtin;refine wpList_out rfl (.tmp 33) (.tmp 37) rfl rfl (HO5 _).out rfl (two_ints w5 _ _ _) hl5 (by simp;omega) ?_;intro v6 w6 ho6 hg6)
       | (at_builtin;refine wpList_out rfl (.tmp 39) (.tmp 40) rfl rfl ho6 rfl (HI5.out _ _ hg6) hl6 (by have:=hg6.size;simp at this;omega) ?_;intro v7 w7 ho7 hg7))
      go_roundg (16 - k)
      case measure=>have:=HK.out;omega
      case rel =>
       have hS7:=((HO5 _).grown ho6 hg6).grown ho7 hg7
       have eq:zs++[se,(sn.length:Int)]++sn=L.tubesL c++L.partL c (k+1):=by
        rw [HE.out.1,<- HZ.out]
        unfold Led.ansL Led.cmQ
        rw [HEQ.out.1,HEQ.out.2]
        simp
       rw [eq] at hS7
       refine ⟨k+1,by have:=HK.out;omega,by omega,by go_num,hS7,?_⟩
       rw [<- eq]
       have h1:=HE.out.2.2
       simp
       omega
    ·have hki:¬ (k:Int)<=16:=by have:=hk;omega
     have e17:k=17:=by have:=HK.out;omega
     subst e17
     rw [<- Led.tubes_next L hc1] at hSH hlen
     have HE:=hid (And.intro hSH hlen)
     clear hSH hlen
     go_wp2_with fail
     go_roundg (12 - c)
     case measure=>have:=HC.out;omega
     case rel=>exact ⟨c+1,by have:=HC.out;omega,by omega,by go_num,HE.out.1,by have h1:=HE.out.2;clear HK;omega⟩
  ·have hci:¬ (c:Int)<=12:=by omega
   have e13:c=13:=by omega
   subst e13
   have HX:=hid (And.intro hSH hlen)
   clear hSH hlen hc13 HC
   go_wp2_with fail
   go_loopg [3,8] 2 (fun gk ov iv wr=>∃ k:Nat,k+gk=3/\1<=k/\iv=.int .i64 k/\SH w sb l κ p L ov (L.tubesL 13++L.boxesL k) wr/\(L.tubesL 13++L.boxesL k).length<=80000+1000*k)
   case atStart=>exact ⟨1,by omega,by omega,rfl,by rw [show L.boxesL 1=[] from rfl,List.append_nil];exact HX.out.1,by rw [show L.boxesL 1=[] from rfl,List.append_nil];have:=HX.out.2;omega⟩
   case round =>
    clear HX
    obtain ⟨k,hk3,hk1,rfl,hSH,hlen⟩:=hrel
    have HK:=hid hk3
    clear hk3
    by_cases hk:k<=2
    ·have hki:(k:Int)<=2:=by omega
     have HD:=hid (kdoneN_any sb l κ p L (Led.cmCont k) (Led.cmCont_enc ⟨hk1,hk⟩) (by simp only [Led.cmCont];omega) _ hSH.st)
     rw [L.ask_step (Led.cmCont k) (.inr (.inl rfl))] at HD
     have HN:=hid (And.intro (L.boxes_next hk1) (L.cont_len (b:=k) hSH.st.inv hk1 HF.out))
     have hle:(L.stepN 32 (Led.cmCont k)).length<=96:=HN.out.2
     have HX:=hid (And.intro hSH hlen)
     unfold Cm.val Led.cmCont at HD
     clear hSH hlen
     go_wp2_with fail
     refine HD.out.mono ?_
     clear HD
     rintro e w5 ⟨vv,rfl,hI5,hS5,hk5,hn5⟩
     obtain ⟨oa,ca,rfl,_⟩:=hI5.parts
     have HS5:=hid (HX.out.1.done hS5 hk5)
     have HI5:=hid (fun (o:Obj) (w6:World) hg=>HX.out.1.list (w6:=w6) hI5 hn5 o hg)
     have HLn:=hid HX.out.2
     have hbz:=HS5.out.kp.size
     clear HX hI5 hS5 hk5 hn5
     have HO5:=fun o=>(HS5.out.below (bal (o:=o)))
     have hl5:(L.tubesL 13++L.boxesL k).length+2<=1000000:=by have:=HLn.out;omega
     have HE:=hid (And.intro HN.out.1 (And.intro hle HLn.out))
     clear HN HLn
     change (L.stepN 32 ⟨13,0,0,0,0,k,0,0,0⟩).length<=96 at hle
     generalize hse:L.stepE 32 ⟨13,0,0,0,0,k,0,0,0⟩=se at *
     generalize hsn:L.stepN 32 ⟨13,0,0,0,0,k,0,0,0⟩=sn at *
     have HEQ:=hid (And.intro hse hsn)
     clear hse hsn
     generalize hzs:L.tubesL 13++L.boxesL k=zs at *
     have HZ:=hid hzs
     clear hzs
     have hl6:(zs++[se,(sn.length:Int)]).length+sn.length<=1000000:=by have:=HE.out.2.2;simp;omega
     go_wp2_with (first
      | (at_builtin;refine wpList_out rfl (.tmp 53) (.tmp 57) rfl rfl (HO5 _).out rfl (two_ints w5 _ _ _) hl5 (by simp;omega) ?_;intro v6 w6 ho6 hg6)
      | (at_builtin;refine wpList_out rfl (.tmp 59) (.tmp 60) rfl rfl ho6 rfl (HI5.out _ _ hg6) hl6 (by have:=hg6.size;simp at this;omega) ?_;intro v7 w7 ho7 hg7))
     go_roundg (2 - k)
     case measure=>have:=HK.out;omega
     case rel =>
      have hS7:=((HO5 _).grown ho6 hg6).grown ho7 hg7
      have eq:zs++[se,(sn.length:Int)]++sn=L.tubesL 13++L.boxesL (k+1):=by
       rw [HE.out.1,<- HZ.out]
       unfold Led.ansL Led.cmCont
       rw [HEQ.out.1,HEQ.out.2]
       simp
      rw [eq] at hS7
      refine ⟨k+1,by have:=HK.out;omega,by omega,by go_num,hS7,?_⟩
      rw [<- eq]
      have h1:=HE.out.2.2
      simp
      omega
    ·have hki:¬ (k:Int)<=2:=by omega
     have e3:k=3:=by have:=HK.out;omega
     subst e3
     have HE:=hid (And.intro hSH hlen)
     clear hSH hlen
     go_wp2_with fail
     go_ret
     exact ⟨_,rfl,HE.out.1.out.ints,HE.out.1.st,HE.out.1.kp,by have:=HE.out.2;unfold Led.shownL;omega,HE.out.1.out.new⟩
end
end Go.Proofs.YtalncjhldkcmaaaGreat
