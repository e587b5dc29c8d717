import Derived.Test.YtalncjhldkcmaaaGreatFb50
import Derived.Test.YtalncjhldkcmaaaGreatFb35
namespace Go.Proofs.YtalncjhldkcmaaaGreat
open _root_.Go.Proofs.Tryz
set_option maxHeartbeats 16000000
set_option maxRecDepth 8000
section
open Go.ChangeShapes Go.WideShapes Go.ChangeAt Go.RowKit Go.Shelf Go.Deep
theorem Tryz.cellsOp:prog.cellsOf 70=17:=by kernel_rfl
theorem Tryz.cellsCmd:prog.cellsOf 31=9:=by kernel_rfl
theorem Tryz.cellsLoss:prog.cellsOf 68=4:=by kernel_rfl
theorem Tryz.cellsStr:prog.cellsOf 9=1:=by kernel_rfl
theorem list9 {α:Type} {l:List α} (h:l.length=9):∃ c0 c1 c2 c3 c4 c5 c6 c7 c8,l=[c0,c1,c2,c3,c4,c5,c6,c7,c8]:=by
 match l,h with
 | [c0,c1,c2,c3,c4,c5,c6,c7,c8],_=>exact ⟨c0,c1,c2,c3,c4,c5,c6,c7,c8,rfl⟩
theorem cmd_cells {H:Type} {enc:TypeId×Value->H} {w:World} {base n:Nat} {spare:Nat->Bool} {held:Bool} {cs:List Value} {x:DataW H×List MemPlace}
  (h:DataW.trod enc prog w base spare held n 31 cs=some x):∃ z:Nat->Int,cs=[.int .i64 (z 0),.int .i64 (z 1),.int .i64 (z 2),.int .i64 (z 3),.int .i64 (z 4),.int .i64 (z 5),.int .i64 (z 6),.int .i64 (z 7),.int .i64 (z 8)]/\∀ j,I64 (z j):=by
 obtain ⟨xs,k,_,hx,hcl,hlen,hall⟩:=DataW.trod_struct underlying31 h
 obtain ⟨v0,v1,v2,v3,v4,v5,v6,v7,v8,rfl⟩:=list9 (hcl.trans Tryz.cellsCmd)
 obtain ⟨y0,y1,y2,y3,y4,y5,y6,y7,y8,rfl⟩:=list9 hlen
 have g0:=hall 0 _ rfl
 have g1:=hall 1 _ rfl
 have g2:=hall 2 _ rfl
 have g3:=hall 3 _ rfl
 have g4:=hall 4 _ rfl
 have g5:=hall 5 _ rfl
 have g6:=hall 6 _ rfl
 have g7:=hall 7 _ rfl
 have g8:=hall 8 _ rfl
 obtain ⟨n0,e0,rfl,w0⟩:=DataW.trod_int underlying3 g0
 obtain ⟨n1,e1,rfl,w1⟩:=DataW.trod_int underlying3 g1
 obtain ⟨n2,e2,rfl,w2⟩:=DataW.trod_int underlying3 g2
 obtain ⟨n3,e3,rfl,w3⟩:=DataW.trod_int underlying3 g3
 obtain ⟨n4,e4,rfl,w4⟩:=DataW.trod_int underlying3 g4
 obtain ⟨n5,e5,rfl,w5⟩:=DataW.trod_int underlying3 g5
 obtain ⟨n6,e6,rfl,w6⟩:=DataW.trod_int underlying3 g6
 obtain ⟨n7,e7,rfl,w7⟩:=DataW.trod_int underlying3 g7
 obtain ⟨n8,e8,rfl,w8⟩:=DataW.trod_int underlying3 g8
 simp [Tryz.cellsI] at e0 e1 e2 e3 e4 e5 e6 e7 e8
 subst e0 e1 e2 e3 e4 e5 e6 e7 e8
 refine ⟨fun i=>[n0,n1,n2,n3,n4,n5,n6,n7,n8].getD i 0,rfl,fun i => ?_⟩
 match i with
 | 0=>exact .of_wf w0
 | 1=>exact .of_wf w1
 | 2=>exact .of_wf w2
 | 3=>exact .of_wf w3
 | 4=>exact .of_wf w4
 | 5=>exact .of_wf w5
 | 6=>exact .of_wf w6
 | 7=>exact .of_wf w7
 | 8=>exact .of_wf w8
 | m+9=>exact ⟨by simp,by simp⟩
theorem list4 {α:Type} {l:List α} (h:l.length=4):∃ c0 c1 c2 c3,l=[c0,c1,c2,c3]:=by
 match l,h with
 | [c0,c1,c2,c3],_=>exact ⟨c0,c1,c2,c3,rfl⟩
theorem loss_cells {H:Type} {enc:TypeId×Value->H} {w:World} {base n:Nat} {spare:Nat->Bool} {held:Bool} {cs:List Value} {x:DataW H×List MemPlace}
  (h:DataW.trod enc prog w base spare held n 68 cs=some x):∃ z:Nat->Int,cs=[.int .i64 (z 0),.int .i64 (z 1),.int .i64 (z 2),.int .i64 (z 3)]/\∀ j,I64 (z j):=by
 obtain ⟨xs,k,_,hx,hcl,hlen,hall⟩:=DataW.trod_struct underlying68 h
 obtain ⟨v0,v1,v2,v3,rfl⟩:=list4 (hcl.trans Tryz.cellsLoss)
 obtain ⟨y0,y1,y2,y3,rfl⟩:=list4 hlen
 have g0:=hall 0 _ rfl
 have g1:=hall 1 _ rfl
 have g2:=hall 2 _ rfl
 have g3:=hall 3 _ rfl
 obtain ⟨n0,e0,rfl,w0⟩:=DataW.trod_int underlying3 g0
 obtain ⟨n1,e1,rfl,w1⟩:=DataW.trod_int underlying3 g1
 obtain ⟨n2,e2,rfl,w2⟩:=DataW.trod_int underlying3 g2
 obtain ⟨n3,e3,rfl,w3⟩:=DataW.trod_int underlying3 g3
 simp [Tryz.cellsI] at e0 e1 e2 e3
 subst e0 e1 e2 e3
 refine ⟨fun i=>[n0,n1,n2,n3].getD i 0,rfl,fun i => ?_⟩
 match i with
 | 0=>exact .of_wf w0
 | 1=>exact .of_wf w1
 | 2=>exact .of_wf w2
 | 3=>exact .of_wf w3
 | m+4=>exact ⟨by simp,by simp⟩
theorem list6 {α:Type} {l:List α} (h:l.length=6):∃ c0 c1 c2 c3 c4 c5,l=[c0,c1,c2,c3,c4,c5]:=by
 match l,h with
 | [c0,c1,c2,c3,c4,c5],_=>exact ⟨c0,c1,c2,c3,c4,c5,rfl⟩
theorem list17 {α:Type} {l:List α} (h:l.length=17):∃ c0 c1 c2 c3 c4 c5 c6 c7 c8 c9 c10 c11 c12 c13 c14 c15 c16,l=[c0,c1,c2,c3,c4,c5,c6,c7,c8,c9,c10,c11,c12,c13,c14,c15,c16]:=by
 match l,h with
 | [c0,c1,c2,c3,c4,c5,c6,c7,c8,c9,c10,c11,c12,c13,c14,c15,c16],_=>exact ⟨c0,c1,c2,c3,c4,c5,c6,c7,c8,c9,c10,c11,c12,c13,c14,c15,c16,rfl⟩
set_option maxRecDepth 100000 in
theorem op_cells {H:Type} {enc:TypeId×Value->H} {w:World} {base n:Nat} {spare:Nat->Bool} {held:Bool} {cs:List Value} {x:DataW H×List MemPlace}
  (h:DataW.trod enc prog w base spare held n 70 cs=some x):∃ o:OpD,(cs.length=17/\∀ j,j<17->cs[j]? = some (o.cell j))/\I64 o.on/\I64 o.nn/\o.fr.size<=maxLen/\∀ j,j<4->I64 (o.l j):=by
 obtain ⟨xs,k,_,hx,hcl,hlen,hall⟩:=DataW.trod_struct underlying70 h
 obtain ⟨v0,v1,v2,v3,v4,v5,v6,v7,v8,v9,v10,v11,v12,v13,v14,v15,v16,rfl⟩:=list17 (hcl.trans Tryz.cellsOp)
 obtain ⟨y0,y1,y2,y3,y4,y5,rfl⟩:=list6 hlen
 have g0:=hall 0 _ rfl
 have g1:=hall 1 _ rfl
 have g2:=hall 2 _ rfl
 have g3:=hall 3 _ rfl
 have g4:=hall 4 _ rfl
 have g5:=hall 5 _ rfl
 clear hall
 obtain ⟨n0,e0,rfl,w0⟩:=DataW.trod_int underlying3 g0
 obtain ⟨n1,e1,rfl,w1⟩:=DataW.trod_int underlying3 g1
 obtain ⟨zc,e2,w2⟩:=cmd_cells g2
 obtain ⟨s3,e3,rfl,w3⟩:=DataW.trod_string underlying9 g3
 obtain ⟨n4,e4,rfl,w4⟩:=DataW.trod_int underlying3 g4
 obtain ⟨zl,e5,w5⟩:=loss_cells g5
 simp [Tryz.cellsI] at e0 e1 e4
 simp [Tryz.cellsCmd] at e2
 simp [Tryz.cellsStr] at e3
 simp [Tryz.cellsLoss] at e5
 obtain ⟨rfl,rfl,rfl,rfl,rfl,rfl,rfl,rfl,rfl⟩:=e2
 obtain ⟨rfl,rfl,rfl,rfl⟩:=e5
 subst e0 e1 e3 e4
 refine ⟨⟨n0,n1,zc,s3,n4,zl⟩,⟨rfl,fun j hj => ?_⟩,.of_wf w1,.of_wf w4,w3,fun j _=>w5 j⟩
 have hj':¬ 17<=j:=by omega
 match j with
 | 0=>rfl
 | 1=>rfl
 | 2=>rfl
 | 3=>rfl
 | 4=>rfl
 | 5=>rfl
 | 6=>rfl
 | 7=>rfl
 | 8=>rfl
 | 9=>rfl
 | 10=>rfl
 | 11=>rfl
 | 12=>rfl
 | 13=>rfl
 | 14=>rfl
 | 15=>rfl
 | 16=>rfl
 | m+17=>omega
set_option maxRecDepth 100000 in
theorem open_ops {H:Type} {enc:TypeId×Value->H} {W:World} {base:Nat} {v:Value} {d:DataW H} {p:List MemPlace}
  (hval:Value.okWide prog W .any base 22 v) (h:DataW.Trod enc prog W 0 (fun _=>true) true 22 v d p):∃ n R,OpsIn W v n R:=by
 obtain ⟨a1,len1,cap1,rfl⟩:=okWide_slice underlying22 hval
 obtain ⟨fuel,hf⟩:=h
 rcases open_slice underlying22 hf with ⟨hcs,_⟩ | ⟨a,len,cap,m,n,D,Pl,hcs,hb,hl,hm,hmm,_,hx⟩
 ·simp [Value.cells] at hcs
  obtain ⟨rfl,rfl,rfl⟩:=hcs
  exact ⟨0,fun _=>⟨0,0,fun _=>0,.empty,0,fun _=>0⟩,none,0,rfl,by unfold maxLen;omega,fun i hi=>by omega⟩
 ·simp [Value.cells] at hcs
  obtain ⟨rfl,rfl,rfl⟩:=hcs
  simp only [if_true] at hmm
  subst hmm
  have each:∀ i,i<len1->∃ o:OpD,(∀ j,j<17->W.cell? (a.add (i*17+j))=some (o.cell j))/\I64 o.on/\I64 o.nn/\o.fr.size<=maxLen/\∀ j,j<4->I64 (o.l j):=fun i hi=>by
   obtain ⟨cs',h1,h2⟩:=hx i (by omega)
   rw [Tryz.cellsOp] at h1
   obtain ⟨_,hlen,hcell⟩:=World.cells?_some h1
   obtain ⟨o,hz,h3⟩:=op_cells h2
   refine ⟨o,fun j hj => ?_,h3⟩
   have:=hcell j hj
   rw [Addr.addadd,hz.2 j hj] at this
   exact this
  have ⟨R,hR⟩:∃ R:Nat->OpD,∀ i,i<len1->(∀ j,j<17->W.cell? (a.add (i*17+j))=some ((R i).cell j))/\I64 (R i).on/\I64 (R i).nn/\(R i).fr.size<=maxLen/\∀ j,j<4->I64 ((R i).l j):=by
   classical
   refine ⟨fun i=>if h:i<len1 then (each i h).choose else ⟨0,0,fun _=>0,.empty,0,fun _=>0⟩,fun i h => ?_⟩
   simp only [h,dif_pos]
   exact (each i h).choose_spec
  refine ⟨len1,R,some a,_,rfl,by omega,fun i hi=>⟨a,rfl,?_,(hR i hi).1,(hR i hi).2⟩⟩
  have:=cell_lt ((hR i hi).1 0 (by omega))
  rwa [Addr.add_block] at this
end
end Go.Proofs.YtalncjhldkcmaaaGreat
