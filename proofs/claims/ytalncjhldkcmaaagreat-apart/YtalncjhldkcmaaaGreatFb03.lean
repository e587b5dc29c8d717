import Derived.Test.YtalncjhldkcmaaaGreatFb00
import Derived.Laws.Rows
namespace Go.Proofs.YtalncjhldkcmaaaGreat
open _root_.Go.Proofs.Tryz
set_option maxHeartbeats 16000000
set_option maxRecDepth 8000
section
open Go.RowKit
theorem Recs.set {w:World} {e:TypeId} {k:Nat} {v:Value} {l:List (Nat->Int)} (h:Recs w e k v l) {g:Nat} (hg:v.ownBlock=some g) {i f:Nat} (hi:i<l.length) (hf:f<k) (n:Int) :
  Recs (w.setCell ⟨g,i*k+f,none⟩ (.int .i64 n)) e k v (l.set i (upd l[i] f n)):=by
 have hlt:i*k+f<l.length*k:=by
  have:(i+1)*k<=l.length*k:=Nat.mul_le_mul_right k hi
  rw [Nat.succ_mul] at this;omega
 refine ⟨by rw [List.length_set,recs_len,List.length_set],?_⟩
 rcases h.2 with ⟨hv,h0⟩ | ⟨g',cap,cur,rfl,h1,hg',h2,h3,h4,h5⟩
 ·omega
 ·injection hg with hg;subst hg
  refine .inr ⟨g',cap,cur.set! (i*k+f) (.int .i64 n),by rw [List.length_set],h1,heap_setCell_same w g' (i*k+f) cur e _ hg',by rw [List.length_set];exact h2,h3,by simp [h4],?_⟩
  rw [List.length_set]
  have e1:(cur.set! (i*k+f) (Value.int .i64 n)).toList=cur.toList.set (i*k+f) (.int .i64 n):=by simp
  rw [e1,List.take_set,h5]
  exact recs_set k l i f n hi hf
structure Bk where
 sides:Nat->Int
 tubes:List (Nat->Int)
 poured:List (Nat->Int)
structure BkAt (w:World) (b:Nat) (vt vp:Value) (k:Bk):Prop where
 lt:b<w.heap.size
 side:∀ i,i<10->w.cell? ⟨b,i,none⟩=some (.int .i64 (k.sides i))
 ct:w.cell? ⟨b,10,none⟩=some vt
 cp:w.cell? ⟨b,11,none⟩=some vp
 fz:∀ i,w.frozen? ⟨b,i,none⟩=false
 tubes:Recs w 100 11 vt k.tubes
 poured:Recs w 178 3 vp k.poured
 nt:vt.ownBlock≠some b
 np:vp.ownBlock≠some b
 tp:∀ g,vt.ownBlock=some g->vp.ownBlock≠some g
 few:k.tubes.length<1000000/\k.poured.length<1000000
def bkOwn (b:Nat) (vt vp:Value) (k:Nat):Prop:=k=b\/vt.ownBlock=some k\/vp.ownBlock=some k
theorem BkAt.keeps {S:Nat->Prop} {w w':World} {b:Nat} {vt vp:Value} {k:Bk} (h:BkAt w b vt vp k) (hk:Keeps S w w') (hs:∀ g,bkOwn b vt vp g->¬ S g):BkAt w' b vt vp k :=
 have hb:=hs b (.inl rfl)
 ⟨Nat.lt_of_lt_of_le h.lt hk.size,fun i hi=>(hk.cell h.lt hb).trans (h.side i hi),(hk.cell h.lt hb).trans h.ct,(hk.cell h.lt hb).trans h.cp,fun i=>(hk.frozen h.lt hb).trans (h.fz i),
  h.tubes.keeps hk (fun g hg=>hs g (.inr (.inl hg))),h.poured.keeps hk (fun g hg=>hs g (.inr (.inr hg))),h.nt,h.np,h.tp,h.few⟩
theorem BkAt.own_lt {w:World} {b:Nat} {vt vp:Value} {k:Bk} (h:BkAt w b vt vp k) {g:Nat} (hg:bkOwn b vt vp g):g<w.heap.size:=by
 rcases hg with rfl | hg | hg
 ·exact h.lt
 ·exact (h.tubes.lt g hg).2
 ·exact (h.poured.lt g hg).2
theorem BkAt.below {w w':World} {b:Nat} {vt vp:Value} {k:Bk} (h:BkAt w b vt vp k) (hb:Below w.heap.size w w'):BkAt w' b vt vp k :=
 h.keeps (S:=fun _=>False) (below_toKeeps hb _) (fun _ _ h=>h)
def findI (ts:List (Nat->Int)) (id:Int):Int:=if ts.findIdx (fun t=>t 0 == id)<ts.length then (ts.findIdx (fun t=>t 0 == id):Nat) else -1
theorem findI_hit {ts:List (Nat->Int)} {id:Int} {k:Nat} (hk:k<ts.length) (h:ts[k] 0=id) (hb:∀ j (hj:j<k),¬ ts[j] 0=id):findI ts id=k:=by
 have e:ts.findIdx (fun t=>t 0 == id)=k:=(List.findIdx_eq hk).2 ⟨by simpa using h,fun j hj=>by simpa using hb j hj⟩
 unfold findI;rw [e,if_pos hk]
theorem findI_miss {ts:List (Nat->Int)} {id:Int} (hb:∀ j (hj:j<ts.length),¬ ts[j] 0=id):findI ts id = -1:=by
 have e:ts.findIdx (fun t=>t 0 == id)=ts.length:=List.findIdx_eq_length.2 (fun t ht=>by
  obtain ⟨j,hj,rfl⟩:=List.getElem_of_mem ht
  simpa using hb j hj)
 unfold findI;rw [e,if_neg (by omega)]
theorem find_any (b:Nat) (vt vp:Value) (k:Bk) (id:Int) (w:World) (h:BkAt w b vt vp k) :
  Calls prog 90 #[.pointer (some ⟨b,0,none⟩),.int .i64 id] w fun e w'=>e=.returned (.int .i64 (findI k.tubes id))/\w'=w:=by
 have hct:=h.ct
 obtain ⟨oa,cap,rfl,hform⟩:=h.tubes.form
 have HF:=hid hform
 have hfew:=h.few.1
 clear hform
 go_enter func90,ntmps90
 go_wp2_with fail
 go_loop [5] (fun i=>∃ m:Nat,m<=k.tubes.length/\i=.int .i64 m/\∀ j (hj:j<m) (hj':j<k.tubes.length),¬ k.tubes[j] 0=id) (fun i=>k.tubes.length - (intOf i).toNat)
 case atStart=>exact ⟨0,Nat.zero_le _,rfl,fun j hj=>by omega⟩
 case round =>
  obtain ⟨m,hm,rfl,hno⟩:=hrel
  have HN:=hid hno
  clear hno
  by_cases hlt:m<k.tubes.length
  ·obtain ⟨g,rfl,hcap,_,_,hcell,_⟩:=HF.out m hlt
   have hc0:=hcell 0 (by omega)
   rw [Nat.add_zero] at hc0
   clear hcell
   have hlt':(m:Int)<(k.tubes.length:Int):=by omega
   by_cases he:k.tubes[m] 0=id
   ·have HE:=hid (findI_hit hlt he (fun j hj=>HN.out j hj (by omega)))
    rw [he] at hc0
    clear he
    go_wp2
    go_ret
    exact ⟨ret_int HE.out.symm,rfl⟩
   ·have HE:=hid he
    have hz:(k.tubes[m] 0 == id)=false:=by simpa using he
    clear he
    go_wp2
    go_round
    case rel =>
     refine ⟨m+1,by omega,by go_num,fun j hj hj' => ?_⟩
     by_cases e:j=m
     ·subst e;exact HE.out
     ·exact HN.out j (by omega) hj'
    case measure=>simp [intOf];omega
  ·have HE:=hid (findI_miss (fun j hj=>HN.out j (by omega) hj))
   go_wp2
   go_ret
   exact ⟨ret_int HE.out.symm,rfl⟩
end
section
open Go.RowKit
def pairI (ps:List (Nat->Int)) (a b:Int):Int:=if ps.findIdx (fun p=>p 0 == a&&p 1 == b)<ps.length then (ps.findIdx (fun p=>p 0 == a&&p 1 == b):Nat) else -1
theorem pairI_hit {ps:List (Nat->Int)} {a b:Int} {k:Nat} (hk:k<ps.length) (h:ps[k] 0=a/\ps[k] 1=b) (hb:∀ j (hj:j<k),¬ (ps[j] 0=a/\ps[j] 1=b)):pairI ps a b=k:=by
 have e:ps.findIdx (fun p=>p 0 == a&&p 1 == b)=k:=(List.findIdx_eq hk).2 ⟨by simpa using h,fun j hj=>by simpa using hb j hj⟩
 unfold pairI;rw [e,if_pos hk]
theorem pairI_miss {ps:List (Nat->Int)} {a b:Int} (hb:∀ j (hj:j<ps.length),¬ (ps[j] 0=a/\ps[j] 1=b)):pairI ps a b = -1:=by
 have e:ps.findIdx (fun p=>p 0 == a&&p 1 == b)=ps.length:=List.findIdx_eq_length.2 (fun t ht=>by
  obtain ⟨j,hj,rfl⟩:=List.getElem_of_mem ht
  simpa using hb j hj)
 unfold pairI;rw [e,if_neg (by omega)]
theorem pair_any (b:Nat) (vt vp:Value) (k:Bk) (p q:Int) (w:World) (h:BkAt w b vt vp k) :
  Calls prog 91 #[.pointer (some ⟨b,0,none⟩),.int .i64 p,.int .i64 q] w fun e w'=>e=.returned (.int .i64 (pairI k.poured p q))/\w'=w:=by
 have hcp:=h.cp
 obtain ⟨oa,cap,rfl,hform⟩:=h.poured.form
 have HF:=hid hform
 have hfew:=h.few.2
 clear hform
 go_enter func91,ntmps91
 go_wp2_with fail
 go_loop [7] (fun i=>∃ m:Nat,m<=k.poured.length/\i=.int .i64 m/\∀ j (hj:j<m) (hj':j<k.poured.length),¬ (k.poured[j] 0=p/\k.poured[j] 1=q)) (fun i=>k.poured.length - (intOf i).toNat)
 case atStart=>exact ⟨0,Nat.zero_le _,rfl,fun j hj=>by omega⟩
 case round =>
  obtain ⟨m,hm,rfl,hno⟩:=hrel
  have HN:=hid hno
  clear hno
  by_cases hlt:m<k.poured.length
  ·obtain ⟨g,rfl,hcap,_,_,hcell,_⟩:=HF.out m hlt
   have hc0:=hcell 0 (by omega)
   have hc1:=hcell 1 (by omega)
   rw [Nat.add_zero] at hc0
   clear hcell
   have hlt':(m:Int)<(k.poured.length:Int):=by omega
   by_cases he:k.poured[m] 0=p
   ·by_cases he1:k.poured[m] 1=q
    ·have HE:=hid (pairI_hit hlt ⟨he,he1⟩ (fun j hj=>HN.out j hj (by omega)))
     rw [he] at hc0
     rw [he1] at hc1
     clear he he1
     go_wp2
     go_ret
     exact ⟨ret_int HE.out.symm,rfl⟩
    ·have HE:Hid (¬ (k.poured[m] 0=p/\k.poured[m] 1=q)):=fun h=>he1 h.2
     have hz:(k.poured[m] 1 == q)=false:=by simpa using he1
     rw [he] at hc0
     clear he he1
     go_wp2
     go_round
     case rel =>
      refine ⟨m+1,by omega,by go_num,fun j hj hj' => ?_⟩
      by_cases e:j=m
      ·subst e;exact HE.out
      ·exact HN.out j (by omega) hj'
     case measure=>simp [intOf];omega
   ·have HE:Hid (¬ (k.poured[m] 0=p/\k.poured[m] 1=q)):=fun h=>he h.1
    have hz:(k.poured[m] 0 == p)=false:=by simpa using he
    clear he
    go_wp2
    go_round
    case rel =>
     refine ⟨m+1,by omega,by go_num,fun j hj hj' => ?_⟩
     by_cases e:j=m
     ·subst e;exact HE.out
     ·exact HN.out j (by omega) hj'
    case measure=>simp [intOf];omega
  ·have HE:=hid (pairI_miss (fun j hj=>HN.out j (by omega) hj))
   go_wp2
   go_ret
   exact ⟨ret_int HE.out.symm,rfl⟩
def givesB (ts:List (Nat->Int)) (d:Int):Bool:=ts.any fun t=>t 1 == d
theorem givesB_hit {ts:List (Nat->Int)} {d:Int} {m:Nat} (hm:m<ts.length) (h:ts[m] 1=d):givesB ts d=true:=by
 unfold givesB;rw [List.any_eq_true];exact ⟨ts[m],List.getElem_mem hm,by simpa using h⟩
theorem givesB_miss {ts:List (Nat->Int)} {d:Int} (h:∀ j (hj:j<ts.length),¬ ts[j] 1=d):givesB ts d=false:=by
 unfold givesB;rw [List.any_eq_false]
 intro t ht
 obtain ⟨j,hj,rfl⟩:=List.getElem_of_mem ht
 simpa using h j hj
theorem gives_any (b:Nat) (vt vp:Value) (k:Bk) (d:Int) (w:World) (h:BkAt w b vt vp k) :
  Calls prog 92 #[.pointer (some ⟨b,0,none⟩),.int .i64 d] w fun e w'=>e=.returned (.bool (givesB k.tubes d))/\w'=w:=by
 have hct:=h.ct
 obtain ⟨oa,cap,rfl,hform⟩:=h.tubes.form
 have HF:=hid hform
 have hfew:=h.few.1
 clear hform
 go_enter func92,ntmps92
 go_wp2_with fail
 go_loop [5] (fun i=>∃ m:Nat,m<=k.tubes.length/\i=.int .i64 m/\∀ j (hj:j<m) (hj':j<k.tubes.length),¬ k.tubes[j] 1=d) (fun i=>k.tubes.length - (intOf i).toNat)
 case atStart=>exact ⟨0,Nat.zero_le _,rfl,fun j hj=>by omega⟩
 case round =>
  obtain ⟨m,hm,rfl,hno⟩:=hrel
  have HN:=hid hno
  clear hno
  by_cases hlt:m<k.tubes.length
  ·obtain ⟨g,rfl,hcap,_,_,hcell,_⟩:=HF.out m hlt
   have hc0:=hcell 1 (by omega)
   clear hcell
   have hlt':(m:Int)<(k.tubes.length:Int):=by omega
   by_cases he:k.tubes[m] 1=d
   ·have HE:=hid (givesB_hit hlt he)
    rw [he] at hc0
    clear he
    go_wp2
    go_ret
    exact ⟨ret_bool HE.out,rfl⟩
   ·have HE:=hid he
    have hz:(k.tubes[m] 1 == d)=false:=by simpa using he
    clear he
    go_wp2
    go_round
    case rel =>
     refine ⟨m+1,by omega,by go_num,fun j hj hj' => ?_⟩
     by_cases e:j=m
     ·subst e;exact HE.out
     ·exact HN.out j (by omega) hj'
    case measure=>simp [intOf];omega
  ·have HE:=hid (givesB_miss (fun j hj=>HN.out j (by omega) hj))
   go_wp2
   go_ret
   exact ⟨ret_bool HE.out,rfl⟩
end
section
open Go.RowKit
def takenB (id:Int) (c t:Nat->Int):Bool:=(t 0 != id)&&(t 6 == 1)&&(t 8 == c 5)&&(t 9 == c 6)&&(t 10 == c 7)
theorem takenB_no {id:Int} {c t:Nat->Int} (h:takenB id c t=false):((t 0 != id)=false)\/((t 0 != id)=true/\(t 6 == 1)=false)\/((t 0 != id)=true/\(t 6 == 1)=true/\(t 8 == c 5)=false)\/((t 0 != id)=true/\(t 6 == 1)=true/\(t 8 == c 5)=true/\(t 9 == c 6)=false)\/((t 0 != id)=true/\(t 6 == 1)=true/\(t 8 == c 5)=true/\(t 9 == c 6)=true/\(t 10 == c 7)=false):=by
 unfold takenB at h
 revert h
 cases (t 0 != id) <;> cases (t 6 == 1) <;> cases (t 8 == c 5) <;> cases (t 9 == c 6) <;> cases (t 10 == c 7) <;> simp
theorem takenB_yes {id:Int} {c t:Nat->Int} (h:takenB id c t=true):(t 0 != id)=true/\(t 6 == 1)=true/\(t 8 == c 5)=true/\(t 9 == c 6)=true/\(t 10 == c 7)=true:=by
 unfold takenB at h
 simp only [Bool.and_eq_true] at h
 obtain ⟨⟨⟨⟨h0,h1⟩,h2⟩,h3⟩,h4⟩:=h
 exact ⟨h0,h1,h2,h3,h4⟩
def misI (k:Bk) (id:Int) (c:Nat->Int):Int :=
 if k.sides (c 5).toNat=0 then 9 else if k.sides (c 5).toNat<=c 6\/k.sides (c 5).toNat<=c 7 then 10 else if k.tubes.any (takenB id c) then 10 else 0
theorem misplaced_any (b:Nat) (vt vp:Value) (k:Bk) (id:Int) (c:Nat->Int) (w:World) (h:BkAt w b vt vp k) (h0:0<=c 5) (h9:c 5<10) :
  Calls prog 93 #[.pointer (some ⟨b,0,none⟩),.int .i64 id,.agg #[.int .i64 (c 0),.int .i64 (c 1),.int .i64 (c 2),.int .i64 (c 3),.int .i64 (c 4),.int .i64 (c 5),.int .i64 (c 6),.int .i64 (c 7),.int .i64 (c 8)]] w fun e w'=>e=.returned (.int .i64 (misI k id c))/\Below w.heap.size w w':=by
 obtain ⟨box,hbox⟩:=Int.eq_ofNat_of_zero_le h0
 have hC0:=Has.new w 31 c
 have hb0:=(Below.refl w.heap.size w).alloc nlr (.cells #[.int .i64 (c 0),.int .i64 (c 1),.int .i64 (c 2),.int .i64 (c 3),.int .i64 (c 4),.int .i64 (c 5),.int .i64 (c 6),.int .i64 (c 7),.int .i64 (c 8)] 31)
 have hK0:=h.below hb0
 rw [hbox] at hC0 hb0 hK0
 have hB1:box<10:=by omega
 have hside:=h.side box hB1
 have hlt:=h.lt
 have hbt:(box:Int)<10:=by omega
 have hmis:Hid (misI k id c=if k.sides box=0 then 9 else if k.sides box<=c 6\/k.sides box<=c 7 then 10 else if k.tubes.any (takenB id c) then 10 else 0):=by
  unfold misI;rw [hbox];exact hid rfl
 have hbn:¬ b=w.heap.size:=by omega
 by_cases hs0:k.sides box=0
 ·have HM:Hid (misI k id c=9):=by rw [hmis.out,if_pos hs0];exact hid rfl
  rw [hs0] at hside
  go_enter func93,ntmps93
  go_wp2_with fail
  go_quiet (fail)
  go_wp2
  go_ret
  exact ⟨ret_int HM.out.symm,below_drewN hb0 _⟩
 ·have hs0':(k.sides box == 0)=false:=by simpa using hs0
  by_cases hx:k.sides box<=c 6
  ·have HM:Hid (misI k id c=10):=by rw [hmis.out,if_neg hs0,if_pos (.inl hx)];exact hid rfl
   clear hs0
   go_enter func93,ntmps93
   go_wp2_with fail
   go_quiet (fail)
   go_wp2
   go_ret
   exact ⟨ret_int HM.out.symm,below_drewN hb0 _⟩
  ·have hx':decide (k.sides box<=c 6)=false:=by simpa using hx
   by_cases hy:k.sides box<=c 7
   ·have HM:Hid (misI k id c=10):=by rw [hmis.out,if_neg hs0,if_pos (.inr hy)];exact hid rfl
    clear hs0
    go_enter func93,ntmps93
    go_wp2_with fail
    go_quiet (fail)
    go_wp2
    go_ret
    exact ⟨ret_int HM.out.symm,below_drewN hb0 _⟩
   ·have hy':decide (k.sides box<=c 7)=false:=by simpa using hy
    have HM:Hid (misI k id c=if k.tubes.any (takenB id c) then 10 else 0):=by rw [hmis.out,if_neg hs0,if_neg (by omega)];exact hid rfl
    clear hs0 hx hy hmis
    go_enter func93,ntmps93
    go_wp2_with fail
    go_quiet (fail)
    go_wp2_with fail
    have hC1:=hC0.drewN nq
    have hK1:BkAt ((w.alloc (.cells #[.int .i64 (c 0),.int .i64 (c 1),.int .i64 (c 2),.int .i64 (c 3),.int .i64 (c 4),.int .i64 (box:Int),.int .i64 (c 6),.int .i64 (c 7),.int .i64 (c 8)] 31)).drewN nq) b vt vp k:=hK0.below (below_drewN (Below.refl _ _) nq)
    have hb1:=below_drewN hb0 nq
    have hz1:w.heap.size<((w.alloc (.cells #[.int .i64 (c 0),.int .i64 (c 1),.int .i64 (c 2),.int .i64 (c 3),.int .i64 (c 4),.int .i64 (box:Int),.int .i64 (c 6),.int .i64 (c 7),.int .i64 (c 8)] 31)).drewN nq).heap.size:=by simp
    generalize (w.alloc (.cells #[.int .i64 (c 0),.int .i64 (c 1),.int .i64 (c 2),.int .i64 (c 3),.int .i64 (c 4),.int .i64 (box:Int),.int .i64 (c 6),.int .i64 (c 7),.int .i64 (c 8)] 31)).drewN nq=w1 at hC1 hK1 hb1 hz1 ⊢
    clear hC0 hK0 hb0
    have hkl:=hK1.lt
    have hct:=hK1.ct
    obtain ⟨oa,cap,rfl,hform⟩:=hK1.tubes.form
    have HF:=hid hform
    have hfew:=h.few.1
    clear hform
    go_loopw [8] (fun i wr=>∃ m:Nat,m<=k.tubes.length/\i=.int .i64 m/\Below w1.heap.size w1 wr/\∀ j (hj:j<m) (hj':j<k.tubes.length),takenB id c k.tubes[j]=false) (fun i _=>k.tubes.length - (intOf i).toNat)
    case atStart=>exact ⟨0,Nat.zero_le _,rfl,Below.refl _ _,fun j hj=>by omega⟩
    case round =>
     obtain ⟨m,hm,rfl,hbr,hno⟩:=hrel
     have HN:=hid hno
     clear hno
     have hctr:=(hbr.cell (p:=⟨b,10,none⟩) hkl).trans hct
     have hzr:=hbr.size
     have hCr:=hC1.below hbr hz1
     have c5:=hCr.1 5 (by omega)
     have c6:=hCr.1 6 (by omega)
     have c7:=hCr.1 7 (by omega)
     rw [hbox] at c5
     have hwr:w.heap.size<wr.heap.size:=by omega
     by_cases hlt2:m<k.tubes.length
     ·obtain ⟨g,rfl,hcap,_,hgl,hcell,_⟩:=HF.out m hlt2
      have HCe:=hid (fun f hf=>(hbr.cell (p:=⟨g,m*11+f,none⟩) hgl).trans (hcell f hf))
      clear hcell
      have t0:=HCe.out 0 (by omega)
      have t1:=HCe.out 1 (by omega)
      have t2:=HCe.out 2 (by omega)
      have t3:=HCe.out 3 (by omega)
      have t4:=HCe.out 4 (by omega)
      have t5:=HCe.out 5 (by omega)
      have t6:=HCe.out 6 (by omega)
      have t7:=HCe.out 7 (by omega)
      have t8:=HCe.out 8 (by omega)
      have t9:=HCe.out 9 (by omega)
      have t10:=HCe.out 10 (by omega)
      rw [Nat.add_zero] at t0
      clear HCe
      have hlt':(m:Int)<(k.tubes.length:Int):=by omega
      cases hT:takenB id c k.tubes[m] with
      | true =>
       have HE:Hid (misI k id c=10):=by rw [HM.out,if_pos (List.any_eq_true.2 ⟨_,List.getElem_mem hlt2,hT⟩)];exact hid rfl
       obtain ⟨g0,g1,g2,g3,g4⟩:=takenB_yes hT
       rw [hbox] at g2
       clear hT
       generalize k.tubes[m]=t at *
       go_wp2
       go_ret
       exact ⟨ret_int HE.out.symm,hb1.trans ((hbr.mono (by omega)).trans ((Below.refl _ _).alloc (by omega) _))⟩
      | false =>
       have HT:=hid hT
       have hno:=takenB_no hT
       rw [hbox] at hno
       clear hT
       have HNe:Hid (∀ j (hj:j<m+1) (hj':j<k.tubes.length),takenB id c k.tubes[j]=false):=by
        intro j hj hj'
        by_cases e:j=m
        ·subst e;exact HT.out
        ·exact HN.out j (by omega) hj'
       clear HT
       generalize k.tubes[m]=t at *
       rcases hno with g0 | ⟨g0,g1⟩ | ⟨g0,g1,g2⟩ | ⟨g0,g1,g2,g3⟩ | ⟨g0,g1,g2,g3,g4⟩
       all_goals
        go_wp2
        go_roundw
        case rel=>exact ⟨m+1,by omega,by go_num,hbr.alloc hzr _,HNe.out⟩
        case measure=>simp [intOf];omega
     ·have HE:Hid (misI k id c=0):=by
       rw [HM.out,if_neg]
       ·exact hid rfl
       ·intro hh
        obtain ⟨t,ht,h2⟩:=List.any_eq_true.1 hh
        obtain ⟨j,hj,rfl⟩:=List.getElem_of_mem ht
        rw [HN.out j (by omega) hj] at h2
        cases h2
      go_wp2
      go_ret
      exact ⟨ret_int HE.out.symm,hb1.trans (hbr.mono (by omega))⟩
end
section
open Go.RowKit
def ltr (f:Nat):UInt8:=[116,111,100,118,98,120,121,110,113].getD f 0
def ltrs (k:Int):List UInt8:=(flds k).map ltr
theorem letters_yes (k:Int) (h1:1<=k) (h2:k<=16) (w:World) :
  Calls prog 52 #[.int .i64 k] w fun e w'=>e=.returned (.string ⟨(ltrs k).toArray⟩)/\Below w.heap.size w w':=by
 rcases kinds h1 h2 with rfl | rfl | rfl | rfl | rfl | rfl | rfl | rfl | rfl | rfl | rfl | rfl | rfl | rfl | rfl | rfl
 all_goals
  go_enter func52,ntmps52
  go_wp2
  go_ret
  exact ⟨rfl,bal⟩
theorem letters_no (k:Int) (h:k<1\/16<k) (w:World) :
  Calls prog 52 #[.int .i64 k] w fun e w'=>e=.returned (.string ⟨#[]⟩)/\Below w.heap.size w w':=by
 rcases h with h | h
 ·go_enter func52,ntmps52
  go_wp2
  go_ret
  exact ⟨rfl,bal⟩
 ·have h':decide (k<1)=false:=by simp;omega
  go_enter func52,ntmps52
  go_wp2
  go_ret
  exact ⟨rfl,bal⟩
theorem bounds_any (f:Nat) (hf:f<9) (w:World) :
  Calls prog 54 #[.int .u8 ((ltr f).toNat:Int)] w fun e w'=>e=.returned (.tuple #[.int .i64 (lo f),.int .i64 (hi f)])/\w'=w:=by
 rcases lt9 hf with rfl | rfl | rfl | rfl | rfl | rfl | rfl | rfl | rfl
 all_goals
  show Calls prog 54 #[.int .u8 _] w _
  simp only [ltr,List.getD_cons_zero,List.getD_cons_succ]
  go_enter func54,ntmps54
  go_wp2
  go_ret2
  exact ⟨rfl,rfl⟩
end
end Go.Proofs.YtalncjhldkcmaaaGreat
