import Derived.Test.YtalncjhldkcmaaaGreatFb32
import Derived.Test.YtalncjhldkcmaaaGreatFb19
import Derived.Test.YtalncjhldkcmaaaGreatFb09
import Derived.Test.YtalncjhldkcmaaaGreatFb00
import Derived.Deep.Slices
import Derived.Carry
import Derived.ProofKit
namespace Go.Proofs.YtalncjhldkcmaaaGreat
set_option maxHeartbeats 16000000
set_option maxRecDepth 8000
section
open Go.RowKit Go.Shelf
namespace Led
variable {L:Led} {m:Cm}
theorem memG_len (S:Nat->Bool):(memG S).length<=1000:=memTo_len S 1000
theorem memG_lt {S:Nat->Bool} {n:Nat} (h:n∈memG S):n<1000:=List.mem_range.1 (List.mem_filter.1 h).1
theorem tell_range (hI:L.Inv) (hf:L.kvs.length<7000):∀ z∈L.tell m,0<=z/\z<=1000000:=by
 have hl:L.ts.length<7000:=by rw [Led.len] at hf;omega
 intro z hz
 unfold tell at hz
 split at hz
 ·simp only [List.mem_singleton] at hz;subst hz
  have:(L.hits m.d).length<=L.ts.length:=List.length_filter_le _ _
  omega
 split at hz
 ·have hg:=tubeD_ok hI.ok m.t
  have h2:(L.tubeD m.t).began<=1000000/\(L.tubeD m.t).left<=1000000/\(L.tubeD m.t).used<=1000000/\(L.tubeD m.t).lost<=1000000:=by
   unfold tubeD
   cases e:L.tube m.t with
   | none=>exact ⟨by decide,by decide,by decide,by decide⟩
   | some q =>
    have g:=(hI.ok.t1 _ ((tube_mem hI.ok).1 e)).2.2
    exact ⟨g.began,g.left,g.used,g.lost⟩
  have a1:=hg.donor;have a2:=hg.status;have a3:=hg.thaws;have a4:=hg.box;have a5:=hg.x;have a6:=hg.y
  simp only [showQ,List.mem_cons,List.not_mem_nil,or_false] at hz
  rcases hz with rfl | rfl | rfl | rfl | rfl | rfl | rfl | rfl | rfl | rfl <;> omega
 split at hz
 ·obtain ⟨t,ht,hz⟩:=List.mem_flatMap.1 hz
  have h1:=hI.ok.t1 t (List.mem_filter.1 ht).1
  have a5:=h1.2.2.x;have a6:=h1.2.2.y
  simp only [List.mem_cons,List.not_mem_nil,or_false] at hz
  rcases hz with rfl | rfl | rfl <;> omega
 split at hz
 ·obtain ⟨t,ht,rfl⟩:=List.mem_map.1 hz
  have h1:=hI.ok.t1 t (List.mem_filter.1 ht).1
  omega
 split at hz
 ·obtain ⟨n,hn,rfl⟩:=List.mem_map.1 hz
  have:=memG_lt hn;omega
 split at hz
 ·obtain ⟨n,hn,rfl⟩:=List.mem_map.1 hz
  have:=memG_lt hn;omega
 ·cases hz
theorem tell_len (hf:L.kvs.length<7000):(L.tell m).length<65536:=by
 have hl:L.ts.length<7000:=by rw [Led.len] at hf;omega
 unfold tell
 split
 ·simp
 split
 ·simp [showQ]
 split
 ·rw [contQ_len];have:=List.length_filter_le (inBox m.b) L.ts;omega
 split
 ·have:=ofN_len m.d L.ts;omega
 split
 ·have:=memG_len (kinS (upS (single m.t) L.ps) m.t);simp only [natsI,List.length_map];omega
 split
 ·have:=memG_len (kinS (downS (single m.t) L.ps) m.t);simp only [natsI,List.length_map];omega
 ·simp
def fLed (L:Led) (lim:Nat) (s:List UInt8):Led:=if decB s then L.stepL lim (Cm.of (decC s)) else L
def fErr (L:Led) (lim:Nat) (s:List UInt8):Int:=if decB s then L.stepE lim (Cm.of (decC s)) else 1
def fNum (L:Led) (lim:Nat) (s:List UInt8):List Int:=if decB s then L.stepN lim (Cm.of (decC s)) else []
theorem stepE_range (L:Led) (lim:Nat) (m:Cm):0<=L.stepE lim m/\L.stepE lim m<=10:=by
 unfold stepE
 have:=err_range L m
 split
 ·split <;> omega
 ·exact this
theorem stepN_range (hI:L.Inv) (hf:L.kvs.length<7000) (lim:Nat):∀ z∈L.stepN lim m,0<=z/\z<=1000000:=by
 unfold stepN
 split
 ·exact tell_range hI hf
 ·intro z hz;cases hz
theorem stepN_len (hf:L.kvs.length<7000) (lim:Nat):(L.stepN lim m).length<65536:=by
 unfold stepN
 split
 ·exact tell_len hf
 ·simp
end Led
end
section
open Go.RowKit Go.Shelf
def Led.none:Led:=⟨[],[],[]⟩
theorem Led.none_ok:Led.none.Ok:=⟨.nil,.nil,.nil,(fun _ h=>by cases h),(fun _ h=>by cases h),(fun _ h=>by cases h)⟩
theorem Cm.back {m:Cm} (h:encB m.ints=true):decB (encS m.ints)=true/\Cm.of (decC (encS m.ints))=m:=by
 obtain ⟨h1,h2⟩:=enc_dec m.ints h
 refine ⟨?_,?_⟩
 ·unfold decE at h1
  split at h1
  ·assumption
  ·cases h1
 ·unfold Cm.of
  rw [h2 0 (by omega),h2 1 (by omega),h2 2 (by omega),h2 3 (by omega),h2 4 (by omega),h2 5 (by omega),h2 6 (by omega),h2 7 (by omega),h2 8 (by omega)]
  rfl
def I64 (c:Int):Prop:=-9223372036854775808<=c/\c<=9223372036854775807
theorem enc_of {m:Cm} {fs:List Nat} (hk:flds (m.k:Int)=fs) (h1:1<=m.k/\m.k<=16) (ho:okAll m.ints fs=true) (hm:∀ i,i<9->clr m.ints fs i=0):encB m.ints=true:=by
 have e0:m.ints 0=m.k:=rfl
 unfold encB
 rw [e0,hk,ho,more_f hm,decide_eq_true (show 1<=(m.k:Int) by omega),decide_eq_true (show (m.k:Int)<=16 by omega)]
 rfl
def cmShow (n:Nat):Cm:=⟨12,n,0,0,0,0,0,0,0⟩
theorem below_keeps {w w1 w2:World} (h:Below w.heap.size w w1) {X:Nat->Prop} (hk:Keeps X w1 w2) (hx:∀ k,X k->w.heap.size<=k):Below w.heap.size w w2 :=
 h.trans (hk.toBelow hx h.size)
theorem Addr.addadd (a:Addr) (i j:Nat):(a.add i).add j=a.add (i+j):=by
 unfold Addr.add
 by_cases h:j=0
 ·subst h;simp
 ·by_cases h2:i=0
  ·subst h2;simp [h]
  ·simp [h,h2,Nat.add_assoc]
theorem Addr.add_block (a:Addr) (i:Nat):(a.add i).block=a.block:=by unfold Addr.add;split <;> rfl
end
section
namespace Led
variable {L:Led} {m:Cm}
def SmallQ (n:Nat) (q:PT):Prop:=n<=12/\q.box<=2/\(q.status=3->q.left=0)
def Small (L:Led):Prop:=L.Each SmallQ
end Led
theorem downF_at (S:Nat->Bool) (p:PN) (j:Nat):downF S p j=(S j||(S p.1&&decide (j=p.2.1))):=by
 unfold downF
 cases h:S p.1
 ·rw [if_neg (by simp)];simp
 ·rw [if_pos rfl];unfold orL;simp
theorem downF_or (S T:Nat->Bool) (p:PN):downF (fun j=>S j||T j) p=fun j=>downF S p j||downF T p j:=by
 funext j
 rw [downF_at,downF_at,downF_at]
 cases S j <;> cases T j <;> cases S p.1 <;> cases T p.1 <;> simp
theorem downS_or (ps:List PN):∀ S T:Nat->Bool,downS (fun j=>S j||T j) ps=fun j=>downS S ps j||downS T ps j:=by
 induction ps with
 | nil=>intro S T;rfl
 | cons p ps ih =>
  intro S T
  show downS (downF (fun j=>S j||T j) p) ps=_
  rw [downF_or]
  exact ih _ _
theorem downS_none (ps:List PN):downS (fun _=>false) ps=fun _=>false:=by
 induction ps with
 | nil=>rfl
 | cons p ps ih =>
  show downS (downF (fun _=>false) p) ps=_
  have:downF (fun _=>false) p=fun _=>false:=by funext j;simp [downF]
  rw [this];exact ih
theorem downS_list (ps:List PN) (zs:List Nat) (j:Nat):downS (orL (fun _=>false) zs) ps j=zs.any fun z=>downS (single z) ps j:=by
 induction zs with
 | nil =>
  have:orL (fun _=>false) []=fun _=>false:=by funext j;simp [orL]
  rw [this,downS_none];rfl
 | cons z zs ih =>
  have:orL (fun _=>false) (z::zs)=fun j=>single z j||orL (fun _=>false) zs j:=by funext j;simp [orL,single]
  rw [this,downS_or]
  simp only [List.any_cons,ih]
end
section
open Go.RowKit
theorem downS_mono (ps:List PN):∀ (S:Nat->Bool) (j:Nat),S j=true->downS S ps j=true:=by
 induction ps with
 | nil=>intro S j h;exact h
 | cons p ps ih =>
  intro S j h
  show downS (downF S p) ps j=true
  exact ih _ j (by rw [downF_at,h];rfl)
theorem downS_self (ps:List PN) (z:Nat):downS (single z) ps z=true:=downS_mono ps _ z (by simp [single,orL])
theorem downS_from (ps:List PN):∀ (S:Nat->Bool) (j:Nat),downS S ps j=true->S j=true\/∃ p∈ps,p.2.1=j:=by
 induction ps with
 | nil=>intro S j h;exact .inl h
 | cons p ps ih =>
  intro S j h
  rcases ih (downF S p) j h with h1 | ⟨q,hq,e⟩
  ·rw [downF_at] at h1
   simp only [Bool.or_eq_true,Bool.and_eq_true,decide_eq_true_eq] at h1
   rcases h1 with h1 | h1
   ·exact .inl h1
   ·exact .inr ⟨p,List.mem_cons_self ..,h1.2.symm⟩
  ·exact .inr ⟨q,List.mem_cons_of_mem _ hq,e⟩
namespace Led
variable {L:Led}
def cmOf (d:Nat):Cm:=⟨14,0,0,d,0,0,0,0,0⟩
def cmDown (n:Nat):Cm:=⟨16,n,0,0,0,0,0,0,0⟩
def ids (L:Led) (d:Nat):List Nat:=(L.ts.filter fun t=>decide ((t.2.donor:Int)=d)).map Prod.fst
theorem goneS_ids (L:Led) (d k:Nat):L.goneS d k=(L.ids d).any fun z=>downS (single z) L.ps k:=downS_list L.ps (L.ids d) k
def below (L:Led) (n:Nat):List Nat:=memG (kinS (downS (single n) L.ps) n)
theorem mem_below {n k:Nat}:k∈L.below n↔k<1000/\k≠n/\downS (single n) L.ps k=true:=by
 unfold below memG memTo kinS
 rw [List.mem_filter,List.mem_range]
 constructor
 ·rintro ⟨h1,h2⟩
  split at h2
  ·cases h2
  ·next e=>exact ⟨h1,e,h2⟩
 ·rintro ⟨h1,h2,h3⟩
  exact ⟨h1,by rw [if_neg h2];exact h3⟩
theorem wd_good (hI:L.Inv) (d:Nat):∀ t∈L.ts,(L.goneS d t.1&&!decide (t.2.status=3))=true->(PT.lostAll t.2).Good:=fun t ht _=>by
 have g:=(hI.ok.t1 t ht).2.2
 exact ⟨by show (0:Nat)<5;omega,by show (0:Nat)<5;omega,by show (0:Nat)<=9;omega,g.donor,by show 1<=3/\3<=3;omega,g.thaws,g.began,by show (0:Nat)<=1000000;omega,g.used,g.left⟩
end Led
end
section
open Go.RowKit
namespace Led
variable {L:Led}
end Led
end
section
open Go.RowKit
def flipXY (s:Nat) (p:Nat×Nat):Nat×Nat:=(s - 1 - p.1,p.2)
namespace Led
variable {L:Led}
def PTmv (g:Nat×Nat->Nat×Nat) (q:PT):PT:={ q with x:=(g (q.x,q.y)).1,y:=(g (q.x,q.y)).2 }
def mvB (L:Led) (b:Nat) (g:Nat×Nat->Nat×Nat):Led:=L.mapT (inBox b) (PTmv g)
theorem mvB_id {b:Nat} {g:Nat×Nat->Nat×Nat} (e:∀ t∈L.ts,inBox b t=true->g (t.2.x,t.2.y)=(t.2.x,t.2.y)):L.mvB b g=L:=by
 unfold mvB mapT
 have:(L.ts.map fun t=>if inBox b t then (t.1,PTmv g t.2) else t)=L.ts:=by
  refine (List.map_congr_left fun t ht => ?_).trans (List.map_id L.ts)
  by_cases hp:inBox b t=true
  ·rw [if_pos hp]
   unfold PTmv
   rw [e t ht hp];rfl
  ·rw [if_neg hp];rfl
 rw [this]
theorem in_range (hI:L.Inv) {b:Nat} (hb:1<=b):∀ t∈L.ts,inBox b t=true->t.2.x<L.sideN b/\t.2.y<L.sideN b:=fun t ht hp=>by
 have e:t.2.box=b:=by simp only [inBox,decide_eq_true_eq] at hp;omega
 have:=hI.place t ht (by omega)
 rwa [e] at this
def cmTurn (b n:Nat):Cm:=⟨10,0,0,0,0,b,0,0,n⟩
def cmFlip (b:Nat):Cm:=⟨11,0,0,0,0,b,0,0,0⟩
theorem turn_act (hI:L.Inv) {b n:Nat} (hb:1<=b):L.act (cmTurn b n)=L.mvB b (turnXY (L.sideN b) n):=by
 have hs5:=sideN_lt hI.ok b
 have:L.act (cmTurn b n)=L.chg (fun q=>q.turnedBy (L.sideN b) n) (L.ts.filter (inBox b)):=by simp [Led.act,cmTurn]
 rw [this,chg_map hI.ok (inBox b) (fun q=>q.turnedBy (L.sideN b) n) (fun t ht hp => ?_)]
 ·rfl
 ·have g:=(hI.ok.t1 t ht).2.2
  have h2:=in_range hI hb t ht hp
  have h3:=turnXY_lt (p:=(t.2.x,t.2.y)) h2.1 h2.2 n
  exact ⟨by show (turnXY _ _ _).1<5;omega,by show (turnXY _ _ _).2<5;omega,g.box,g.donor,g.status,g.thaws,g.began,g.left,g.used,g.lost⟩
theorem flip_act (hI:L.Inv) {b:Nat} (hb:1<=b):L.act (cmFlip b)=L.mvB b (flipXY (L.sideN b)):=by
 have hs5:=sideN_lt hI.ok b
 have:L.act (cmFlip b)=L.chg (fun q=>q.flippedIn (L.sideN b)) (L.ts.filter (inBox b)):=by simp [Led.act,cmFlip]
 rw [this,chg_map hI.ok (inBox b) (fun q=>q.flippedIn (L.sideN b)) (fun t ht hp => ?_)]
 ·rfl
 ·have g:=(hI.ok.t1 t ht).2.2
  have h2:=in_range hI hb t ht hp
  exact ⟨by show L.sideN b - 1 - t.2.x<5;omega,g.y,g.box,g.donor,g.status,g.thaws,g.began,g.left,g.used,g.lost⟩
end Led
end
section
open Go.RowKit
namespace Led
variable {L:Led}
end Led
end
section
open Go.RowKit
theorem upF_at (S:Nat->Bool) (p:PN) (j:Nat):upF S p j=(S j||(S p.2.1&&decide (j=p.1))):=by
 unfold upF
 cases h:S p.2.1
 ·rw [if_neg (by simp)];simp
 ·rw [if_pos rfl];unfold orL;simp
theorem upS_cons (S:Nat->Bool) (p:PN) (ps:List PN):upS S (p::ps)=upF (upS S ps) p:=by simp [upS]
theorem downS_cons1 (p:PN) (ps:List PN) (k j:Nat):downS (single k) (p::ps) j=(downS (single k) ps j||(decide (k=p.1)&&downS (single p.2.1) ps j)):=by
 show downS (downF (single k) p) ps j=_
 by_cases h:k=p.1
 ·have e:downF (single k) p=fun i=>single k i||single p.2.1 i:=by
   funext i
   rw [downF_at]
   have:single k p.1=true:=by simp [single,orL,h]
   rw [this]
   simp [single,orL]
  rw [e,downS_or]
  simp [h]
 ·have e:downF (single k) p=single k:=by
   funext i
   rw [downF_at]
   have:single k p.1=false:=by simp [single,orL];exact fun e=>h e.symm
   rw [this]
   simp
  rw [e]
  simp [h]
theorem up_down (ps:List PN):∀ k id:Nat,upS (single id) ps k=downS (single k) ps id:=by
 induction ps with
 | nil =>
  intro k id
  show single id k=single k id
  simp only [single,orL,List.contains_cons,List.contains_nil,Bool.false_or,Bool.or_false]
  by_cases h:k=id
  ·subst h;rfl
  ·rw [beq_eq_false_iff_ne.2 h,beq_eq_false_iff_ne.2 (fun e=>h e.symm)]
 | cons p ps ih =>
  intro k id
  rw [upS_cons,upF_at,downS_cons1,ih,ih]
  cases downS (single k) ps id <;> cases downS (single p.2.1) ps id <;> simp
namespace Led
variable {L:Led}
def cmUp (n:Nat):Cm:=⟨15,n,0,0,0,0,0,0,0⟩
def above (L:Led) (n:Nat):List Nat:=memG (kinS (upS (single n) L.ps) n)
theorem mem_above {n k:Nat}:k∈L.above n↔k<1000/\k≠n/\upS (single n) L.ps k=true:=by
 unfold above memG memTo kinS
 rw [List.mem_filter,List.mem_range]
 constructor
 ·rintro ⟨h1,h2⟩
  split at h2
  ·cases h2
  ·next e=>exact ⟨h1,e,h2⟩
 ·rintro ⟨h1,h2,h3⟩
  exact ⟨h1,by rw [if_neg h2];exact h3⟩
theorem down_tube (hI:L.Inv) {k id:Nat} (h:downS (single k) L.ps id=true) (hne:id≠k):(L.tube id).isSome=true:=by
 rcases downS_from L.ps _ id h with h1 | ⟨p,hp,rfl⟩
 ·have e:id=k:=by simpa [single,orL] using h1
  exact absurd e hne
 ·exact (hI.wired p hp).2
theorem up_from (ps:List PN):∀ (S:Nat->Bool) (j:Nat),upS S ps j=true->S j=true\/∃ p∈ps,p.1=j:=by
 induction ps with
 | nil=>intro S j h;exact .inl h
 | cons p ps ih =>
  intro S j h
  rw [upS_cons,upF_at] at h
  simp only [Bool.or_eq_true,Bool.and_eq_true,decide_eq_true_eq] at h
  rcases h with h | h
  ·rcases ih S j h with h1 | ⟨q,hq,e⟩
   ·exact .inl h1
   ·exact .inr ⟨q,List.mem_cons_of_mem _ hq,e⟩
  ·exact .inr ⟨p,List.mem_cons_self ..,h.2.symm⟩
theorem up_tube (hI:L.Inv) {k id:Nat} (h:upS (single id) L.ps k=true) (hne:k≠id):(L.tube k).isSome=true:=by
 rcases up_from L.ps _ k h with h1 | ⟨p,hp,rfl⟩
 ·have e:k=id:=by simpa [single,orL] using h1
  exact absurd e hne
 ·exact (hI.wired p hp).1
end Led
end
section
open Go.RowKit
namespace Led
variable {L:Led}
def cmCont (b:Nat):Cm:=⟨13,0,0,0,0,b,0,0,0⟩
theorem contQ_len:∀ l:List TN,(contQ l).length=3*l.length
 | []=>rfl
 | t::l=>by
  have e:contQ (t::l)=[(t.1:Int),(t.2.x:Int),(t.2.y:Int)]++contQ l:=rfl
  rw [e,List.length_append,contQ_len l]
  show 3+3*l.length=3*(l.length+1)
  omega
end Led
end
section
open Go.ChangeShapes Go.WideShapes Go.ChangeAt Go.RowKit Go.Shelf Go.Deep
theorem Tryz.cellsI:Tryz.prog.cellsOf 3=1:=by kernel_rfl
theorem Tryz.laidOut:laidOutB Tryz.prog=true:=by kernel_rfl
theorem I64.of_wf {z:Int} (h:(Lit.int .i64 z).wf=true):I64 z:=by
 simp only [Lit.wf,Bool.and_eq_true,decide_eq_true_eq] at h
 exact h
theorem cell_lt {w:World} {a:Addr} {v:Value} (h:w.cell? a=some v):a.block<w.heap.size:=by
 by_cases hb:a.block<w.heap.size
 ·exact hb
 ·have:w.heap[a.block]? = none:=Array.getElem?_eq_none (by omega)
  simp [World.cell?,this] at h
end
end Go.Proofs.YtalncjhldkcmaaaGreat
