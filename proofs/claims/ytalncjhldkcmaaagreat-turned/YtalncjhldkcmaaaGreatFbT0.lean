import Derived.Test.YtalncjhldkcmaaaGreatFbW2
import Derived.Test.YtalncjhldkcmaaaGreatFbW3
import Derived.RangeFuncNested
import Derived.RangeFuncBound
import Derived.RangeFuncCalls
import Derived.RangeFuncLeaves
import Derived.Shelf.Abstract
import Derived.Shelf.RegionOpen
import Derived.WalkKit
import Derived.OwnWalkIn
import Derived.TacticsInMore
import Derived.LoopNIn
import Derived.LoopIn
import Derived.WalkSpells
import Derived.WalkLawsBesides
import Derived.Deep.QuietTactic
import Derived.BigQuiet
import Derived.Laws.BitsLemmas
import Derived.Laws.IdiomStrings
import Derived.Deep.RegionWith
import Derived.Deep.DeepCutAuto
import Derived.Laws.OwnMore
import Derived.BigRegion
import Derived.Deep.CutRange
import Derived.Lib.AppendZeros
import Derived.Deep.Quiet
import Derived.Lib.AppendStr
import Derived.Laws.EntriesVeiled
import Derived.RangeFuncRecord
import Derived.Deep.RegionHeld3
import Derived.OrdersHeld
import Derived.OwnWalk
import Derived.Lib.FrozenHead2
import Derived.Deep.WholeRow
import Derived.Lib.ConvBytes
import Derived.Lib.QuietBelow
import Derived.Laws.AppendOwn
import Derived.Lib.BufferWrite
import Derived.Deep.AppendLies
import Derived.Deep.Slices
import Derived.Carry
import Derived.ProofKit
namespace Go.Proofs.YtalncjhldkcmaaaGreat
open _root_.Go.Proofs.Tryz
set_option maxHeartbeats 16000000
set_option maxRecDepth 8000
section
section
open Go.RowKit
theorem turn_back {s n:Nat} {p:Nat×Nat} (h1:p.1<s) (h2:p.2<s) (hn:n=1\/n=2\/n=3):turnXY s (4 - n) (turnXY s n p)=p:=by
 obtain ⟨x,y⟩:=p
 simp only at h1 h2
 rcases hn with rfl | rfl | rfl <;> simp only [turnXY,Nat.reduceSub] <;> refine Prod.ext ?_ ?_ <;> simp only <;> omega
theorem flip_turn {s n:Nat} {p:Nat×Nat} (h1:p.1<s) (h2:p.2<s) (hn:n=1\/n=2\/n=3):turnXY s n (flipXY s (turnXY s n (flipXY s p)))=p:=by
 obtain ⟨x,y⟩:=p
 simp only at h1 h2
 rcases hn with rfl | rfl | rfl <;> simp only [turnXY,flipXY] <;> refine Prod.ext ?_ ?_ <;> simp only <;> omega
theorem turn_half {s:Nat} {p:Nat×Nat} (h1:p.1<s) (h2:p.2<s):turnXY s 3 (flipXY s (turnXY s 1 (flipXY s p)))=turnXY s 2 p:=by
 obtain ⟨x,y⟩:=p
 simp only at h1 h2
 simp only [turnXY,flipXY]
 refine Prod.ext ?_ ?_ <;> simp only <;> omega
namespace Led
variable {L:Led}
theorem mvB_congr {b:Nat} {g h:Nat×Nat->Nat×Nat} (e:∀ t∈L.ts,inBox b t=true->g (t.2.x,t.2.y)=h (t.2.x,t.2.y)):L.mvB b g=L.mvB b h:=by
 unfold mvB mapT
 congr 1
 refine List.map_congr_left fun t ht => ?_
 by_cases hp:inBox b t=true
 ·rw [if_pos hp,if_pos hp]
  unfold PTmv
  rw [e t ht hp]
 ·rw [if_neg hp,if_neg hp]
theorem mvB_side (L:Led) (b c:Nat) (g:Nat×Nat->Nat×Nat):(L.mvB b g).sideN c=L.sideN c:=rfl
theorem flip_step (hI:L.Inv) {b:Nat} (hb:1<=b) (hf:L.kvs.length<=32):L.stepL 32 (cmFlip b)=if L.sideN b=0 then L else L.mvB b (flipXY (L.sideN b)):=by
 by_cases h:L.sideN b=0
 ·have he:L.err (cmFlip b)=9:=by
   simp only [Led.err,Led.asksT,Led.asksO,Led.asksD,Led.asksB,cmFlip]
   simp [askAll,askI,h]
  simp [Led.stepL,he,h]
 ·have he:L.err (cmFlip b)=0:=by
   simp only [Led.err,Led.asksT,Led.asksO,Led.asksD,Led.asksB,cmFlip]
   simp [askAll,askI,h]
  simp [Led.stepL,he,h,flip_act hI hb,mvB_len,hf]
end Led
end
section
open Go.RowKit
namespace Led
variable {L:Led}
theorem cmFlip_r {b:Nat} (hb:1<=b/\b<=2):CmR (cmFlip b):=r_flip hb
theorem Mv.start (hI:L.Inv) (hf:L.kvs.length<=32) (b:Nat):L.Mv b (fun p=>p) L:=⟨(mvB_id (fun _ _ _=>rfl)).symm,hI,hf⟩
theorem Mv.flip {M:Led} {b:Nat} {g:Nat×Nat->Nat×Nat} (h:L.Mv b g M) (hs:L.sideN b≠0) (hb:1<=b/\b<=2):L.Mv b (fun p=>flipXY (L.sideN b) (g p)) (M.stepL 32 (cmFlip b)):=by
 have hM:M.sideN b=L.sideN b:=by rw [h.eq];rfl
 have e:=flip_step h.inv hb.1 h.few
 rw [hM,if_neg hs] at e
 have e2:M.stepL 32 (cmFlip b)=L.mvB b (fun p=>flipXY (L.sideN b) (g p)):=by rw [e,h.eq,mvB_mvB]
 exact ⟨e2,inv_step h.inv (CmR.okk (cmFlip_r hb)) 32,by rw [e2,mvB_len,<- mvB_len L b g,<- h.eq];exact h.few⟩
theorem same_turn (hI:L.Inv) (hf:L.kvs.length<=32) {b n:Nat} (hb:1<=b/\b<=2) (hn:1<=n/\n<=3):(L.stepL 32 (cmTurn b n)).stepL 32 (cmTurn b (4 - n))=L:=by
 by_cases hs:L.sideN b=0
 ·have e1:=(turn_step hI (n:=n) hb.1 hf).2
  rw [if_pos hs] at e1
  have e2:=(turn_step hI (n:=4 - n) hb.1 hf).2
  rw [if_pos hs] at e2
  rw [e1,e2]
 ·have:=(((Mv.start hI hf b).turn hs hb hn).turn hs hb (n:=4 - n) (by omega)).eq
  rw [this]
  exact mvB_id (fun t ht hp=>turn_back (p:=(t.2.x,t.2.y)) (in_range hI hb.1 t ht hp).1 (in_range hI hb.1 t ht hp).2 (by omega))
theorem same_twice (hI:L.Inv) (hf:L.kvs.length<=32) {b n:Nat} (hb:1<=b/\b<=2) (hn:1<=n/\n<=3):(((L.stepL 32 (cmFlip b)).stepL 32 (cmTurn b n)).stepL 32 (cmFlip b)).stepL 32 (cmTurn b n)=L:=by
 by_cases hs:L.sideN b=0
 ·have e1:=(turn_step hI (n:=n) hb.1 hf).2
  rw [if_pos hs] at e1
  have e2:=flip_step hI hb.1 hf
  rw [if_pos hs] at e2
  rw [e2,e1,e2,e1]
 ·have:=(((((Mv.start hI hf b).flip hs hb).turn hs hb hn).flip hs hb).turn hs hb hn).eq
  rw [this]
  exact mvB_id (fun t ht hp=>flip_turn (p:=(t.2.x,t.2.y)) (in_range hI hb.1 t ht hp).1 (in_range hI hb.1 t ht hp).2 (by omega))
theorem same_half (hI:L.Inv) (hf:L.kvs.length<=32) {b:Nat} (hb:1<=b/\b<=2):(((L.stepL 32 (cmFlip b)).stepL 32 (cmTurn b 1)).stepL 32 (cmFlip b)).stepL 32 (cmTurn b 3)=L.stepL 32 (cmTurn b 2):=by
 by_cases hs:L.sideN b=0
 ·have e1:=(turn_step hI (n:=1) hb.1 hf).2
  have e3:=(turn_step hI (n:=3) hb.1 hf).2
  have e4:=(turn_step hI (n:=2) hb.1 hf).2
  rw [if_pos hs] at e1 e3 e4
  have e2:=flip_step hI hb.1 hf
  rw [if_pos hs] at e2
  rw [e2,e1,e2,e3,e4]
 ·have h1:=(((((Mv.start hI hf b).flip hs hb).turn hs hb (n:=1) (by omega)).flip hs hb).turn hs hb (n:=3) (by omega)).eq
  have h2:=((Mv.start hI hf b).turn hs hb (n:=2) (by omega)).eq
  rw [h1,h2]
  exact mvB_congr (fun t ht hp=>turn_half (p:=(t.2.x,t.2.y)) (in_range hI hb.1 t ht hp).1 (in_range hI hb.1 t ht hp).2)
end Led
end
end
section
open Go.RowKit Go.Shelf
def IsBool (e:Ending):Prop:=∃ t:Bool,e=.returned (.bool t)
theorem same_bool (a b:Value) (xs ys:List Int) (w:World) (ha:IntsIn w a xs) (hb:IntsIn w b ys) (hn:xs.length<1000000) (_hm:ys.length<1000000) :
  Calls prog 19 #[a,b] w fun e w'=>IsBool e/\∃ n,w'=w.drewN n:=by
 obtain ⟨oa,ca,rfl,hca⟩:=ha.parts
 obtain ⟨ob,cb,rfl,hcb⟩:=hb.parts
 have HA:=hid hca
 have HB:=hid hcb
 clear hca hcb ha hb
 go_enter func19,ntmps19
 by_cases hne:xs.length=ys.length
 ·have hne':((xs.length:Int) == (ys.length:Int))=true:=beq_iff_eq.2 (by omega)
  go_wp2_with fail
  go_loopw [5] (fun i wr=>∃ k nd:Nat,k<=xs.length/\i=.int .i64 k/\wr=w.drewN nd) (fun i _=>xs.length - (intOf i).toNat)
  case atStart=>exact ⟨0,0,Nat.zero_le _,rfl,rfl⟩
  case round =>
   obtain ⟨k,nd,hk,rfl,rfl⟩:=hrel
   by_cases hlt:k<xs.length
   ·obtain ⟨pa,rfl,_,hpa⟩:=HA.out k hlt
    obtain ⟨pb,rfl,_,hpb⟩:=HB.out k (by omega)
    generalize xs[k]=z at *
    have hk2:k<ys.length:=by omega
    generalize ys[k]=z' at *
    have hlt':(k:Int)<(xs.length:Int):=by omega
    have hlt2:(k:Int)<(ys.length:Int):=by omega
    cases hz:(z == z') with
    | true =>
     go_wp2_with fail
     go_quiet (fail)
     go_wp2
     go_roundw
     case rel=>exact ⟨k+1,_,by omega,by go_num,rfl⟩
     case measure=>simp [intOf];omega
    | false =>
     go_wp2_with fail
     go_quiet (fail)
     go_wp2
     go_ret
     exact ⟨⟨false,rfl⟩,_,World.drewN_drewN _ _ _⟩
   ·have hlt':¬ (k:Int)<(xs.length:Int):=by omega
    go_wp2
    go_ret
    exact ⟨⟨true,rfl⟩,_,rfl⟩
 ·have hne':((xs.length:Int) == (ys.length:Int))=false:=beq_eq_false_iff_ne.2 (by omega)
  go_wp2
  go_ret
  exact ⟨⟨false,rfl⟩,0,rfl⟩
theorem lg3_nar:lg3.Nar:=fun x hx=>by simp [lg3] at hx;rw [hx];decide
structure IntsK (w:World) (v:Value) (zs:List Int) (l g:Nat):Prop where
 ints:IntsIn w v zs
 off:∀ a n c,v=.slice (some a) n c->a.block≠l/\a.block≠g
theorem IntsK.keepsL {w w':World} {v:Value} {zs:List Int} {l g:Nat} (h:IntsK w v zs l g) (hk:Keeps (fun k=>k=l\/k=g) w w'):IntsK w' v zs l g:=by
 refine ⟨?_,h.off⟩
 rcases h.ints with ⟨a,cap,rfl,ha,hc⟩ | h0
 ·have ho:=h.off _ _ _ rfl
  simp only at ho
  refine .inl ⟨a,cap,rfl,Nat.lt_of_lt_of_le ha hk.size,fun j hj => ?_⟩
  rw [World.cell?_of_block (w:=w) (hk.block a ha (fun hs=>hs.elim ho.1 ho.2))]
  exact hc j hj
 ·exact .inr h0
theorem IntsK.drewN {w:World} {v:Value} {zs:List Int} {l g:Nat} (h:IntsK w v zs l g) (n:Nat):IntsK (w.drewN n) v zs l g:=⟨h.ints.drewN n,h.off⟩
theorem IntsK.below {w w':World} {v:Value} {zs:List Int} {l g:Nat} (h:IntsK w v zs l g) (hb:Below w.heap.size w w'):IntsK w' v zs l g:=⟨h.ints.below' hb,h.off⟩
theorem IntsK.new {w w':World} {v:Value} {zs:List Int} {sb l g gc:Nat} {p:Int} {L:Led} (h:IntsIn w' v zs) (hn:New w.heap.size v) (hK:KH w sb l g gc p L):IntsK w' v zs l g :=
 ⟨h,fun a n c e=>by have:=hn a n c e;have:=hK.lt;omega⟩
theorem kshown_any (sb l g gc:Nat) (p:Int) (L:Led) (w:World) (hS:KH w sb l g gc p L) :
  Calls prog 20 #[.pointer (some ⟨sb,0,none⟩)] w fun e w'=>∃ vv,e=.returned vv/\IntsK w' vv L.shownL l g/\KH w' sb l g gc p L/\Keeps (fun k=>k=l\/k=g) w w'/\L.shownL.length<1000000:=by
 have hS0:=hS
 obtain ⟨img,t,hK,hH⟩:=hS
 refine (shown_any sb l ⟨g,gc,img,t⟩ p L w hK).mono ?_
 rintro e w' ⟨vv,rfl,h1,h2,h3,h4,h5⟩
 exact ⟨vv,rfl,.new h1 h5 hS0,⟨img,t,h2,hH⟩,h3.mono (fun _ _ hx=>.inl hx),h4⟩
theorem kturn_any {sb l g gc:Nat} {p:Int} {L:Led} {b n:Nat} (hb:1<=b/\b<=2) (hn:1<=n/\n<=3) (w:World) (hS:KH w sb l g gc p L) :
  Calls prog 15 #[.pointer (some ⟨sb,0,none⟩),.agg #[.int .i64 10,.int .i64 0,.int .i64 0,.int .i64 0,.int .i64 0,.int .i64 b,.int .i64 0,.int .i64 0,.int .i64 n]] w fun e w'=>∃ vv,e=.returned (.tuple #[vv,.int .i64 (if L.sideN b=0 then 9 else 0)])/\KH w' sb l g gc p (L.stepL 32 (Led.cmTurn b n))/\Keeps (fun k=>k=l\/k=g) w w':=by
 have:=kdone_any sb l g gc p L (Led.cmTurn b n) (Led.cmTurn_r hb hn).enc w hS
 rw [(Led.turn_step hS.inv hb.1 hS.few).1] at this
 refine this.mono ?_
 rintro e w' ⟨vv,rfl,_,h,h2,_⟩
 exact ⟨vv,rfl,h,h2⟩
theorem kflip_any {sb l g gc:Nat} {p:Int} {L:Led} {b:Nat} (hb:1<=b/\b<=2) (w:World) (hS:KH w sb l g gc p L) :
  Calls prog 15 #[.pointer (some ⟨sb,0,none⟩),.agg #[.int .i64 11,.int .i64 0,.int .i64 0,.int .i64 0,.int .i64 0,.int .i64 b,.int .i64 0,.int .i64 0,.int .i64 0]] w fun e w'=>∃ vv x,e=.returned (.tuple #[vv,.int .i64 x])/\KH w' sb l g gc p (L.stepL 32 (Led.cmFlip b))/\Keeps (fun k=>k=l\/k=g) w w':=by
 refine (kdone_any sb l g gc p L (Led.cmFlip b) (Led.cmFlip_r hb).enc w hS).mono ?_
 rintro e w' ⟨vv,rfl,_,h,h2,_⟩
 exact ⟨vv,_,rfl,h,h2⟩
theorem turn_side {L:Led} (hI:L.Inv) (hf:L.kvs.length<=32) {b n:Nat} (hb:1<=b):(L.stepL 32 (Led.cmTurn b n)).sideN b=L.sideN b:=by
 rw [(Led.turn_step hI hb hf).2]
 split
 ·rfl
 ·exact Led.mvB_side _ _ _ _
structure AP (w:World) (sb l g gc:Nat) (p:Int) (L:Led) (wr:World):Prop where
 st:KH wr sb l g gc p L
 bel:Below w.heap.size w wr
 far:w.heap.size<=sb/\w.heap.size<=l/\w.heap.size<=g
section
variable {w wr w':World} {sb l g gc:Nat} {p:Int} {L L':Led}
theorem AP.below (h:AP w sb l g gc p L wr) (hb:Below wr.heap.size wr w'):AP w sb l g gc p L w':=⟨h.st.below hb,h.bel.trans (hb.mono h.bel.size),h.far⟩
theorem AP.drewN (h:AP w sb l g gc p L wr) (n:Nat):AP w sb l g gc p L (wr.drewN n):=h.below (below_drewN (Below.refl _ wr) n)
theorem AP.done (h:AP w sb l g gc p L wr) (hs:KH w' sb l g gc p L') (hk:Keeps (fun k=>k=l\/k=g) wr w'):AP w sb l g gc p L' w':=⟨hs,below_keeps h.bel hk (fun _ e=>e.elim (fun e=>e ▸ h.far.2.1) (fun e=>e ▸ h.far.2.2)),h.far⟩
theorem PS.ap {k:Nat} {L0:Led} (h:PS w sb l g gc k L0 p L wr):AP w sb l g gc p L wr:=⟨h.st,h.bel,h.far⟩
structure TS (w:World) (sb l g gc:Nat) (p:Int) (L:Led) (vs:List (Value×List Int)) (wr:World):Prop where
 ap:AP w sb l g gc p L wr
 ints:∀ x∈vs,IntsK wr x.1 x.2 l g
variable {vs:List (Value×List Int)}
theorem TS.done (h:TS w sb l g gc p L vs wr) (hs:KH w' sb l g gc p L') (hk:Keeps (fun k=>k=l\/k=g) wr w'):TS w sb l g gc p L' vs w' :=
 ⟨h.ap.done hs hk,fun x hx=>(h.ints x hx).keepsL hk⟩
theorem TS.add (h:TS w sb l g gc p L vs wr) {v:Value} {zs:List Int} (hi:IntsK wr v zs l g):TS w sb l g gc p L ((v,zs)::vs) wr :=
 ⟨h.ap,fun x hx=>by
  rcases List.mem_cons.1 hx with rfl | hx
  ·exact hi
  ·exact h.ints x hx⟩
theorem TS.drewN (h:TS w sb l g gc p L vs wr) (n:Nat):TS w sb l g gc p L vs (wr.drewN n):=⟨h.ap.drewN n,fun x hx=>(h.ints x hx).drewN n⟩
end
def roundsL (L:Led) (b n:Nat):Nat->Led
 | 0=>L
 | k+1=>((roundsL L b n k).stepL 32 (Led.cmFlip b)).stepL 32 (Led.cmTurn b n)
theorem turnedK_any (v:Value) (n:Nat) (R:Nat->Nat->Int) (z1 z2:Int) (h1:I64 z1) (h2:I64 z2) (w:World) (hR:RawsIn w v n R) :
  Calls prog 7 #[v,.int .i64 z1,.int .i64 z2] w fun e w'=>e=.returned (.bool true)/\Below w.heap.size w w':=by
 have HSt:=hid (kstore_any w)
 have HR:=hid hR
 have HPk:=hid (pick_any z1 h1 2 (by omega) (by omega))
 have HPk2:=hid (pick_any z2 h2 3 (by omega) (by omega))
 obtain ⟨oa,cap,rfl,hn,hel⟩:=hR
 clear hel
 obtain ⟨h11,h12⟩:=h1
 obtain ⟨h21,h22⟩:=h2
 go_enter func7,ntmps7
 go_wp2_with fail
 refine HSt.out.mono ?_
 clear HSt
 rintro e w1 ⟨sb,l,g,rfl,hS1,hsb,hl,hg,hb1⟩
 have HP:=hid (plays_any _ n R w HR.out sb l g 32768 lg3 w1 ⟨hS1,hb1,⟨hsb,hl,hg⟩,Reach.refl _,by omega,by decide,lg3_nar⟩)
 clear HR hS1 hsb hl hg hb1
 go_wp2_with fail
 refine HP.out.mono ?_
 clear HP
 rintro e w2 ⟨rfl,p,L,hPS⟩
 have HI:=hid (And.intro hPS.st.inv hPS.st.few)
 have HT:=hid (show TS w sb l g 32768 p L [] w2 from ⟨hPS.ap,fun x hx=>by cases hx⟩)
 clear hPS hn
 go_wp2_with fail
 refine (HPk.out _).mono ?_
 clear HPk
 rintro e w3 ⟨bq,rfl,hbq,rfl⟩
 go_wp2_with fail
 refine (HPk2.out _).mono ?_
 clear HPk2
 rintro e w4 ⟨nq,rfl,hnq,rfl⟩
 have HS1:=hid (kshown_any sb l g 32768 p L _ HT.out.ap.st)
 go_wp2_with fail
 obtain ⟨B,hB,hB1⟩:∃ B:Nat,(1+(bq:Int))=B/\(1<=B/\B<=2):=⟨1+bq,by omega,by omega⟩
 obtain ⟨N,hN,hN1⟩:∃ N:Nat,(1+(nq:Int))=N/\(1<=N/\N<=3):=⟨1+nq,by omega,by omega⟩
 rw [hB,hN]
 clear hB hN hbq hnq
 have hB2:(B:Int)<=2:=by omega
 have hN2:(N:Int)<=3:=by omega
 have hN3:1<=(N:Int):=by omega
 refine HS1.out.mono ?_
 clear HS1
 rintro e w5 ⟨v1,rfl,hi5,hS5,hk5,hl5⟩
 have HL:=hid hl5
 have HT5:=hid ((HT.out.done hS5 hk5).add hi5)
 clear HT hi5 hS5 hk5 hl5
 have HTu:=hid (kturn_any hB1 hN1 w5 HT5.out.ap.st)
 go_wp2_with fail
 refine HTu.out.mono ?_
 clear HTu
 rintro e w6 ⟨x6,rfl,hS6,hk6⟩
 have HT6:=hid (HT5.out.done hS6 hk6)
 clear HT5 hS6 hk6
 generalize her:(if L.sideN B=0 then (9:Int) else 0)=er at *
 have Her:=hid her
 clear her
 have HS2:=hid (kshown_any sb l g 32768 p _ w6 HT6.out.ap.st)
 go_wp2_with fail
 refine HS2.out.mono ?_
 clear HS2
 rintro e w7 ⟨v2,rfl,hi7,hS7,hk7,hl7⟩
 have HL2:=hid hl7
 have HT7:=hid ((HT6.out.done hS7 hk7).add hi7)
 clear HT6 hi7 hS7 hk7 hl7
 obtain ⟨N',hN',hN4⟩:∃ N':Nat,N'=4 - N/\(1<=N'/\N'<=3):=⟨4 - N,rfl,by omega⟩
 have HTu:=hid (kturn_any hB1 hN4 w7 HT7.out.ap.st)
 have eN':(N':Int)=4 - (N:Int):=by omega
 rw [eN'] at HTu
 rw [turn_side HI.out.1 HI.out.2 hB1.1,hN',Led.same_turn HI.out.1 HI.out.2 hB1 hN1,Her.out] at HTu
 clear eN' hN' hN4 Her
 go_wp2_with fail
 refine HTu.out.mono ?_
 clear HTu
 rintro e w8 ⟨x8,rfl,hS8,hk8⟩
 have HT8:=hid (HT7.out.done hS8 hk8)
 clear HT7 hS8 hk8
 have HS3:=hid (kshown_any sb l g 32768 p _ w8 HT8.out.ap.st)
 go_wp2_with fail
 refine HS3.out.mono ?_
 clear HS3
 rintro e w9 ⟨v3,rfl,hi9,hS9,hk9,hl9⟩
 have HT9:=hid ((HT8.out.done hS9 hk9).add hi9)
 clear HT8 hi9 hS9 hk9 hl9
 go_wp2_with fail
 go_loopw [18] (fun i wr=>∃ k:Nat,k<=2/\i=.int .i64 k/\TS w sb l g 32768 p (roundsL L B N k) [(v3,L.shownL),(v2,(L.stepL 32 (Led.cmTurn B N)).shownL),(v1,L.shownL)] wr) (fun i _=>2 - (intOf i).toNat)
 case atStart=>exact ⟨0,by omega,rfl,HT9.out⟩
 case round =>
  clear HT9
  obtain ⟨k,hk2,rfl,hT⟩:=hrel
  by_cases hk:k<2
  ·have hki:(k:Int)<2:=by omega
   have HFl:=hid (kflip_any hB1 _ hT.ap.st)
   have HX:=hid hT
   clear hT
   go_wp2_with fail
   refine HFl.out.mono ?_
   clear HFl
   rintro e wa ⟨xa,ya,rfl,hSa,hka⟩
   have HXa:=hid (HX.out.done hSa hka)
   clear HX hSa hka
   have HTa:=hid (kturn_any hB1 hN1 wa HXa.out.ap.st)
   generalize (if ((roundsL L B N k).stepL 32 (Led.cmFlip B)).sideN B=0 then (9:Int) else 0)=eq at *
   go_wp2_with fail
   refine HTa.out.mono ?_
   clear HTa
   rintro e wb ⟨xb,rfl,hSb,hkb⟩
   have HXb:=hid (HXa.out.done hSb hkb)
   clear HXa hSb hkb
   go_wp2_with fail
   exact ⟨⟨k+1,by omega,by go_num,HXb.out⟩,by simp [intOf];omega⟩
  ·have hki:¬ (k:Int)<2:=by omega
   have e2:k=2:=by omega
   subst e2
   have eR:roundsL L B N 2=L:=Led.same_twice HI.out.1 HI.out.2 hB1 hN1
   rw [eR] at hT
   have HS4:=hid (kshown_any sb l g 32768 p _ _ hT.ap.st)
   have HX:=hid hT
   clear hT eR
   go_wp2_with fail
   refine HS4.out.mono ?_
   clear HS4
   rintro e wa ⟨v4,rfl,hia,hSa,hka,hla⟩
   have HXa:=hid ((HX.out.done hSa hka).add hia)
   clear HX hSa hka hia hla
   have HFl:=hid (kflip_any hB1 _ HXa.out.ap.st)
   go_wp2_with fail
   refine HFl.out.mono ?_
   clear HFl
   rintro e wb ⟨xb,yb,rfl,hSb,hkb⟩
   have HXb:=hid (HXa.out.done hSb hkb)
   clear HXa hSb hkb
   have HTb:=hid (kturn_any (n:=1) hB1 (by omega) wb HXb.out.ap.st)
   generalize (if (L.stepL 32 (Led.cmFlip B)).sideN B=0 then (9:Int) else 0)=eq1 at *
   go_wp2_with fail
   refine HTb.out.mono ?_
   clear HTb
   rintro e wc ⟨xc,rfl,hSc,hkc⟩
   have HXc:=hid (HXb.out.done hSc hkc)
   clear HXb hSc hkc
   have HFl:=hid (kflip_any hB1 _ HXc.out.ap.st)
   go_wp2_with fail
   refine HFl.out.mono ?_
   clear HFl
   rintro e wd ⟨xd,yd,rfl,hSd,hkd⟩
   have HXd:=hid (HXc.out.done hSd hkd)
   clear HXc hSd hkd
   have HTd:=hid (kturn_any (n:=3) hB1 (by omega) wd HXd.out.ap.st)
   rw [Led.same_half HI.out.1 HI.out.2 hB1] at HTd
   generalize (if (((L.stepL 32 (Led.cmFlip B)).stepL 32 (Led.cmTurn B 1)).stepL 32 (Led.cmFlip B)).sideN B=0 then (9:Int) else 0)=eq2 at *
   go_wp2_with fail
   refine HTd.out.mono ?_
   clear HTd
   rintro e wf ⟨xf,rfl,hSf,hkf⟩
   have HXf:=hid (HXd.out.done hSf hkf)
   clear HXd hSf hkf
   have HS5:=hid (kshown_any sb l g 32768 p _ _ HXf.out.ap.st)
   go_wp2_with fail
   refine HS5.out.mono ?_
   clear HS5
   rintro e wg ⟨v5,rfl,hig,hSg,hkg,hlg⟩
   have HL5:=hid hlg
   have HXg:=hid ((HXf.out.done hSg hkg).add hig)
   clear HXf hSg hkg hig hlg
   have Hs1:=hid (same_any v1 v3 L.shownL wg (HXg.out.ints (v1,L.shownL) (by simp)).ints (HXg.out.ints (v3,L.shownL) (by simp)).ints HL.out)
   go_wp2_with fail
   refine Hs1.out.mono ?_
   clear Hs1
   rintro e wh ⟨rfl,nh,rfl⟩
   have HXh:=hid (HXg.out.drewN nh)
   clear HXg
   generalize wg.drewN nh=wh at *
   have Hs2:=hid (same_any v1 v4 L.shownL wh (HXh.out.ints (v1,L.shownL) (by simp)).ints (HXh.out.ints (v4,L.shownL) (by simp)).ints HL.out)
   go_wp2_with fail
   refine Hs2.out.mono ?_
   clear Hs2
   rintro e wi ⟨rfl,ni,rfl⟩
   have HXi:=hid (HXh.out.drewN ni)
   clear HXh
   generalize wh.drewN ni=wi at *
   by_cases hN2':N=2
   ·subst hN2'
    have Hs3:=hid (same_any v5 v2 (L.stepL 32 (Led.cmTurn B 2)).shownL wi (HXi.out.ints (v5,(L.stepL 32 (Led.cmTurn B 2)).shownL) (by simp)).ints (HXi.out.ints (v2,(L.stepL 32 (Led.cmTurn B 2)).shownL) (by simp)).ints HL2.out)
    have HBl:=hid (fun n=>(HXi.out.drewN n).ap.bel)
    go_wp2_with fail
    refine Hs3.out.mono ?_
    clear Hs3
    rintro e wj ⟨rfl,nj,rfl⟩
    go_wp2_with fail
    go_ret
    exact ⟨rfl,HBl.out _⟩
   ·have hNn:((N:Int) != 2)=true:=by rw [bne_iff_ne];omega
    have Hs3:=hid (same_bool v5 v2 (L.stepL 32 (Led.cmTurn B 2)).shownL (L.stepL 32 (Led.cmTurn B N)).shownL wi (HXi.out.ints (v5,(L.stepL 32 (Led.cmTurn B 2)).shownL) (by simp)).ints (HXi.out.ints (v2,(L.stepL 32 (Led.cmTurn B N)).shownL) (by simp)).ints HL5.out HL2.out)
    have HBl:=hid (fun n=>(HXi.out.drewN n).ap.bel)
    go_wp2_with fail
    refine Hs3.out.mono ?_
    clear Hs3
    rintro e wj ⟨⟨t,rfl⟩,nj,rfl⟩
    cases t
    ·go_wp2_with fail
     go_ret
     exact ⟨rfl,HBl.out _⟩
    ·go_wp2_with fail
     go_ret
     exact ⟨rfl,HBl.out _⟩
end
end Go.Proofs.YtalncjhldkcmaaaGreat
