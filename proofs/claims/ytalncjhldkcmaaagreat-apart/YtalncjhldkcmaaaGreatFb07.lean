import Derived.Test.YtalncjhldkcmaaaGreatFb01
import Derived.Test.YtalncjhldkcmaaaGreatFb00
import Derived.OrdersHeld
import Derived.OwnWalk
import Derived.Test.YtalncjhldkcmaaaGreatFb06
import Derived.Test.YtalncjhldkcmaaaGreatFb02
import Derived.Deep.RegionHeld3
namespace Go.Proofs.YtalncjhldkcmaaaGreat
open _root_.Go.Proofs.Tryz
set_option maxHeartbeats 16000000
set_option maxRecDepth 8000
section
open Go Go.RowKit
section
variable {P:Program} {ops:Array Oper} {md:Region.Mode} {C:World->Prop} {n y:Nat}
def noDefer (ops:Array Oper):Bool:=ops.all fun o=>match o.op with
 | .defer _=>false
 | _=>true
theorem noDefer_spec (h:noDefer ops=true) {i:Nat} {o:Oper} (ho:ops[i]? = some o):∀ c,o.op≠.defer c:=by
 intro c hc
 have:=Array.all_eq_true.1 h i (Array.getElem?_eq_some_iff.1 ho).1
 rw [(Array.getElem?_eq_some_iff.1 ho).2,hc] at this
 simp at this
theorem wpIn_of_quiet {o:Oper} {a:Act} {K:Act->Prop} {K':Act->World->Prop} {Q':Exit->Act->World->Prop} {w:World} (hd:∀ c,o.op≠.defer c) (hw:C w) (h:∀ a w',C w'->K a->K' a w') (hh:o.quiet P a C K):o.wpIn (Fence.wide.inRound y) 0 P a w K' Q':=by
 obtain ⟨v,h1,h2⟩:=hh
 have h3:=h1 w hw
 unfold Oper.quietAt at h3
 refine ⟨fun _ _=>trivial,?_⟩
 rw [show (Fence.wide.inRound y).round=some y from rfl,Oper.semAt_some y a.eval o hd]
 generalize (execOp a.eval o).run P w=r at *
 cases r with
 | ok n w' =>
  cases n <;> simp only [Oper.quietUpon] at h3
  case value u =>
   obtain ⟨e1,e2⟩:=h3
   rw [e1,e2]
   exact h _ _ hw h2
  case skip =>
   obtain ⟨e1,e2⟩:=h3
   rw [e1]
   subst e2
   exact h _ _ hw h2
  case enter f args =>
   obtain ⟨e1,hc⟩:=h3
   rw [e1]
   exact ⟨fun h=>by simp [Fence.wide,Fence.inRound] at h,CallsIn.inRound y (callsIn_wide.2 (hc.mono fun e w'' ⟨he,hw''⟩=>by subst he;exact h _ _ hw'' h2))⟩
 | halt x w'=>simp only [Oper.quietUpon] at h3
theorem wpOpIn_of_qOp {i:Nat} {a:Act} {K:Act->Prop} {K':Act->World->Prop} {Q':Exit->Act->World->Prop} {w:World} (hd:noDefer ops=true) (hC:C w) (h:∀ a w',C w'->K a->K' a w') (hh:qOp P ops C i K a):wpOpIn (Fence.wide.inRound y) 0 P ops Q' i K' a w:=by
 unfold qOp at hh
 unfold wpOpIn
 split
 ·rename_i ho;simp only [ho] at hh;exact h _ _ hC hh
 ·rename_i o ho
  simp only [ho] at hh
  split
  ·rename_i hw;simp only [hw,if_true] at hh;exact wpIn_of_quiet (noDefer_spec hd ho) hC h hh
  ·rename_i hw;simp only [hw] at hh;exact ⟨fun _ _=>trivial,h _ _ hC hh⟩
theorem wpAnyIn_of_T {Q:Array Bool->Act->Prop} {Q':Exit->Act->World->Prop} {m:Nat} (hd:noDefer ops=true) (hQ:∀ listed a w,C w->Q listed a->wpAnyIn (Fence.wide.inRound y) 0 P md ops Q' m listed a w):∀ (fuel:Nat) (listed:Array Bool) (a:Act) (w:World),C w ->
  anyT P md ops C n Q fuel listed a->wpAnyIn (Fence.wide.inRound y) 0 P md ops Q' (m+fuel) listed a w
 | 0,_,_,_,hw,h=>hQ _ _ _ hw h.2
 | fuel+1,_,_,_,hw,h=>⟨fun h0=>absurd h0 h.1,fun i hi=>wpOpIn_of_qOp hd hw (fun a' w' hw'=>wpAnyIn_of_T hd hQ fuel _ a' w' hw') (h.2 i hi)⟩
theorem anyIn_of_list {Q:Exit->Act->World->Prop}:∀ (tl:List Oper) (k:Nat) (listed:Array Bool) (a:Act) (w:World),chainT md ops tl.length k listed=true->(∀ j,j<tl.length->tl[j]? = ops[k+j]?)->wpListIn (Fence.wide.inRound y) 0 P ops Q tl a w->wpAnyIn (Fence.wide.inRound y) 0 P md ops Q tl.length listed a w
 | [],_,_,_,_,hB,_,h=>⟨by simpa [chainT] using hB,h⟩
 | o::tl,k,listed,a,w,hB,hl,h=>by
  simp only [List.length_cons,chainT,Bool.and_eq_true,beq_iff_eq] at hB
  have h0:ops[k]? = some o:=by simpa using (hl 0 (by simp)).symm
  refine wpAnyIn_all hB.1 (by simp) ?_
  intro i hi
  rw [List.mem_singleton] at hi
  subst hi
  have next:∀ a w,wpListIn (Fence.wide.inRound y) 0 P ops Q tl a w->wpAnyIn (Fence.wide.inRound y) 0 P md ops Q tl.length (listed.setIfInBounds i true) a w:=fun a w h =>
   anyIn_of_list tl (i+1) _ a w hB.2 (fun j hj=>by have:=hl (j+1) (by simpa using hj);simpa [Nat.add_assoc,Nat.add_comm 1 j] using this) h
  unfold wpOpIn
  simp only [h0]
  unfold wpListIn at h
  split
  ·rename_i hw;simp only [hw,if_true] at h;exact Oper.wpIn_mono next h
  ·rename_i hw;simp only [hw] at h;exact ⟨h.1,next _ _ h.2⟩
theorem wpIn_region_then (k:Nat) {id:Nat} {Q:Exit->Act->World->Prop} {a:Act} {w:World} {l:List Oper} (hm:P.follows .mixedOrders=true) (hC:C { w with drawn:=w.drawn+1 }) (hk:k<=l.length) (hd:noDefer l.toArray=true) (hs:Region.noSelect l.toArray=true) (hT:tailsB .any l.toArray k=true)
  (hB:lexT .any l.toArray k k 0 (Array.replicate l.length false)=true) (hCh:chainT .any l.toArray (l.length - k) k (lstT k 0 (Array.replicate l.length false))=true)
  (h:wpQuiet P l.toArray C (fun a'=>∀ w',C w'->wpListIn (Fence.wide.inRound y) 0 P l.toArray Q (l.drop k) a' w') (l.take k) a) :
  (Code.region id l.toArray true).wpIn (Fence.wide.inRound y) 0 P Q a w:=by
 refine wpIn_region_any hm ?_
 have e1:(l.take k).length=k:=by rw [List.length_take];omega
 have e2:(l.drop k).length=l.length - k:=by rw [List.length_drop]
 have h1:=anyT_lex (P:=P) (md:=.any) (C:=C) (n:=k) (ops:=l.toArray) (Q:=fun listed a'=>∀ w',C w'->wpAnyIn (Fence.wide.inRound y) 0 P .any l.toArray Q (l.length - k) listed a' w') (tails_of hT) hs (l.take k) 0 (Array.replicate l.length false) a
  (by intro j o _ hj;exfalso;simp [Array.getElem?_replicate] at hj;split at hj <;> simp at hj)
  (fun j hj=>by rw [e1] at hj;simp [hj]) (by rw [e1];exact hB)
  (wpQuiet_mono (fun a' h' w' hw'=>by
   have:=anyIn_of_list (md:=.any) (ops:=l.toArray) (Q:=Q) (l.drop k) k (lstT k 0 (Array.replicate l.length false)) a' w' (by rw [e2];exact hCh) (fun j hj=>by simp) (h' w' hw')
   rw [e1]
   rwa [e2] at this) _ _ h)
 rw [e1] at h1
 have h2:=wpAnyIn_of_T (y:=y) (Q':=Q) (m:=l.length - k) hd (fun listed a w hw hq=>hq w hw) k _ a { w with drawn:=w.drawn+1 } hC h1
 have e:l.length - k+k=l.toArray.size:=by simp;omega
 rw [e] at h2
 simpa using h2
end
end
section
open Go.RowKit
structure Cm where
 k:Nat
 t:Nat
 o:Nat
 d:Nat
 v:Nat
 b:Nat
 x:Nat
 y:Nat
 n:Nat
def Cm.ints (m:Cm):Nat->Int
 | 0=>m.k
 | 1=>m.t
 | 2=>m.o
 | 3=>m.d
 | 4=>m.v
 | 5=>m.b
 | 6=>m.x
 | 7=>m.y
 | 8=>m.n
 | _=>0
def Cm.of (c:Nat->Int):Cm:=⟨(c 0).toNat,(c 1).toNat,(c 2).toNat,(c 3).toNat,(c 4).toNat,(c 5).toNat,(c 6).toNat,(c 7).toNat,(c 8).toNat⟩
def Cm.val (m:Cm):Value:=.agg #[.int .i64 m.k,.int .i64 m.t,.int .i64 m.o,.int .i64 m.d,.int .i64 m.v,.int .i64 m.b,.int .i64 m.x,.int .i64 m.y,.int .i64 m.n]
structure Cm.Ok (m:Cm):Prop where
 k:1<=m.k/\m.k<=16
 t:m.t<=999
 o:m.o<=999
 d:m.d<=99
 v:m.v<=1000000
 b:m.b<=9
 x:m.x<=4
 y:m.y<=4
 n:m.n<=5
 t1:m.k=2\/m.k=3\/m.k=4\/m.k=5\/m.k=6\/m.k=7\/m.k=8\/m.k=12\/m.k=15\/m.k=16->1<=m.t
 o1:m.k=4\/m.k=5->1<=m.o
 d1:m.k=2\/m.k=9\/m.k=14->1<=m.d
 v1:m.k=2\/m.k=4\/m.k=5\/m.k=6->1<=m.v
 b1:m.k=1\/m.k=2\/m.k=3\/m.k=4\/m.k=8\/m.k=10\/m.k=11\/m.k=13->1<=m.b
 n1:m.k=1\/m.k=10->1<=m.n
 n3:m.k=10->m.n<=3
structure CmI (c:Nat->Int):Prop where
 k:1<=c 0/\c 0<=16
 t:0<=c 1/\c 1<=999
 o:0<=c 2/\c 2<=999
 d:0<=c 3/\c 3<=99
 v:0<=c 4/\c 4<=1000000
 b:0<=c 5/\c 5<=9
 x:0<=c 6/\c 6<=4
 y:0<=c 7/\c 7<=4
 n:0<=c 8/\c 8<=5
 t1:c 0=2\/c 0=3\/c 0=4\/c 0=5\/c 0=6\/c 0=7\/c 0=8\/c 0=12\/c 0=15\/c 0=16->1<=c 1
 o1:c 0=4\/c 0=5->1<=c 2
 d1:c 0=2\/c 0=9\/c 0=14->1<=c 3
 v1:c 0=2\/c 0=4\/c 0=5\/c 0=6->1<=c 4
 b1:c 0=1\/c 0=2\/c 0=3\/c 0=4\/c 0=8\/c 0=10\/c 0=11\/c 0=13->1<=c 5
 n1:c 0=1\/c 0=10->1<=c 8
 n3:c 0=10->c 8<=3
theorem cmI_of {c:Nat->Int} (h:encB c=true):CmI c:=by
 unfold encB at h
 simp only [Bool.and_eq_true,decide_eq_true_eq,Bool.not_eq_true'] at h
 obtain ⟨⟨⟨h1,h2⟩,h3⟩,h4⟩:=h
 have hz:=moreB_false h4
 have z1:=hz 1 (by omega)
 have z2:=hz 2 (by omega)
 have z3:=hz 3 (by omega)
 have z4:=hz 4 (by omega)
 have z5:=hz 5 (by omega)
 have z6:=hz 6 (by omega)
 have z7:=hz 7 (by omega)
 have z8:=hz 8 (by omega)
 clear hz h4
 rcases kinds h1 h2 with e | e | e | e | e | e | e | e | e | e | e | e | e | e | e | e
 all_goals
  rw [e] at h3 z1 z2 z3 z4 z5 z6 z7 z8
  simp [okAll,flds,okB,lo,hi,off] at h3
  simp [clr,flds,off] at z1 z2 z3 z4 z5 z6 z7 z8
  constructor <;> omega
theorem Cm.of_ok {c:Nat->Int} (h:encB c=true):(Cm.of c).Ok:=by
 obtain ⟨h1,h2,h3,h4,h5,h6,h7,h8,h9,h10,h11,h12,h13,h14,h15,h16⟩:=cmI_of h
 unfold Cm.of
 constructor <;> simp only <;> omega
theorem Cm.of_val {c:Nat->Int} (h:encB c=true):Value.agg #[.int .i64 (c 0),.int .i64 (c 1),.int .i64 (c 2),.int .i64 (c 3),.int .i64 (c 4),.int .i64 (c 5),.int .i64 (c 6),.int .i64 (c 7),.int .i64 (c 8)]=(Cm.of c).val:=by
 obtain ⟨h1,h2,h3,h4,h5,h6,h7,h8,h9,_⟩:=cmI_of h
 unfold Cm.of Cm.val
 simp only
 rw [Int.toNat_of_nonneg (a:=c 0) (by omega),Int.toNat_of_nonneg h2.1,Int.toNat_of_nonneg h3.1,Int.toNat_of_nonneg h4.1,Int.toNat_of_nonneg h5.1,Int.toNat_of_nonneg h6.1,Int.toNat_of_nonneg h7.1,Int.toNat_of_nonneg h8.1,Int.toNat_of_nonneg h9.1]
theorem Cm.has_new (w:World) (t:TypeId) (m:Cm):Has (w.alloc (.cells #[.int .i64 m.k,.int .i64 m.t,.int .i64 m.o,.int .i64 m.d,.int .i64 m.v,.int .i64 m.b,.int .i64 m.x,.int .i64 m.y,.int .i64 m.n] t)) w.heap.size m.ints:=Has.new w t m.ints
theorem Cm.hb (w:World) (m:Cm):Below w.heap.size w (w.alloc (.cells #[.int .i64 m.k,.int .i64 m.t,.int .i64 m.o,.int .i64 m.d,.int .i64 m.v,.int .i64 m.b,.int .i64 m.x,.int .i64 m.y,.int .i64 m.n] 31)):=(Below.refl _ w).alloc nlr _
theorem Cm.hs (w:World) (m:Cm):(w.alloc (.cells #[.int .i64 m.k,.int .i64 m.t,.int .i64 m.o,.int .i64 m.d,.int .i64 m.v,.int .i64 m.b,.int .i64 m.x,.int .i64 m.y,.int .i64 m.n] 31)).heap.size=w.heap.size+1:=by simp
end
section
open Go Go.RowKit
section
variable {P:Program} {ops:Array Oper} {md:Region.Mode} {S:World->Prop} {y:Nat} {Q:Exit->Act->World->Prop}
theorem wpIn_of_plain {o:Oper} {a:Act} {w:World} {K:Act->World->Prop} (hd:∀ c,o.op≠.defer c) (h:o.wp P a w K Q):o.wpIn (Fence.wide.inRound y) 0 P a w K Q:=by
 unfold Oper.wp at h
 refine ⟨fun _ _=>trivial,?_⟩
 rw [show (Fence.wide.inRound y).round=some y from rfl,Oper.semAt_some y a.eval o hd]
 generalize (execOp a.eval o).run P w=r at *
 cases r with
 | ok n w' =>
  cases n <;> simp only [Oper.upon,Oper.uponIn] at h ⊢
  case value=>exact h
  case skip=>exact h
  case defer=>exact h
  case enter f args=>exact ⟨fun h=>by simp [Fence.wide,Fence.inRound] at h,CallsIn.inRound y (callsIn_wide.2 h)⟩
  case row row args=>exact ⟨fun h=>by simp [Fence.wide,Fence.inRound] at h,fun c cs _=>let ⟨v,w',r,s⟩:=h c cs;⟨v,w',r,stepsIn_wide.2 s⟩⟩
 | halt x w'=>cases x <;> simp only [Oper.upon,Oper.uponIn] at h ⊢ <;> exact h
theorem wpOpIn_of_plain {i:Nat} {a:Act} {w:World} {K K':Act->World->Prop} (hd:noDefer ops=true) (hQ:¬ LetsOut Q) (hK:∀ a w,K a w->K' a w) (h:wpOp P ops Q i K a w):wpOpIn (Fence.wide.inRound y) 0 P ops Q i K' a w:=by
 unfold wpOp at h
 unfold wpOpIn
 split
 ·rename_i ho;simp only [ho] at h;exact hK _ _ h
 ·rename_i o ho
  simp only [ho] at h
  split
  ·rename_i hw
   simp only [hw,if_true] at h
   rcases h with h | ⟨_,h⟩
   ·exact Oper.wpIn_mono hK (wpIn_of_plain (noDefer_spec hd ho) h)
   ·exact absurd h hQ
  ·rename_i hw;simp only [hw] at h;exact ⟨fun _ _=>trivial,hK _ _ h⟩
theorem wpAnyIn_of_held (hd:noDefer ops=true) (hQ:¬ LetsOut Q):∀ (fuel:Nat) (listed:Array Bool) (a:Act) (w:World),wpAnyH P md ops Q S fuel listed a w->wpAnyIn (Fence.wide.inRound y) 0 P md ops Q fuel listed a w
 | 0,_,_,_,h=>h
 | fuel+1,_,_,_,h=>⟨h.1,fun i hi=>wpOpIn_of_plain hd hQ (fun a' w' h'=>wpAnyIn_of_held hd hQ fuel _ a' w' h'.2) (h.2 i hi)⟩
theorem wpIn_region_held {id:Nat} {a:Act} {w:World} (n:Nat) (hn:ops.size=n) (hm:P.follows .mixedOrders=true) (hd:noDefer ops=true) (hQ:¬ LetsOut Q)
  (h:wpAnyH P .any ops Q S n (Array.replicate n false) a { w with drawn:=w.drawn+1 }):(Code.region id ops true).wpIn (Fence.wide.inRound y) 0 P Q a w :=
 wpIn_region_any hm (by subst hn;exact wpAnyIn_of_held hd hQ _ _ _ _ h)
theorem wpAnyH_tk (i:Nat) (d:Option Tmp) (v:Value) {oi:Oper} {fuel:Nat} {listed:Array Bool} {a:Act} {w:World} (hi:ops[i]? = some oi) (hd:oi.dst=d)
  (hs:Region.noSelect ops=true) (hf:Region.free md ops listed i=true) (hr:(Region.ready md ops listed).contains i=true)
  (hQ:∀ c a w,Q (.panic c) (a.put d v) w->Q (.panic c) a w) (hy:YieldsIf P ops S oi v a) (hS:S w)
  (h:wpAnyH P md ops Q S fuel (listed.setIfInBounds i true) (a.put d v) w):wpAnyH P md ops Q S (fuel+1) listed a w:=by
 subst hd;exact wpAnyH_take hi hs hf hr hQ hy hS h
theorem wpAnyH_one (i:Nat) {o:Oper} {fuel:Nat} {listed:Array Bool} {a:Act} {w:World} (hr:Region.ready md ops listed=[i]) (ho:ops[i]? = some o) (hg:o.guard=none)
  (h:∀ K:Act->World->Prop,(∀ a' w',S w'->wpAnyH P md ops Q S fuel (listed.setIfInBounds i true) a' w'->K a' w')->o.wp P a w K Q):wpAnyH P md ops Q S (fuel+1) listed a w:=by
 refine wpAnyH_all hr (by simp) fun j hj => ?_
 rw [List.mem_singleton] at hj
 subst hj
 unfold wpOp
 simp only [ho]
 rw [if_pos (by simp [Region.wanted,hg])]
 exact .inl (h _ (fun a' w' h1 h2=>⟨h1,h2⟩))
theorem wpAnyH_two (i j:Nat) {o o':Oper} {fuel:Nat} {listed:Array Bool} {a:Act} {w:World} (hr:Region.ready md ops listed=[i,j]) (ho:ops[i]? = some o) (hg:o.guard=none) (ho':ops[j]? = some o') (hg':o'.guard=none)
  (h:∀ K:Act->World->Prop,(∀ a' w',S w'->wpAnyH P md ops Q S fuel (listed.setIfInBounds i true) a' w'->K a' w')->o.wp P a w K Q)
  (h':∀ K:Act->World->Prop,(∀ a' w',S w'->wpAnyH P md ops Q S fuel (listed.setIfInBounds j true) a' w'->K a' w')->o'.wp P a w K Q):wpAnyH P md ops Q S (fuel+1) listed a w:=by
 refine wpAnyH_all hr (by simp) fun k hk => ?_
 rcases List.mem_cons.1 hk with rfl | hk
 ·unfold wpOp
  simp only [ho]
  rw [if_pos (by simp [Region.wanted,hg])]
  exact .inl (h _ (fun a' w' h1 h2=>⟨h1,h2⟩))
 ·rw [List.mem_singleton] at hk
  subst hk
  unfold wpOp
  simp only [ho']
  rw [if_pos (by simp [Region.wanted,hg'])]
  exact .inl (h' _ (fun a' w' h1 h2=>⟨h1,h2⟩))
theorem wp_append_own (w:World) {o:Oper} {a:Act} {K:Act->World->Prop} (d:Option Tmp) (hd:o.dst=d)
  (s x:Operand) (t:TypeId) (hop:o.op=Op.call { callee:=Callee.builtin Builtin.append,args:=#[s,x],argTypes:=#[t,t] })
  (base:Nat) (e:TypeId) (i:TypeInfo) (z:Value) (size bytes:Nat) (h1:P.underlying t=some (.slice e)) (h2:P.info? e=some i) (h3:i.zero=some z) (h4:i.size=size) (h5:i.bytes=bytes) (h6:z.cells.size=size) (h7:0<size)
  (v:Value) (k:Nat) (xs:List Value) (hs:a.eval s=v) (hown:w.ownsRow base e size v k xs) (ad:Addr) (m c:Nat) (news:List Value) (hx:a.eval x=.slice (some ad) m c) (hn:news.length=m*size)
  (hc:∀ j u,news[j]? = some u->w.cell? (ad.add j)=some u) (h1c:∀ u∈news,u.oneCell'=true) (b1:k+m<=maxLen) (b2:(k+m)*bytes<=140737488355328) (b3:base<=w.heap.size)
  (hK:∀ v' w',w'.ownsRow base e size v' (k+m) (xs++news)->w.grownBy w' v.ownBlock->K (a.put d v') w') :
  o.wp P a w K Q:=by
 subst hd
 obtain ⟨v',w',hrun,r1,r2,r3⟩:=run_append_own (P:=P) w base t o.type e i z size bytes h1 h2 h3 h4 h5 h6 h7 v k xs hown ad m c news hn hc h1c b1 b2 b3
 unfold Oper.wp
 simp [execOp,hop,resolve,invoke,builtin,hs,hx,hrun,Result.andThen]
 exact hK _ _ r1 r2
end
end
section
open Go.RowKit Go.Shelf
open Go.Sort (grow)
theorem bytes_eq {a b:ByteArray} (h:a.toList=b.toList):a=b:=by
 rw [ByteArray.toList_eq,ByteArray.toList_eq] at h
 apply ByteArray.ext
 exact Array.toList_inj.1 h
theorem new_kept {n:Nat} {u w':World} {c:Array Value} {t:TypeId} (hb:Below (u.alloc (.cells c t)).heap.size (u.alloc (.cells c t)) w') (hn:n<=u.heap.size):RecAt w' u.heap.size c t/\n<=u.heap.size:=⟨(RecAt.new u c t).on hb,hn⟩
theorem new_kept_d {n:Nat} {u w':World} {c:Array Value} {t:TypeId} (hb:Below (u.alloc (.cells c t)).drew.heap.size (u.alloc (.cells c t)).drew w') (hn:n<=u.heap.size):RecAt w' u.heap.size c t/\n<=u.heap.size:=⟨(show RecAt (u.alloc (.cells c t)).drew u.heap.size c t from RecAt.new u c t).on hb,hn⟩
theorem readHead_any (s:ByteArray) (hs:s.size=128) (w:World) :
  Calls prog 83 #[.string s] w fun e w'=>((headB (rd8 s.data.toList) (rd8 (s.data.toList.drop 8)) (rd8 (s.data.toList.drop 16))=s.data.toList/\e=.returned (.tuple #[.agg #[.int .u64 (rd8 s.data.toList),.int .u64 (rd8 (s.data.toList.drop 8)),.int .u64 (rd8 (s.data.toList.drop 16))],.bool true])) \/
   (¬ headB (rd8 s.data.toList) (rd8 (s.data.toList.drop 8)) (rd8 (s.data.toList.drop 16))=s.data.toList/\e=.returned (.tuple #[.agg #[.int .u64 0,.int .u64 0,.int .u64 0],.bool false])))/\Below w.heap.size w w':=by
 have hmx:prog.follows .mixedOrders=true:=by kernel_rfl
 have hsI:(8:Int)<=(s.size:Int):=by omega
 have hsI2:(16:Int)<=(s.size:Int):=by omega
 have z1:(s.extract 8 128).size=120:=by simp;omega
 have z2:(s.extract 16 128).size=112:=by simp;omega
 have r1:rd8 (s.extract 8 128).data.toList=rd8 (s.data.toList.drop 8):=by congr 1;simp only [ByteArray.data_extract,Array.toList_extract,List.extract_eq_take_drop];exact List.take_of_length_le (by simp [hs])
 have r2:rd8 (s.extract 16 128).data.toList=rd8 (s.data.toList.drop 16):=by congr 1;simp only [ByteArray.data_extract,Array.toList_extract,List.extract_eq_take_drop];exact List.take_of_length_le (by simp [hs])
 go_enter func83,ntmps83
 go_wp2_with fail
 have hb1:Below w.heap.size w (w.alloc (.cells #[.int .u64 0,.int .u64 0,.int .u64 0] 157)):=bal
 have hN:=World.alloc_heap_new w (.cells #[.int .u64 0,.int .u64 0,.int .u64 0] 157)
 have hsz:(w.alloc (.cells #[.int .u64 0,.int .u64 0,.int .u64 0] 157)).heap.size=w.heap.size+1:=by simp
 generalize w.alloc (.cells #[.int .u64 0,.int .u64 0,.int .u64 0] 157)=w1 at *
 have HN:=hid (fun (x:ByteArray) (hx:8<=x.size) (u:World)=>readNumber_any x hx u)
 have y0:8<=s.size:=by omega
 have y1:8<=(s.extract 8 128).size:=by omega
 have y2:8<=(s.extract 16 128).size:=by omega
 have HN0:=hid (show RecAt w1 w.heap.size #[.int .u64 0,.int .u64 0,.int .u64 0] 157 from hN)
 have HB1:=hid hb1
 have HT:=hid (fun u=>headText_any (rd8 s.data.toList) (rd8 (s.data.toList.drop 8)) (rd8 (s.data.toList.drop 16)) (rd8_lt _) (rd8_lt _) (rd8_lt _) u)
 have r1':rd8 (List.take 120 (List.drop 8 s.data.toList))=rd8 (s.data.toList.drop 8):=by congr 1;exact List.take_of_length_le (by simp [hs])
 have r2':rd8 (List.take 112 (List.drop 16 s.data.toList))=rd8 (s.data.toList.drop 16):=by congr 1;exact List.take_of_length_le (by simp [hs])
 have hX:((⟨(headB (rd8 s.data.toList) (rd8 (s.data.toList.drop 8)) (rd8 (s.data.toList.drop 16))).toArray⟩:ByteArray)=s)↔headB (rd8 s.data.toList) (rd8 (s.data.toList.drop 8)) (rd8 (s.data.toList.drop 16))=s.data.toList:=by
  constructor
  ·intro h;exact congrArg (fun b:ByteArray=>b.data.toList) h
  ·intro h;apply ByteArray.ext;rw [h]
 have HX:=hid hX
 clear hb1 hN hsz
 refine Code.wp_mono (Q:=fun e a' w'=>∃ b,e=.normal/\a'={ tmps:=#[.string s,undef,.pointer (some ⟨w.heap.size,0,none⟩),.bool false,.pointer (some ⟨b,0,none⟩),.string s,.int .u64 (rd8 s.data.toList),.string s,.string (s.extract 8 128),.int .u64 (rd8 (s.data.toList.drop 8)),.string s,.string (s.extract 16 128),.int .u64 (rd8 (s.data.toList.drop 16)),.agg #[.int .u64 (rd8 s.data.toList),.int .u64 (rd8 (s.data.toList.drop 8)),.int .u64 (rd8 (s.data.toList.drop 16))],undef,undef,undef,undef,undef,undef],defers:=[] }/\RecAt w' b #[.int .u64 (rd8 s.data.toList),.int .u64 (rd8 (s.data.toList.drop 8)),.int .u64 (rd8 (s.data.toList.drop 16))] 157/\Below w1.heap.size w1 w') ?imp ?reg
 case reg =>
  go_region_held3 (fun u=>Below w1.heap.size w1 u) (first | assumption | exact (Below.refl _ _).drew | exact Below.alloc (by assumption) (Below.size (by assumption)) _ | exact Below.alloc hB' (Below.size hB') _ | exact ((hB'.setCell (p:=⟨_,0,none⟩) hge _).setCell (p:=⟨_,1,none⟩) hge _).setCell (p:=⟨_,2,none⟩) hge _) (first
   | (go_at_call 132;refine (HN.out _ (by assumption) _).mono ?_;rintro e w' ⟨rfl,hb⟩;(first | (obtain ⟨hz,hge⟩:=new_kept_d (n:=w1.heap.size) hb (by first | exact hB'.size | exact Nat.le_refl _);have z0:=hz.cell 0;have z1:=hz.cell 1;have z2:=hz.cell 2;have y0:=hz.fz 0;have y1:=hz.fz 1;have y2:=hz.fz 2) | (obtain ⟨hz,hge⟩:=new_kept (n:=w1.heap.size) hb (by first | exact hB'.size | exact Nat.le_refl _);have z0:=hz.cell 0;have z1:=hz.cell 1;have z2:=hz.cell 2;have y0:=hz.fz 0;have y1:=hz.fz 1;have y2:=hz.fz 2) | (have hz:=hz.on hb;have z0:=hz.cell 0;have z1:=hz.cell 1;have z2:=hz.cell 2;have y0:=hz.fz 0;have y1:=hz.fz 1;have y2:=hz.fz 2) | skip);have hB':Below w1.heap.size w1 w':=Below.trans (by assumption) (Below.mono hb (Below.size (by assumption)))))
  all_goals
   refine ⟨_,rfl,rfl,?_,by assumption⟩
   first
    | exact RecAt.new _ _ _
    | exact ((hz.set 0 _).set 1 _).set 2 _
 case imp =>
  rintro e a' wc ⟨b,rfl,rfl,hR,hBW⟩
  clear HN y0 y1 y2 z1 z2 r1 r2 r1' r2' hX hsI hsI2
  have hT:=fun u=>HT.out u
  have hl1:=rd8_lt s.data.toList
  generalize hgX:(⟨(headB (rd8 s.data.toList) (rd8 (s.data.toList.drop 8)) (rd8 (s.data.toList.drop 16))).toArray⟩:ByteArray)=X at hT HX
  have c0:wc.cell? ⟨b,0,none⟩=some (.int .u64 (rd8 s.data.toList)):=hR.cell 0
  have c1:wc.cell? ⟨b,1,none⟩=some (.int .u64 (rd8 (s.data.toList.drop 8))):=hR.cell 1
  have c2:wc.cell? ⟨b,2,none⟩=some (.int .u64 (rd8 (s.data.toList.drop 16))):=hR.cell 2
  have hR0:=HN0.out.on hBW
  have HR:=hid hR
  have HR0:=hid hR0
  have HBW:=hid (HB1.out.trans (hBW.mono HB1.out.size))
  clear hR hR0 hBW HN0 HB1 HT hgX hl1
  obtain ⟨T,hT0⟩:∃ T,T=rd8 s.data.toList:=⟨_,rfl⟩
  obtain ⟨N,hN0⟩:∃ N,N=rd8 (s.data.toList.drop 8):=⟨_,rfl⟩
  obtain ⟨S,hS0⟩:∃ S,S=rd8 (s.data.toList.drop 16):=⟨_,rfl⟩
  rw [<- hT0,<- hN0,<- hS0] at HX HR
  rw [<- hT0] at c0
  rw [<- hN0] at c1
  rw [<- hS0] at c2
  simp only [<- hT0,<- hN0,<- hS0] at hT ⊢
  have HE:=hid (And.intro hT0 (And.intro hN0 hS0))
  clear hT0 hN0 hS0
  have hT':=hid (hT wc)
  clear hT
  go_wp2_with (go_at_call 77;refine hT'.out.mono ?_;clear hT';rintro e w5 ⟨rfl,hb5⟩;have HR5:=hid (HR.out.on hb5);have HR05:=hid (HR0.out.on hb5);have HB5:=hid (HBW.out.trans (hb5.mono HBW.out.size));clear hb5 c0 c1 c2;have c0:w5.cell? ⟨b,0,none⟩=some (.int .u64 T):=HR5.out.cell 0;have c1:w5.cell? ⟨b,1,none⟩=some (.int .u64 N):=HR5.out.cell 1;have c2:w5.cell? ⟨b,2,none⟩=some (.int .u64 S):=HR5.out.cell 2;have d0:w5.cell? ⟨w.heap.size,0,none⟩=some (.int .u64 0):=HR05.out.cell 0;have d1:w5.cell? ⟨w.heap.size,1,none⟩=some (.int .u64 0):=HR05.out.cell 1;have d2:w5.cell? ⟨w.heap.size,2,none⟩=some (.int .u64 0):=HR05.out.cell 2;have f0:=HR05.out.fz 0;have f1:=HR05.out.fz 1;have f2:=HR05.out.fz 2)
  ·rename_i hc
   have hF:=((HR05.out.set 0 (.int .u64 0)).set 1 (.int .u64 0)).set 2 (.int .u64 0)
   have e0:=hF.cell 0
   have e1:=hF.cell 1
   have e2:=hF.cell 2
   have hBF:=((HB5.out.setCell (p:=⟨w.heap.size,0,none⟩) nlr (.int .u64 0)).setCell (p:=⟨w.heap.size,1,none⟩) nlr (.int .u64 0)).setCell (p:=⟨w.heap.size,2,none⟩) nlr (.int .u64 0)
   have hq:¬ X=s:=by
    intro e;rw [e] at hc;simp at hc
   refine bodyPost_ret (v:=.tuple #[.agg #[.int .u64 0,.int .u64 0,.int .u64 0],.bool false]) (by simp [results,results83,go_sem,e0,e1,e2]) rfl ⟨.inr ⟨?_,rfl⟩,hBF⟩
   rw [<- HE.out.1,<- HE.out.2.1,<- HE.out.2.2];exact fun h=>hq (HX.out.2 h)
  ·rename_i hc
   have hF:=((HR05.out.set 0 (.int .u64 T)).set 1 (.int .u64 N)).set 2 (.int .u64 S)
   have e0:=hF.cell 0
   have e1:=hF.cell 1
   have e2:=hF.cell 2
   have hBF:=((HB5.out.setCell (p:=⟨w.heap.size,0,none⟩) nlr (.int .u64 T)).setCell (p:=⟨w.heap.size,1,none⟩) nlr (.int .u64 N)).setCell (p:=⟨w.heap.size,2,none⟩) nlr (.int .u64 S)
   have hq:X=s:=by
    rw [Bool.not_eq_false'] at hc;exact bytes_eq (eq_of_beq hc)
   refine bodyPost_ret (v:=.tuple #[.agg #[.int .u64 T,.int .u64 N,.int .u64 S],.bool true]) (by simp [results,results83,go_sem,e0,e1,e2]) rfl ⟨.inl ?_,hBF⟩
   rw [<- HE.out.1,<- HE.out.2.1,<- HE.out.2.2];exact ⟨HX.out.1 hq,rfl⟩
end
end Go.Proofs.YtalncjhldkcmaaaGreat
