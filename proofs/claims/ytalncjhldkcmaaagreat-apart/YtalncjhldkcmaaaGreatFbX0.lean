import Derived.Test.YtalncjhldkcmaaaGreatFb42
import Derived.RangeFuncNested
import Derived.RangeFuncBound
import Derived.RangeFuncCalls
import Derived.RangeFuncLeaves
import Derived.Shelf.Abstract
import Derived.Shelf.RegionOpen
import Derived.WalkKit
import Derived.OwnWalkIn
import Derived.TacticsInMore
import Derived.LoopNIn
import Derived.LoopIn
import Derived.WalkSpells
import Derived.WalkLawsBesides
import Derived.Deep.QuietTactic
import Derived.BigQuiet
import Derived.Laws.BitsLemmas
import Derived.Laws.IdiomStrings
import Derived.Deep.RegionWith
import Derived.Deep.DeepCutAuto
import Derived.Laws.OwnMore
import Derived.BigRegion
import Derived.Deep.CutRange
import Derived.Lib.AppendZeros
import Derived.Deep.Quiet
import Derived.Lib.AppendStr
import Derived.Laws.EntriesVeiled
import Derived.RangeFuncRecord
import Derived.Deep.RegionHeld3
import Derived.OrdersHeld
import Derived.OwnWalk
import Derived.Lib.FrozenHead2
import Derived.Deep.WholeRow
import Derived.Lib.ConvBytes
import Derived.Lib.QuietBelow
import Derived.Laws.AppendOwn
import Derived.Lib.BufferWrite
import Derived.Deep.AppendLies
import Derived.Deep.Slices
import Derived.Carry
import Derived.ProofKit
namespace Go.Proofs.YtalncjhldkcmaaaGreat
open _root_.Go.Proofs.Tryz
set_option maxHeartbeats 16000000
set_option maxRecDepth 8000
section
section
open Go.RowKit
theorem HasF.below {w w':World} {b B:Nat} {fs:List Nat} (h:HasF w b fs) (hb:Below B w w') (hB:b<B):HasF w' b fs :=
 fun i hi=>(hb.cell (by exact hB)).trans (h i hi)
theorem HasF.alloc {w:World} {b:Nat} {fs:List Nat} (h:HasF w b fs) (hb:b<w.heap.size) (o:Obj):HasF (w.alloc o) b fs:=h.below ((Below.refl _ w).alloc nlr o) hb
theorem clr_nil (c:Nat->Int) (j:Nat):upd c 0 0 j=clr c [] j:=by simp [upd,clr]
theorem clr_step (c:Nat->Int) (fs:List Nat) (k:Nat) (h:k<fs.length) (j:Nat):upd (clr c (fs.take k)) (off fs[k]) 0 j=clr c (fs.take (k+1)) j:=by
 have e:(fs.take (k+1)).map off=(fs.take k).map off++[off fs[k]]:=by rw [List.take_succ_eq_append_getElem h,List.map_append];rfl
 unfold upd clr
 rw [e]
 simp only [List.mem_append,List.mem_singleton]
 by_cases h1:j=off fs[k]
 ·simp [h1]
 ·simp [h1]
theorem hasMore_any (c:Nat->Int) (b:Nat) (fs:List Nat) (hfs:∀ f∈fs,f<9) (w:World) (hb:b<w.heap.size) (hn:fs.length<1000) (hc:HasF w b fs) :
  Calls prog 68 #[.agg #[.int .i64 (c 0),.int .i64 (c 1),.int .i64 (c 2),.int .i64 (c 3),.int .i64 (c 4),.int .i64 (c 5),.int .i64 (c 6),.int .i64 (c 7),.int .i64 (c 8)],.slice (some ⟨b,0,none⟩) fs.length fs.length] w fun e w'=>e=.returned (.bool (moreB c fs))/\Below w.heap.size w w':=by
 have HF:=hid hfs
 have hnew:=Has.new w 31 (upd c 0 0)
 have hnew2:=hnew.congr (d:=clr c []) (fun j _=>clr_nil c j)
 clear hfs hnew
 go_enter func68,ntmps68
 go_wp2_with fail
 go_loopw [10] (fun i wr=>∃ k:Nat,k<=fs.length/\i=.int .i64 k/\Has wr w.heap.size (clr c (fs.take k))/\Below w.heap.size w wr)
  (fun i _=>fs.length - (intOf i).toNat)
 case atStart=>exact ⟨0,Nat.zero_le _,rfl,hnew2,bal⟩
 case round =>
  obtain ⟨k,hk,rfl,hcell,hbel⟩:=hrel
  clear hnew2
  by_cases hlt:k<fs.length
  ·have hcx:=(hc.below hbel hb) k hlt
   have hf9:=HF.out (fs[k]) (List.getElem_mem hlt)
   have hstep:=hid (fun j=>clr_step c fs k hlt j)
   generalize fs[k]=f at *
   have hco:=hcell.1 (off f) (off_lt f)
   have hfz:=hcell.2 (off f)
   go_wp2_with (go_at_call 65;refine (of_any f hf9 _ _).mono ?_;rintro e w' ⟨rfl,rfl⟩)
   go_roundw
   case rel=>exact ⟨k+1,by omega,by go_num,(hcell.set (off_lt f) 0).congr (fun j _=>hstep.out j),hbel.setCell nlr _⟩
   case measure=>simp [intOf];omega
  ·have hke:k=fs.length:=by omega
   have hcell':=hcell
   rw [hke,List.take_length] at hcell'
   clear hcell hke
   have c0:=hcell'.1 0 (by omega)
   have c1:=hcell'.1 1 (by omega)
   have c2:=hcell'.1 2 (by omega)
   have c3:=hcell'.1 3 (by omega)
   have c4:=hcell'.1 4 (by omega)
   have c5:=hcell'.1 5 (by omega)
   have c6:=hcell'.1 6 (by omega)
   have c7:=hcell'.1 7 (by omega)
   have c8:=hcell'.1 8 (by omega)
   go_wp2
   all_goals
    go_ret
    refine ⟨ret_bool ?_,hbel⟩
    first
     | exact more_t 1 (by omega) (by assumption)
     | exact more_t 2 (by omega) (by assumption)
     | exact more_t 3 (by omega) (by assumption)
     | exact more_t 4 (by omega) (by assumption)
     | exact more_t 5 (by omega) (by assumption)
     | exact more_t 6 (by omega) (by assumption)
     | exact more_t 7 (by omega) (by assumption)
     | exact more_t 8 (by omega) (by assumption)
     | exact more_f (all9.2 ⟨by assumption,by assumption,by assumption,by assumption,by assumption,by assumption,by assumption,by assumption,by assumption⟩)
end
section
open Go.RowKit
theorem own_step {w:World} {B n:Nat} {e:TypeId} {v:Value} {c:Nat->Int} {fs:List Nat} {k m:Nat} (h:k<fs.length) (hm:m=(c (off fs[k])).toNat)
  (ho:w.ownsRow B e 1 v (n+4) (byteCells (frameL c (fs.take k))++byteCells (be4 m))) (hn:n=(frameL c (fs.take k)).length) :
  w.ownsRow B e 1 v (frameL c (fs.take (k+1))).length (byteCells (frameL c (fs.take (k+1)))):=by
 rw [frameL_step c fs k h,byteCells_append,List.length_append,be4_len,<- hm,<- hn];exact ho
attribute [local go_sem] Tryz.eqlNilF
theorem own_kept {w w':World} {B g:Nat} {l:List UInt8} (hb:Below B w w') (hg:g<B) (hc:∀ j (hj:j<l.length),w.cell? ((⟨g,0,none⟩:Addr).add j)=some (.int .u8 (l[j].toNat:Int))) :
  ∀ j (hj:j<l.length),w'.cell? ((⟨g,0,none⟩:Addr).add j)=some (.int .u8 (l[j].toNat:Int)) :=
 fun j hj=>(hb.cell (by unfold Addr.add;split <;> exact hg)).trans (hc j hj)
theorem own_start (w:World) (B:Nat) (c:Nat->Int) (hB:B<=w.heap.size) (h:((UInt8.ofNat (c 0).toNat).toNat:Int)=c 0) :
  (w.alloc (.cells #[.int .u8 (c 0)] 5)).ownsRow B 5 1 (.slice (some ⟨w.heap.size,0,none⟩) 1 1) (frameL c []).length (byteCells (frameL c [])):=by
 have e:byteCells (frameL c [])=[.int .u8 (c 0)]:=by
  show [Value.int .u8 ((UInt8.ofNat (c 0).toNat).toNat:Int)]=_
  rw [h]
 rw [e]
 exact own_full w B 5 #[.int .u8 (c 0)] hB (by simp [maxLen])
theorem encode_no (c:Nat->Int) (w:World) (h:c 0<1\/16<c 0) :
  Calls prog 40 #[.agg #[.int .i64 (c 0),.int .i64 (c 1),.int .i64 (c 2),.int .i64 (c 3),.int .i64 (c 4),.int .i64 (c 5),.int .i64 (c 6),.int .i64 (c 7),.int .i64 (c 8)]] w fun e w'=>e=.returned (.tuple #[.string ⟨(encS c).toArray⟩,.int .i64 (encE c)])/\Below w.heap.size w w':=by
 have HE:=hid (enc_none c h)
 go_enter func40,ntmps40
 go_wp2_with (go_at_call 64;refine (fieldsOf_no (c 0) h _).mono ?_;rintro e w' ⟨rfl,rfl⟩)
 go_ret2
 exact ⟨ret_enc HE.out,bal⟩
theorem encode_yes (c:Nat->Int) (w:World) (h1:1<=c 0) (h2:c 0<=16) :
  Calls prog 40 #[.agg #[.int .i64 (c 0),.int .i64 (c 1),.int .i64 (c 2),.int .i64 (c 3),.int .i64 (c 4),.int .i64 (c 5),.int .i64 (c 6),.int .i64 (c 7),.int .i64 (c 8)]] w fun e w'=>e=.returned (.tuple #[.string ⟨(encS c).toArray⟩,.int .i64 (encE c)])/\Below w.heap.size w w':=by
 have hl:=flds_len (c 0)
 have HF:=hid (flds_lt (c 0))
 have HB:=hid (byte_small (c 0) h1 h2)
 have HBad:=hid (enc_bad c)
 have HMore:=hid (enc_more c)
 have HGood:=hid (enc_good c h1 h2)
 have hC:=((Has.new w 31 c).alloc (by simp) (.cells (codes (flds (c 0))).toArray 136)).alloc (by simp;omega) (.cells #[.int .u8 (c 0)] 5)
 have hFs:=(HasF.new (w.alloc (.cells #[.int .i64 (c 0),.int .i64 (c 1),.int .i64 (c 2),.int .i64 (c 3),.int .i64 (c 4),.int .i64 (c 5),.int .i64 (c 6),.int .i64 (c 7),.int .i64 (c 8)] 31)) 136 (flds (c 0))).alloc (by simp) (.cells #[.int .u8 (c 0)] 5)
 have hOw:=own_start ((w.alloc (.cells #[.int .i64 (c 0),.int .i64 (c 1),.int .i64 (c 2),.int .i64 (c 3),.int .i64 (c 4),.int .i64 (c 5),.int .i64 (c 6),.int .i64 (c 7),.int .i64 (c 8)] 31)).alloc (.cells (codes (flds (c 0))).toArray 136)) (w.heap.size+2) c (by simp) HB.out
 go_enter func40,ntmps40
 go_wp2_with (go_at_call 64;refine (fieldsOf_yes (c 0) h1 h2 _).mono ?_;rintro e w' ⟨rfl,rfl⟩)
 generalize flds (c 0)=fs at *
 go_loopw [5,20] (fun v i wr=>∃ k:Nat,k<=fs.length/\i=.int .i64 k/\wr.ownsRow (w.heap.size+2) 5 1 v (frameL c (fs.take k)).length (byteCells (frameL c (fs.take k)))/\Has wr w.heap.size c/\HasF wr (w.heap.size+1) fs/\Below w.heap.size w wr/\okAll c (fs.take k)=true/\w.heap.size+2<wr.heap.size/\(frameL c (fs.take k)).length<=4*k+1)
  (fun _ i _=>fs.length - (intOf i).toNat)
 case atStart =>
  refine ⟨0,Nat.zero_le _,rfl,by simpa using hOw,hC,by simpa using hFs,?_,rfl,by simp,by simp [frameL]⟩
  exact ((bal).alloc (by simp) _).alloc (by simp;omega) _
 case round =>
  obtain ⟨k,hk,rfl,hown,hcell,hfs,hbel,hok,hsz,hfl⟩:=hrel
  clear hC hFs hOw
  have hok':=hid hok
  clear hok
  by_cases hlt:k<fs.length
  ·have hcx:=hfs k hlt
   have hf9:=HF.out (fs[k]) (List.getElem_mem hlt)
   have hco:=hcell.1 (off fs[k]) (off_lt _)
   cases hb:okB fs[k] (c (off fs[k])) with
   | false =>
    have hE:=hid (HBad.out (okAll_bad c fs k hlt hb))
    generalize fs[k]=f at *
    go_wp2_with (first | (go_at_call 65;refine (of_any f hf9 _ _).mono ?_;rintro e w' ⟨rfl,rfl⟩) | (go_at_call 66;refine (allows_any f hf9 _ _).mono ?_;rintro e w' ⟨rfl,rfl⟩))
    go_ret2
    exact ⟨ret_enc hE.out,hbel⟩
   | true =>
    have hbd:=okB_bounds hb
    have hst:=hid (okAll_step c fs k hlt hok'.out hb)
    obtain ⟨n,hn⟩:=Int.eq_ofNat_of_zero_le hbd.1
    have hos:Hid (∀ (w':World) (v':Value),w'.ownsRow (w.heap.size+2) 5 1 v' ((frameL c (fs.take k)).length+4) (byteCells (frameL c (fs.take k))++byteCells (be4 n))->w'.ownsRow (w.heap.size+2) 5 1 v' (frameL c (fs.take (k+1))).length (byteCells (frameL c (fs.take (k+1))))) :=
     fun w' v' h=>own_step hlt (by rw [hn];simp) h rfl
    have hlen:Hid ((frameL c (fs.take (k+1))).length=(frameL c (fs.take k)).length+4):=by
     rw [frameL_step c fs k hlt,List.length_append,be4_len];exact hid rfl
    rw [hn] at hco hb hbd
    obtain ⟨hb0,hb1⟩:=hbd
    clear hn
    generalize fs[k]=f at *
    go_wp2_with (first | (go_at_call 65;refine (of_any f hf9 _ _).mono ?_;rintro e w' ⟨rfl,rfl⟩) | (go_at_call 66;refine (allows_any f hf9 _ _).mono ?_;rintro e w' ⟨rfl,rfl⟩) | (go_at_call 67;refine (appendNumber_any (w.heap.size+2) _ n (by omega) _ _ _ hown (by omega) (by omega)).mono ?_;rintro e w' ⟨v',rfl,ho',hb'⟩))
    go_roundw
    case rel=>exact ⟨k+1,by omega,by go_num,hos.out _ _ ho',hcell.below hb' (by omega),hfs.below hb' (by omega),hbel.trans (hb'.mono (by omega)),hst.out,by have:=hb'.size;omega,by rw [hlen.out];omega⟩
    case measure=>simp [intOf];omega
  ·have hke:k=fs.length:=by omega
   rw [hke,List.take_length] at hown
   have hokf:=hok'.out
   rw [hke,List.take_length] at hokf
   have HOK:=hid hokf
   clear hokf hok' hke
   obtain ⟨g,cap,rfl,hg1,hg2,hcs⟩:=own_cells hown (by simp [frameL])
   have HCS:=hid hcs
   clear hcs
   have c0:=hcell.1 0 (by omega)
   have c1:=hcell.1 1 (by omega)
   have c2:=hcell.1 2 (by omega)
   have c3:=hcell.1 3 (by omega)
   have c4:=hcell.1 4 (by omega)
   have c5:=hcell.1 5 (by omega)
   have c6:=hcell.1 6 (by omega)
   have c7:=hcell.1 7 (by omega)
   have c8:=hcell.1 8 (by omega)
   cases hm:moreB c fs with
   | true =>
    have hE:=hid (HMore.out hm)
    go_wp2_with (go_at_call 68;refine (hasMore_any c (w.heap.size+1) fs HF.out _ (by omega) (by omega) hfs).mono ?_;rintro e w' ⟨rfl,hb1⟩)
    go_ret2
    exact ⟨ret_enc hE.out,hbel.trans (hb1.mono (by omega))⟩
   | false =>
    have hE:=hid (HGood.out HOK.out hm)
    go_wp2_with (go_at_call 68;refine (hasMore_any c (w.heap.size+1) fs HF.out _ (by omega) (by omega) hfs).mono ?_;rintro e w' ⟨rfl,hb1⟩;have hconv:=own_conv (w:=w') (cap:=cap) (own_kept hb1 hg2 HCS.out))
    go_ret2
    exact ⟨ret_enc hE.out,hbel.trans (hb1.mono (by omega))⟩
theorem encode_any (c:Nat->Int) (w:World) :
  Calls prog 40 #[.agg #[.int .i64 (c 0),.int .i64 (c 1),.int .i64 (c 2),.int .i64 (c 3),.int .i64 (c 4),.int .i64 (c 5),.int .i64 (c 6),.int .i64 (c 7),.int .i64 (c 8)]] w fun e w'=>e=.returned (.tuple #[.string ⟨(encS c).toArray⟩,.int .i64 (encE c)])/\Below w.heap.size w w':=by
 by_cases h:1<=c 0/\c 0<=16
 ·exact encode_yes c w h.1 h.2
 ·exact encode_no c w (by omega)
end
section
open Go.RowKit
theorem or2 (a b:Nat) (ha:a<256) (hb:b<256):bits BinOp.or IntKind.i64 ((a:Int)*256) (b:Int)=((a*256+b:Nat):Int):=by
 rw [bits_join .i64 63 (by decide) wraps63 8 ((a:Int)*256) (b:Int) (by omega) (by omega) (by omega) (by omega) (by omega) (by omega)]
 omega
def HasN (w:World) (b n:Nat) (g:Nat->Int):Prop:=(∀ i,i<n->w.cell? ⟨b,i,none⟩=some (.int .i64 (g i)))/\∀ i,w.frozen? ⟨b,i,none⟩=false
theorem HasN.drewN {w:World} {b n:Nat} {g:Nat->Int} (h:HasN w b n g) (k:Nat):HasN (w.drewN k) b n g:=h
theorem HasN.set {w:World} {b n:Nat} {g:Nat->Int} (h:HasN w b n g) {j:Nat} (hj:j<n) (v:Int):HasN (w.setCell ⟨b,j,none⟩ (.int .i64 v)) b n (upd g j v):=by
 refine ⟨fun i hi => ?_,fun i=>by rw [World.frozen?_setCell];exact h.2 i⟩
 by_cases e:i=j
 ·subst e;rw [World.cell?_setCell_same (w:=w) (h:=h.1 i hi)];simp [upd]
 ·rw [World.cell?_setCell_other (w:=w) (h:=by intro h';injection h' with _ h2 _;exact e h2.symm)];rw [h.1 i hi];simp [upd,e]
theorem HasN.congr {w:World} {b n:Nat} {g k:Nat->Int} (h:HasN w b n g) (e:∀ j,g j=k j):HasN w b n k :=
 ⟨fun j hj=>by rw [<- e j];exact h.1 j hj,h.2⟩
theorem own_hasN {w:World} {base:Nat} {e:TypeId} {g n:Nat} (h:w.ownsRow base e 1 (.slice (some ⟨g,0,none⟩) n n) n (madeCells (Value.cells (.int .i64 0)) (n*1)).toList):HasN w g n (fun _=>0):=by
 have hc:Value.cells (.int .i64 0)=#[.int .i64 0]:=rfl
 rw [hc,toList_madeCells_one] at h
 refine ⟨fun i hi => ?_,fun i => ?_⟩
 ·have:=h.cells (g:=g) rfl i (.int .i64 0) (by simp [hi])
  have e:((⟨g,0,none⟩:Addr).add i)=⟨g,i,none⟩:=by unfold Addr.add;split <;> simp_all
  rw [e] at this;exact this
 ·rcases h.2 with ⟨h',_⟩ | ⟨g',cap,cur,hv,_,hg,_⟩
  ·cases h'
  ·injection hv with h1;injection h1 with h1;injection h1 with h1
   subst h1
   simp [World.frozen?,hg]
def numsG (t:List UInt8) (k i:Nat):Int:=if i<k then (numB t (4*i):Nat) else 0
theorem numsG_zero (t:List UInt8) (j:Nat):(fun _=>(0:Int)) j=numsG t 0 j:=by simp [numsG]
theorem numsG_step (t:List UInt8) (k j:Nat):upd (numsG t k) k (numB t (4*k):Nat) j=numsG t (k+1) j:=by
 unfold upd numsG
 by_cases h:j=k
 ·subst h;simp
 ·by_cases h2:j<k
  ·simp [h,h2,show j<k+1 by omega]
  ·simp [h,h2,show ¬ j<k+1 by omega]
def okN (t:List UInt8) (n:Nat):Bool:=(List.range n).all fun j=>decide (numB t (4*j)<=1000000)
theorem okN_step (t:List UInt8) (n:Nat) (h:okN t n=true) (h2:numB t (4*n)<=1000000):okN t (n+1)=true:=by
 unfold okN at *
 rw [List.range_succ,List.all_append,h]
 simp [h2]
theorem okN_bad (t:List UInt8) (n m:Nat) (hn:n<m) (h2:¬ numB t (4*n)<=1000000):okN t m=false:=by
 unfold okN
 rw [List.all_eq_false]
 exact ⟨n,List.mem_range.2 hn,by simpa using h2⟩
def numsB (l:List UInt8):Bool:=decide (3<=l.length)&&decide ((l.getD 0 0).toNat<=10)&&decide (l.length=3+4*cnt l)&&okN (l.drop 3) (cnt l)
def numsL (l:List UInt8):List Int:=if numsB l then (List.range (cnt l)).map fun i=>((numB (l.drop 3) (4*i):Nat):Int) else []
def numsT (l:List UInt8):Int:=if numsB l then ((l.getD 0 0).toNat:Int) else 0
def numsE (l:List UInt8):Int:=if numsB l then 0 else 1
theorem nums_bad (l:List UInt8) (h:numsB l=false):numsL l=[]/\numsT l=0/\numsE l=1:=by simp [numsL,numsT,numsE,h]
theorem nums_good (l:List UInt8) (h:numsB l=true):numsL l=(List.range (cnt l)).map (fun i=>((numB (l.drop 3) (4*i):Nat):Int))/\numsT l=((l.getD 0 0).toNat:Int)/\numsE l=0:=by simp [numsL,numsT,numsE,h]
theorem ints_of_hasN {w:World} {b n:Nat} {t:List UInt8} (h:HasN w b n (numsG t n)) (hb:b<w.heap.size) {zs:List Int} (hz:zs=(List.range n).map fun i=>((numB t (4*i):Nat):Int)):IntsIn w (.slice (some ⟨b,0,none⟩) n n) zs:=by
 subst hz
 refine .inl ⟨b,n,by simp,hb,fun i hi => ?_⟩
 have hi':i<n:=by simpa using hi
 rw [h.1 i hi']
 simp [numsG,hi']
theorem ret_nums {l:List UInt8} {v:Value} {a b:Int} (h:numsT l=a/\numsE l=b) :
  Ending.returned (.tuple #[v,.int .i64 a,.int .i64 b])=.returned (.tuple #[v,.int .i64 (numsT l),.int .i64 (numsE l)]):=by rw [h.1,h.2]
theorem IntsIn.below {w w':World} {B:Nat} {v:Value} {zs:List Int} (h:IntsIn w v zs) (hb:Below B w w') (hB:w.heap.size<=B):IntsIn w' v zs:=by
 rcases h with ⟨b,cap,rfl,hl,hc⟩ | ⟨rfl,rfl⟩
 ·exact .inl ⟨b,cap,rfl,by have:=hb.size;omega,fun i hi=>(hb.cell (by show b<B;omega)).trans (hc i hi)⟩
 ·exact .inr ⟨rfl,rfl⟩
end
section
open Go.RowKit
theorem NodeAt.lt {n₀:Nat} {A:World}:∀ {h b:Nat} {l:List KV},NodeAt n₀ A h b l->b<n₀
 | 0,_,_,h=>h.1
 | _+1,_,_,h=>h.1
end
section
open Go.RowKit
theorem GroupAt.keeps {X:Nat->Prop} {w w':World} {g:Nat} {S:Nat->Bool} (h:GroupAt w g S) (hk:Keeps X w w') (hx:¬ X g):GroupAt w' g S:=(hk.block g h.lt hx).trans h
end
section
open Go.RowKit Go.Shelf
attribute [local go_sem] Oper.semAt_some run_store_cplx
theorem row_keeps {S:Nat->Prop} {W W':World} {base:Nat} {e:TypeId} {size:Nat} {v:Value} {n:Nat} {xs:List Value} (h:W.ownsRow base e size v n xs) (hk:Keeps S W W') (hs:∀ g,v.ownBlock=some g->¬ S g):W'.ownsRow base e size v n xs :=
 ownsRow_block h (fun g hg=>hk.block g (h.lt g hg).2 (hs g hg))
end
section
open Go.RowKit Go.Shelf
structure CmR (m:Cm):Prop where
 enc:encB m.ints=true
 k:m.k<=11
 t:m.t<=12
 o:m.o<=12
 b:m.b<=2
theorem cm_val (m:Cm) {a0 a1 a2 a3 a4 a5 a6 a7 a8:Int} (h0:a0=m.k) (h1:a1=m.t) (h2:a2=m.o) (h3:a3=m.d) (h4:a4=m.v) (h5:a5=m.b) (h6:a6=m.x) (h7:a7=m.y) (h8:a8=m.n) :
  Value.agg #[.int .i64 a0,.int .i64 a1,.int .i64 a2,.int .i64 a3,.int .i64 a4,.int .i64 a5,.int .i64 a6,.int .i64 a7,.int .i64 a8]=m.val:=by subst h0 h1 h2 h3 h4 h5 h6 h7 h8;rfl
theorem r_newbox {b n:Nat} (hb:1<=b/\b<=2) (hn:1<=n/\n<=5):CmR ⟨1,0,0,0,0,b,0,0,n⟩:=by
 refine ⟨enc_of (fs:=[4,7]) rfl (by simp only;omega) ?_ (all9.2 ⟨rfl,rfl,rfl,rfl,rfl,rfl,rfl,rfl,rfl⟩),by simp only;omega,by simp only;omega,by simp only;omega,by simp only;omega⟩
 simp [okAll,okB,lo,hi,off,Cm.ints];omega
theorem r_register {t d v b x y:Nat} (ht:1<=t/\t<=12) (hd:1<=d/\d<=3) (hv:1<=v/\v<=60) (hb:1<=b/\b<=2) (hx:x<=4) (hy:y<=4):CmR ⟨2,t,0,d,v,b,x,y,0⟩:=by
 refine ⟨enc_of (fs:=[0,2,3,4,5,6]) rfl (by simp only;omega) ?_ (all9.2 ⟨rfl,rfl,rfl,rfl,rfl,rfl,rfl,rfl,rfl⟩),by simp only;omega,by simp only;omega,by simp only;omega,by simp only;omega⟩
 simp [okAll,okB,lo,hi,off,Cm.ints];omega
theorem r_place {k t b x y:Nat} (hk:k=3\/k=8) (ht:1<=t/\t<=12) (hb:1<=b/\b<=2) (hx:x<=4) (hy:y<=4):CmR ⟨k,t,0,0,0,b,x,y,0⟩:=by
 refine ⟨enc_of (fs:=[0,4,5,6]) (by rcases hk with rfl | rfl <;> rfl) (by simp only;omega) ?_ (all9.2 ⟨rfl,rfl,rfl,rfl,rfl,rfl,rfl,rfl,rfl⟩),by simp only;omega,by simp only;omega,by simp only;omega,by simp only;omega⟩
 simp [okAll,okB,lo,hi,off,Cm.ints];omega
theorem r_aliquot {t o v b x y:Nat} (ht:1<=t/\t<=12) (ho:1<=o/\o<=12) (hv:1<=v/\v<=60) (hb:1<=b/\b<=2) (hx:x<=4) (hy:y<=4):CmR ⟨4,t,o,0,v,b,x,y,0⟩:=by
 refine ⟨enc_of (fs:=[0,1,3,4,5,6]) rfl (by simp only;omega) ?_ (all9.2 ⟨rfl,rfl,rfl,rfl,rfl,rfl,rfl,rfl,rfl⟩),by simp only;omega,by simp only;omega,by simp only;omega,by simp only;omega⟩
 simp [okAll,okB,lo,hi,off,Cm.ints];omega
theorem r_pour {t o v:Nat} (ht:1<=t/\t<=12) (ho:1<=o/\o<=12) (hv:1<=v/\v<=60):CmR ⟨5,t,o,0,v,0,0,0,0⟩:=by
 refine ⟨enc_of (fs:=[0,1,3]) rfl (by simp only;omega) ?_ (all9.2 ⟨rfl,rfl,rfl,rfl,rfl,rfl,rfl,rfl,rfl⟩),by simp only;omega,by simp only;omega,by simp only;omega,by simp only;omega⟩
 simp [okAll,okB,lo,hi,off,Cm.ints];omega
theorem r_use {t v:Nat} (ht:1<=t/\t<=12) (hv:1<=v/\v<=60):CmR ⟨6,t,0,0,v,0,0,0,0⟩:=by
 refine ⟨enc_of (fs:=[0,3]) rfl (by simp only;omega) ?_ (all9.2 ⟨rfl,rfl,rfl,rfl,rfl,rfl,rfl,rfl,rfl⟩),by simp only;omega,by simp only;omega,by simp only;omega,by simp only;omega⟩
 simp [okAll,okB,lo,hi,off,Cm.ints];omega
theorem r_take {t:Nat} (ht:1<=t/\t<=12):CmR ⟨7,t,0,0,0,0,0,0,0⟩:=by
 refine ⟨enc_of (fs:=[0]) rfl (by simp only;omega) ?_ (all9.2 ⟨rfl,rfl,rfl,rfl,rfl,rfl,rfl,rfl,rfl⟩),by simp only;omega,by simp only;omega,by simp only;omega,by simp only;omega⟩
 simp [okAll,okB,lo,hi,off,Cm.ints];omega
theorem r_withdraw {d:Nat} (hd:1<=d/\d<=3):CmR ⟨9,0,0,d,0,0,0,0,0⟩:=by
 refine ⟨enc_of (fs:=[2]) rfl (by simp only;omega) ?_ (all9.2 ⟨rfl,rfl,rfl,rfl,rfl,rfl,rfl,rfl,rfl⟩),by simp only;omega,by simp only;omega,by simp only;omega,by simp only;omega⟩
 simp [okAll,okB,lo,hi,off,Cm.ints];omega
theorem r_turn {b n:Nat} (hb:1<=b/\b<=2) (hn:1<=n/\n<=3):CmR ⟨10,0,0,0,0,b,0,0,n⟩:=by
 refine ⟨enc_of (fs:=[4,8]) rfl (by simp only;omega) ?_ (all9.2 ⟨rfl,rfl,rfl,rfl,rfl,rfl,rfl,rfl,rfl⟩),by simp only;omega,by simp only;omega,by simp only;omega,by simp only;omega⟩
 simp [okAll,okB,lo,hi,off,Cm.ints];omega
theorem r_flip {b:Nat} (hb:1<=b/\b<=2):CmR ⟨11,0,0,0,0,b,0,0,0⟩:=by
 refine ⟨enc_of (fs:=[4]) rfl (by simp only;omega) ?_ (all9.2 ⟨rfl,rfl,rfl,rfl,rfl,rfl,rfl,rfl,rfl⟩),by simp only;omega,by simp only;omega,by simp only;omega,by simp only;omega⟩
 simp [okAll,okB,lo,hi,off,Cm.ints];omega
theorem cmShow_enc {n:Nat} (h:1<=n/\n<=12):encB (cmShow n).ints=true:=by
 refine enc_of (fs:=[0]) rfl (by simp only [cmShow];omega) ?_ (all9.2 ⟨rfl,rfl,rfl,rfl,rfl,rfl,rfl,rfl,rfl⟩)
 simp [okAll,okB,lo,hi,off,Cm.ints,cmShow];omega
theorem show_act (L:Led) (n:Nat):L.act (cmShow n)=L:=by simp [Led.act,cmShow]
theorem show_some {L:Led} {n:Nat} {q:PT} (h:L.tube n=some q) (hf:L.kvs.length<=32):L.stepE 32 (cmShow n)=0/\L.stepN 32 (cmShow n)=showQ q/\L.stepL 32 (cmShow n)=L:=by
 have he:L.err (cmShow n)=0:=by
  simp [Led.err,Led.asksT,Led.asksO,Led.asksD,Led.asksB,cmShow,h,askAll,askI]
 have ht:L.tell (cmShow n)=showQ q:=by
  have:L.tubeD n=q:=Led.tubeD_some h
  simp [Led.tell,cmShow,this]
 simp [Led.stepE,Led.stepN,Led.stepL,he,show_act,hf,ht]
theorem show_none {L:Led} {n:Nat} (h:L.tube n=none):L.stepE 32 (cmShow n)=4/\L.stepN 32 (cmShow n)=[]/\L.stepL 32 (cmShow n)=L:=by
 have he:L.err (cmShow n)=4:=by
  simp [Led.err,Led.asksT,Led.asksO,Led.asksD,Led.asksB,cmShow,h,askAll,askI]
 simp [Led.stepE,Led.stepN,Led.stepL,he]
def Reach (L L':Led):Prop:=∀ P:Led->Prop,P L->(∀ (M:Led) (m:Cm),M.Inv->P M->CmR m->P (M.stepL 32 m))->P L'
theorem Reach.refl (L:Led):Reach L L:=fun _ h _=>h
theorem Reach.step {L M:Led} {m:Cm} (h:Reach L M) (hI:M.Inv) (hm:CmR m):Reach L (M.stepL 32 m):=fun P h0 hs=>hs M m hI (h P h0 hs) hm
theorem IntsIn.drewN {w:World} {v:Value} {zs:List Int} (h:IntsIn w v zs) (n:Nat):IntsIn (w.drewN n) v zs:=h
end
section
theorem textWk_get (f:Nat) (x:List UInt8) {k i:Nat} (h:i<k):(textWk f x k)[i]? = some (((f+1+i:Nat):Int),piece x i):=by simp [textWk,h]
theorem Holds.textOut {img img':List UInt8} {n t:Nat} {x:List UInt8} (h:Holds img n t x) (hl:img'.length=img.length)
  (ho:∀ i,i<((t+1) % 2*(n / 2)+1)*128\/((t+1) % 2*(n / 2)+n / 2)*128<=i->img'[i]? = img[i]?):Holds img' n t x:=by
 have hn:=h.n1
 refine h.same hl (fun i h1 h2=>ho i ?_) (ho _ ?_)
 ·have:=half_apart (n:=n) (t:=t) (i:=i);omega
 ·simp only [markO];omega
theorem head_torn {img:List UInt8} {n t k:Nat} {x y:List UInt8} (h:Holds img n t x) (hy:y.length<=(n / 2 - 1)*128) (hk:k<128) :
  Holds (mkW (allW img (textW (nextT t % 2*(n / 2)) y)) (((nextT t % 2*(n / 2):Nat):Int),headB (nextT t) y.length (sumN y)) k) n t x:=by
 have hn:=h.n1
 have hp:=pieces_le hy
 have hin:=half_in (n:=n) (t:=t+1)
 have hlen:=h.len
 rw [nextT_par,textW_eq]
 obtain ⟨g1,g2,g3⟩:=text_put img ((t+1) % 2*(n / 2)) y (pieces y) (by omega)
 generalize allW img (textWk ((t+1) % 2*(n / 2)) y (pieces y))=img1 at *
 obtain ⟨m1,m2⟩:=mkW_out (img:=img1) (s:=(t+1) % 2*(n / 2)) (k:=k) (headB_len (nextT t) y.length (sumN y)) (by omega)
 refine h.same (by omega) (fun i h1 h2 => ?_) ?_
 ·have:=half_apart (n:=n) (t:=t) (i:=i)
  rw [m2 i (by omega),g2 i (by omega)]
 ·rw [m2 _ (by simp only [markO];omega),g2 _ (by simp only [markO];omega)]
theorem text_part {img:List UInt8} {n t:Nat} {x:List UInt8} (h:Holds img n t x) {i k:Nat} {d:List UInt8} (hd:d.length=128) (hi:i<n / 2 - 1) :
  Holds (mkW img (((nextT t % 2*(n / 2)+1+i:Nat):Int),d) k) n t x:=by
 have hn:=h.n1
 have hin:=half_in (n:=n) (t:=t+1)
 have hlen:=h.len
 rw [nextT_par]
 obtain ⟨m1,m2⟩:=mkW_out (img:=img) (s:=(t+1) % 2*(n / 2)+1+i) (k:=k) hd (by omega)
 exact h.textOut m1 (fun j hj=>m2 j (by omega))
end
section
namespace Led
variable {L:Led} {m:Cm} {i o:Nat->Nat}
theorem Kept.step (h:L.Kept i o) (hI:L.Inv) (hm:m.Ok) (lim:Nat) (hk:¬ (L.stepE lim m=0/\(m.k=4\/m.k=5))):(L.stepL lim m).Kept i o:=by
 unfold stepL
 split
 ·next c =>
  have hE:L.stepE lim m=0:=by unfold stepE;rw [if_pos c.1,if_pos c.2]
  exact h.act hI hm c.1 ⟨fun e=>hk ⟨hE,.inl e⟩,fun e=>hk ⟨hE,.inr e⟩⟩
 ·exact h
end Led
end
section
open Go.RowKit Go.Shelf
variable {w w':World} {d g n:Nat} {img:List UInt8}
theorem wCells_len (ws:List WN):(wCells ws).length=ws.length*2:=by
 induction ws with
 | nil=>rfl
 | cons a l ih=>simp [wCells] at ih ⊢;omega
theorem WrV.at {B:Nat} {v:Value} {ws:List WN} (h:WrV B w v ws) {i:Nat} (hi:i<ws.length):∃ g cap,v=.slice (some ⟨g,0,none⟩) ws.length cap/\ws.length<=cap/\w.cell? ⟨g,i*2,none⟩=some (.int .i64 ws[i].1)/\w.cell? ⟨g,i*2+1,none⟩=some (.string ⟨ws[i].2.toArray⟩):=by
 rcases h with ⟨rfl,_⟩ | ⟨g,cap,hv,hB,h1,h2,cur,h3,h4⟩
 ·simp at hi
 ·obtain ⟨g1,g2⟩:=wCells_get ws hi
  rw [<- h4,List.getElem?_take,if_pos (by omega)] at g1 g2
  refine ⟨g,cap,hv,h1,?_,?_⟩
  ·simp only [World.cell?,h3];simpa using g1
  ·simp only [World.cell?,h3];simpa using g2
end
section
open Go.RowKit
theorem drop3 (s:ByteArray):(s.extract 3 s.size).data.toList=s.data.toList.drop 3:=by
 simp [ByteArray.data_extract,List.take_of_length_le]
end
section
open Go.RowKit
theorem encodeF_any (c:Nat->Int) (w:World) :
  Calls prog 27 #[.agg #[.int .i64 (c 0),.int .i64 (c 1),.int .i64 (c 2),.int .i64 (c 3),.int .i64 (c 4),.int .i64 (c 5),.int .i64 (c 6),.int .i64 (c 7),.int .i64 (c 8)]] w fun e w'=>e=.returned (.tuple #[.string ⟨(encS c).toArray⟩,.int .i64 (encE c)])/\Below w.heap.size w w':=by
 go_enter func27,ntmps27
 go_wp2_with (go_at_call 40;refine (encode_any c _).mono ?_;rintro e w' ⟨rfl,hb⟩)
 go_ret2
 exact ⟨rfl,(bal).trans (hb.mono (by simp))⟩
theorem same_any (a b:Value) (zs:List Int) (w:World) (ha:IntsIn w a zs) (hb:IntsIn w b zs) (hn:zs.length<1000000) :
  Calls prog 19 #[a,b] w fun e w'=>e=.returned (.bool true)/\∃ n,w'=w.drewN n:=by
 obtain ⟨oa,ca,rfl,hca⟩:=ha.parts
 obtain ⟨ob,cb,rfl,hcb⟩:=hb.parts
 have HA:=hid hca
 have HB:=hid hcb
 clear hca hcb ha hb
 go_enter func19,ntmps19
 go_wp2_with fail
 go_loopw [5] (fun i wr=>∃ k nd:Nat,k<=zs.length/\i=.int .i64 k/\wr=w.drewN nd) (fun i _=>zs.length - (intOf i).toNat)
 case atStart=>exact ⟨0,0,Nat.zero_le _,rfl,rfl⟩
 case round =>
  obtain ⟨k,nd,hk,rfl,rfl⟩:=hrel
  by_cases hlt:k<zs.length
  ·obtain ⟨pa,rfl,_,hpa⟩:=HA.out k hlt
   obtain ⟨pb,rfl,_,hpb⟩:=HB.out k hlt
   generalize zs[k]=z at *
   have hlt':(k:Int)<(zs.length:Int):=by omega
   go_wp2_with fail
   go_quiet (fail)
   go_wp2
   go_roundw
   case rel=>exact ⟨k+1,_,by omega,by go_num,rfl⟩
   case measure=>simp [intOf];omega
  ·go_wp2
   go_ret
   exact ⟨rfl,_,rfl⟩
end
section
open Go.RowKit Go.Shelf
theorem pick_any (c:Int) (h:I64 c) (n:Nat) (hn:0<n) (hn2:n<=1000) (w:World) :
  Calls prog 18 #[.int .i64 c,.int .i64 n] w fun e w'=>∃ z:Nat,e=.returned (.int .i64 z)/\z<n/\w'=w:=by
 obtain ⟨h1,h2⟩:=h
 have hz:((n:Int) == 0)=false:=bnf.2 (by omega)
 have hr:∀ a:Int,0<=a->∃ z:Nat,a % (n:Int)=z/\z<n:=fun a ha=>by
  have g1:=Int.emod_nonneg a (b:=(n:Int)) (by omega)
  have g2:=Int.emod_lt_of_pos a (b:=(n:Int)) (by omega)
  exact ⟨(a % (n:Int)).toNat,by omega,by omega⟩
 have HR:=hid hr
 clear hr
 by_cases h:c<0
 ·have e : -(c+1).tmod (n:Int)=(-(c+1)) % (n:Int):=by
   rw [<- Int.neg_tmod,Int.tmod_eq_emod_of_nonneg (by omega)]
  have HE:=hid e
  clear e
  go_enter func18,ntmps18
  go_wp2
  go_ret
  obtain ⟨z,hz1,hz2⟩:=HR.out (-(c+1)) (by omega)
  exact ⟨z,ret_int (by rw [HE.out,hz1]),hz2,rfl⟩
 ·go_enter func18,ntmps18
  go_wp2
  go_ret
  obtain ⟨z,hz1,hz2⟩:=HR.out c (by omega)
  exact ⟨z,ret_int hz1,hz2,rfl⟩
def CmdEnds (w:World) (e:Ending) (w':World):Prop:=∃ m:Cm,e=.returned m.val/\CmR m/\Below w.heap.size w w'
end
section
open Go.RowKit Go.Shelf
theorem I64.tdiv {c:Int} (h:I64 c) (k:Int) (hk:1<=k):I64 (c.tdiv k):=by
 obtain ⟨h1,h2⟩:=h
 have hd:∀ a:Int,0<=a->0<=a.tdiv k/\a.tdiv k<=a:=fun a ha=>by
  rw [Int.tdiv_eq_ediv_of_nonneg ha]
  exact ⟨Int.ediv_nonneg ha (by omega),Int.ediv_le_self _ ha⟩
 rcases Int.le_total 0 c with h0 | h0
 ·have:=hd c h0;exact ⟨by omega,by omega⟩
 ·have:=hd (-c) (by omega)
  rw [Int.neg_tdiv] at this
  exact ⟨by omega,by omega⟩
theorem command_any (rk ra rb rv rp:Int) (hk:I64 rk) (ha:I64 ra) (hb:I64 rb) (hv:I64 rv) (hp:I64 rp) (w:World) :
  Calls prog 13 #[.agg #[.int .i64 rk,.int .i64 ra,.int .i64 rb,.int .i64 rv,.int .i64 rp]] w (CmdEnds w):=by
 have Ha:=hid (pick_any ra ha 12 (by omega) (by omega))
 have Hb:=hid (pick_any rb hb 12 (by omega) (by omega))
 have Hv:=hid (pick_any rv hv 60 (by omega) (by omega))
 have Hp:=hid (pick_any rp hp 4 (by omega) (by omega))
 have Hp4:=hid (pick_any _ (hp.tdiv 4 (by omega)) 4 (by omega) (by omega))
 have Hp16:=hid (pick_any _ (hp.tdiv 16 (by omega)) 2 (by omega) (by omega))
 have Hk:=hid (pick_any rk hk 14 (by omega) (by omega))
 have Hv3:=hid (pick_any rv hv 3 (by omega) (by omega))
 have Hb3:=hid (pick_any rb hb 3 (by omega) (by omega))
 obtain ⟨k1,k2⟩:=hk
 obtain ⟨a1,a2⟩:=ha
 obtain ⟨b1,b2⟩:=hb
 obtain ⟨v1,v2⟩:=hv
 obtain ⟨p1,p2⟩:=hp
 go_enter func13,ntmps13
 go_wp2_with fail
 refine (Ha.out _).mono ?_
 rintro e w1 ⟨z1,rfl,hz1,rfl⟩
 go_wp2_with fail
 refine (Hb.out _).mono ?_
 rintro e w1 ⟨z2,rfl,hz2,rfl⟩
 go_wp2_with fail
 refine (Hv.out _).mono ?_
 rintro e w1 ⟨z3,rfl,hz3,rfl⟩
 go_wp2_with fail
 refine (Hp.out _).mono ?_
 rintro e w1 ⟨z4,rfl,hz4,rfl⟩
 go_wp2_with fail
 refine (Hp4.out _).mono ?_
 rintro e w1 ⟨z5,rfl,hz5,rfl⟩
 go_wp2_with fail
 refine (Hp16.out _).mono ?_
 rintro e w1 ⟨z6,rfl,hz6,rfl⟩
 go_wp2_with fail
 refine (Hk.out _).mono ?_
 rintro e w1 ⟨z7,rfl,hz7,rfl⟩
 clear Ha Hb Hv Hp Hp4 Hp16 Hk
 have hbw:Below w.heap.size w (w.alloc (.cells #[.int .i64 rk,.int .i64 ra,.int .i64 rb,.int .i64 rv,.int .i64 rp] 34)):=(Below.refl _ w).alloc nlr _
 have hsz:(w.alloc (.cells #[.int .i64 rk,.int .i64 ra,.int .i64 rb,.int .i64 rv,.int .i64 rp] 34)).heap.size=w.heap.size+1:=by simp
 have HB:=hid (fun (arr:Array Value)=>hbw.alloc (by omega) (.cells arr 31))
 clear hbw hsz
 have hkk:z7=0\/z7=1\/z7=2\/z7=3\/z7=4\/z7=5\/z7=6\/z7=7\/z7=8\/z7=9\/z7=10\/z7=11\/z7=12\/z7=13:=by omega
 clear hz7
 rcases hkk with rfl | rfl | rfl | rfl | rfl | rfl | rfl | rfl | rfl | rfl | rfl | rfl | rfl | rfl
 case inl =>
  go_wp2_with (go_at_call 18;refine (Hv3.out _).mono ?_;rintro e w1 ⟨z8,rfl,hz8,rfl⟩)
  exact bodyPost_ret (v:=.agg #[.int .i64 (1),.int .i64 (0),.int .i64 (0),.int .i64 (0),.int .i64 (0),.int .i64 (1+(z6:Int)),.int .i64 (0),.int .i64 (0),.int .i64 (2+(z8:Int))]) (by simp [results,results13,go_sem]) rfl ⟨⟨1,0,0,0,0,1+z6,0,0,2+z8⟩,congrArg Ending.returned (cm_val ⟨1,0,0,0,0,1+z6,0,0,2+z8⟩ rfl rfl rfl rfl rfl (by simp) rfl rfl (by simp)),r_newbox (by omega) (by omega),HB.out _⟩
 case inr.inl =>
  go_wp2_with (go_at_call 18;refine (Hb3.out _).mono ?_;rintro e w1 ⟨z8,rfl,hz8,rfl⟩)
  exact bodyPost_ret (v:=.agg #[.int .i64 (2),.int .i64 (1+(z1:Int)),.int .i64 (0),.int .i64 (1+(z8:Int)),.int .i64 (1+(z3:Int)),.int .i64 (1+(z6:Int)),.int .i64 ((z4:Int)),.int .i64 ((z5:Int)),.int .i64 (0)]) (by simp [results,results13,go_sem]) rfl ⟨⟨2,1+z1,0,1+z8,1+z3,1+z6,z4,z5,0⟩,congrArg Ending.returned (cm_val ⟨2,1+z1,0,1+z8,1+z3,1+z6,z4,z5,0⟩ rfl (by simp) rfl (by simp) (by simp) (by simp) (by simp) (by simp) rfl),r_register (by omega) (by omega) (by omega) (by omega) (by omega) (by omega),HB.out _⟩
 case inr.inr.inl =>
  go_wp2_with (go_at_call 18;refine (Hb3.out _).mono ?_;rintro e w1 ⟨z8,rfl,hz8,rfl⟩)
  exact bodyPost_ret (v:=.agg #[.int .i64 (2),.int .i64 (1+(z1:Int)),.int .i64 (0),.int .i64 (1+(z8:Int)),.int .i64 (1+(z3:Int)),.int .i64 (1+(z6:Int)),.int .i64 ((z4:Int)),.int .i64 ((z5:Int)),.int .i64 (0)]) (by simp [results,results13,go_sem]) rfl ⟨⟨2,1+z1,0,1+z8,1+z3,1+z6,z4,z5,0⟩,congrArg Ending.returned (cm_val ⟨2,1+z1,0,1+z8,1+z3,1+z6,z4,z5,0⟩ rfl (by simp) rfl (by simp) (by simp) (by simp) (by simp) (by simp) rfl),r_register (by omega) (by omega) (by omega) (by omega) (by omega) (by omega),HB.out _⟩
 case inr.inr.inr.inl =>
  go_wp2_with (go_at_call 18;refine (Hb3.out _).mono ?_;rintro e w1 ⟨z8,rfl,hz8,rfl⟩)
  exact bodyPost_ret (v:=.agg #[.int .i64 (2),.int .i64 (1+(z1:Int)),.int .i64 (0),.int .i64 (1+(z8:Int)),.int .i64 (1+(z3:Int)),.int .i64 (1+(z6:Int)),.int .i64 ((z4:Int)),.int .i64 ((z5:Int)),.int .i64 (0)]) (by simp [results,results13,go_sem]) rfl ⟨⟨2,1+z1,0,1+z8,1+z3,1+z6,z4,z5,0⟩,congrArg Ending.returned (cm_val ⟨2,1+z1,0,1+z8,1+z3,1+z6,z4,z5,0⟩ rfl (by simp) rfl (by simp) (by simp) (by simp) (by simp) (by simp) rfl),r_register (by omega) (by omega) (by omega) (by omega) (by omega) (by omega),HB.out _⟩
 case inr.inr.inr.inr.inl =>
  go_wp2
  exact bodyPost_ret (v:=.agg #[.int .i64 (3),.int .i64 (1+(z1:Int)),.int .i64 (0),.int .i64 (0),.int .i64 (0),.int .i64 (1+(z6:Int)),.int .i64 ((z4:Int)),.int .i64 ((z5:Int)),.int .i64 (0)]) (by simp [results,results13,go_sem]) rfl ⟨⟨3,1+z1,0,0,0,1+z6,z4,z5,0⟩,congrArg Ending.returned (cm_val ⟨3,1+z1,0,0,0,1+z6,z4,z5,0⟩ rfl (by simp) rfl rfl rfl (by simp) (by simp) (by simp) rfl),r_place (by omega) (by omega) (by omega) (by omega) (by omega),HB.out _⟩
 case inr.inr.inr.inr.inr.inl =>
  go_wp2
  exact bodyPost_ret (v:=.agg #[.int .i64 (4),.int .i64 (1+(z1:Int)),.int .i64 (1+(z2:Int)),.int .i64 (0),.int .i64 (1+(z3:Int)),.int .i64 (1+(z6:Int)),.int .i64 ((z4:Int)),.int .i64 ((z5:Int)),.int .i64 (0)]) (by simp [results,results13,go_sem]) rfl ⟨⟨4,1+z1,1+z2,0,1+z3,1+z6,z4,z5,0⟩,congrArg Ending.returned (cm_val ⟨4,1+z1,1+z2,0,1+z3,1+z6,z4,z5,0⟩ rfl (by simp) (by simp) rfl (by simp) (by simp) (by simp) (by simp) rfl),r_aliquot (by omega) (by omega) (by omega) (by omega) (by omega) (by omega),HB.out _⟩
 case inr.inr.inr.inr.inr.inr.inl =>
  go_wp2
  exact bodyPost_ret (v:=.agg #[.int .i64 (4),.int .i64 (1+(z1:Int)),.int .i64 (1+(z2:Int)),.int .i64 (0),.int .i64 (1+(z3:Int)),.int .i64 (1+(z6:Int)),.int .i64 ((z4:Int)),.int .i64 ((z5:Int)),.int .i64 (0)]) (by simp [results,results13,go_sem]) rfl ⟨⟨4,1+z1,1+z2,0,1+z3,1+z6,z4,z5,0⟩,congrArg Ending.returned (cm_val ⟨4,1+z1,1+z2,0,1+z3,1+z6,z4,z5,0⟩ rfl (by simp) (by simp) rfl (by simp) (by simp) (by simp) (by simp) rfl),r_aliquot (by omega) (by omega) (by omega) (by omega) (by omega) (by omega),HB.out _⟩
 case inr.inr.inr.inr.inr.inr.inr.inl =>
  go_wp2
  exact bodyPost_ret (v:=.agg #[.int .i64 (5),.int .i64 (1+(z1:Int)),.int .i64 (1+(z2:Int)),.int .i64 (0),.int .i64 (1+(z3:Int)),.int .i64 (0),.int .i64 (0),.int .i64 (0),.int .i64 (0)]) (by simp [results,results13,go_sem]) rfl ⟨⟨5,1+z1,1+z2,0,1+z3,0,0,0,0⟩,congrArg Ending.returned (cm_val ⟨5,1+z1,1+z2,0,1+z3,0,0,0,0⟩ rfl (by simp) (by simp) rfl (by simp) rfl rfl rfl rfl),r_pour (by omega) (by omega) (by omega),HB.out _⟩
 case inr.inr.inr.inr.inr.inr.inr.inr.inl =>
  go_wp2
  exact bodyPost_ret (v:=.agg #[.int .i64 (5),.int .i64 (1+(z1:Int)),.int .i64 (1+(z2:Int)),.int .i64 (0),.int .i64 (1+(z3:Int)),.int .i64 (0),.int .i64 (0),.int .i64 (0),.int .i64 (0)]) (by simp [results,results13,go_sem]) rfl ⟨⟨5,1+z1,1+z2,0,1+z3,0,0,0,0⟩,congrArg Ending.returned (cm_val ⟨5,1+z1,1+z2,0,1+z3,0,0,0,0⟩ rfl (by simp) (by simp) rfl (by simp) rfl rfl rfl rfl),r_pour (by omega) (by omega) (by omega),HB.out _⟩
 case inr.inr.inr.inr.inr.inr.inr.inr.inr.inl =>
  go_wp2
  exact bodyPost_ret (v:=.agg #[.int .i64 (6),.int .i64 (1+(z1:Int)),.int .i64 (0),.int .i64 (0),.int .i64 (1+(z3:Int)),.int .i64 (0),.int .i64 (0),.int .i64 (0),.int .i64 (0)]) (by simp [results,results13,go_sem]) rfl ⟨⟨6,1+z1,0,0,1+z3,0,0,0,0⟩,congrArg Ending.returned (cm_val ⟨6,1+z1,0,0,1+z3,0,0,0,0⟩ rfl (by simp) rfl rfl (by simp) rfl rfl rfl rfl),r_use (by omega) (by omega),HB.out _⟩
 case inr.inr.inr.inr.inr.inr.inr.inr.inr.inr.inl =>
  go_wp2
  exact bodyPost_ret (v:=.agg #[.int .i64 (7),.int .i64 (1+(z1:Int)),.int .i64 (0),.int .i64 (0),.int .i64 (0),.int .i64 (0),.int .i64 (0),.int .i64 (0),.int .i64 (0)]) (by simp [results,results13,go_sem]) rfl ⟨⟨7,1+z1,0,0,0,0,0,0,0⟩,congrArg Ending.returned (cm_val ⟨7,1+z1,0,0,0,0,0,0,0⟩ rfl (by simp) rfl rfl rfl rfl rfl rfl rfl),r_take (by omega),HB.out _⟩
 case inr.inr.inr.inr.inr.inr.inr.inr.inr.inr.inr.inl =>
  go_wp2
  exact bodyPost_ret (v:=.agg #[.int .i64 (8),.int .i64 (1+(z1:Int)),.int .i64 (0),.int .i64 (0),.int .i64 (0),.int .i64 (1+(z6:Int)),.int .i64 ((z4:Int)),.int .i64 ((z5:Int)),.int .i64 (0)]) (by simp [results,results13,go_sem]) rfl ⟨⟨8,1+z1,0,0,0,1+z6,z4,z5,0⟩,congrArg Ending.returned (cm_val ⟨8,1+z1,0,0,0,1+z6,z4,z5,0⟩ rfl (by simp) rfl rfl rfl (by simp) (by simp) (by simp) rfl),r_place (by omega) (by omega) (by omega) (by omega) (by omega),HB.out _⟩
 case inr.inr.inr.inr.inr.inr.inr.inr.inr.inr.inr.inr.inl =>
  cases hbb:(bits BinOp.and IntKind.i64 rv 3 == 0) with
  | true =>
   go_wp2_with (go_at_call 18;refine (Hb3.out _).mono ?_;rintro e w1 ⟨z8,rfl,hz8,rfl⟩)
   exact bodyPost_ret (v:=.agg #[.int .i64 (9),.int .i64 (0),.int .i64 (0),.int .i64 (1+(z8:Int)),.int .i64 (0),.int .i64 (0),.int .i64 (0),.int .i64 (0),.int .i64 (0)]) (by simp [results,results13,go_sem]) rfl ⟨⟨9,0,0,1+z8,0,0,0,0,0⟩,congrArg Ending.returned (cm_val ⟨9,0,0,1+z8,0,0,0,0,0⟩ rfl rfl rfl (by simp) rfl rfl rfl rfl rfl),r_withdraw (by omega),HB.out _⟩
  | false =>
   go_wp2
   exact bodyPost_ret (v:=.agg #[.int .i64 (11),.int .i64 (0),.int .i64 (0),.int .i64 (0),.int .i64 (0),.int .i64 (1+(z6:Int)),.int .i64 (0),.int .i64 (0),.int .i64 (0)]) (by simp [results,results13,go_sem]) rfl ⟨⟨11,0,0,0,0,1+z6,0,0,0⟩,congrArg Ending.returned (cm_val ⟨11,0,0,0,0,1+z6,0,0,0⟩ rfl rfl rfl rfl rfl (by simp) rfl rfl rfl),r_flip (by omega),HB.out _⟩
 case inr.inr.inr.inr.inr.inr.inr.inr.inr.inr.inr.inr.inr =>
  go_wp2_with (go_at_call 18;refine (Hv3.out _).mono ?_;rintro e w1 ⟨z8,rfl,hz8,rfl⟩)
  exact bodyPost_ret (v:=.agg #[.int .i64 (10),.int .i64 (0),.int .i64 (0),.int .i64 (0),.int .i64 (0),.int .i64 (1+(z6:Int)),.int .i64 (0),.int .i64 (0),.int .i64 (1+(z8:Int))]) (by simp [results,results13,go_sem]) rfl ⟨⟨10,0,0,0,0,1+z6,0,0,1+z8⟩,congrArg Ending.returned (cm_val ⟨10,0,0,0,0,1+z6,0,0,1+z8⟩ rfl rfl rfl rfl rfl (by simp) rfl rfl (by simp)),r_turn (by omega) (by omega),HB.out _⟩
end
section
namespace Led
variable {L:Led} {m:Cm}
theorem Small.act (h:L.Small) (hI:L.Inv) (hm:CmR m) (he:L.err m=0):(L.act m).Small:=by
 have hsum:∀ t∈L.ts,SmallQ t.1 t.2:=fun t ht=>h t.1 t.2 ((tube_mem hI.ok).2 ht)
 have hD:∀ n,(L.tube n).isSome=true->SmallQ n (L.tubeD n):=fun n hn=>by
  obtain ⟨_,_,e,_⟩:=good_tubeD hI hn
  exact h n _ e
 have hmt:=hm.t
 have hmo:=hm.o
 have hmb:=hm.b
 by_cases h1:m.k=1
 ·rw [Led.act,if_pos h1];exact h
 by_cases h2:m.k=2
 ·rw [Led.act,if_neg h1,if_pos h2]
  exact h.put _ _ ⟨hmt,hmb,fun e=>by cases e⟩
 by_cases h3:m.k=3
 ·rw [Led.act,if_neg h1,if_neg h2,if_pos h3]
  exact h.put _ _ ⟨hmt,hmb,fun e=>by cases e⟩
 by_cases h4:m.k=4
 ·rw [Led.act,if_neg h1,if_neg h2,if_neg h3,if_pos h4]
  obtain ⟨a1,a2,a3,a4,a5⟩:=no4 he h4
  obtain ⟨_,_,e,_⟩:=good_tubeD hI a4
  have hq:=hD _ a4
  have h1':(L.putT m.o ⟨m.x,m.y,m.b,(L.tubeD m.t).donor,1,0,0,0,0,0⟩).Each SmallQ:=Each.put h _ _ ⟨hmo,hmb,fun e=>by cases e⟩
  exact h1'.pour a1 (q:=L.tubeD m.t) (by rw [putT_tube,if_neg (by omega)];exact e) (r:=⟨m.x,m.y,m.b,(L.tubeD m.t).donor,1,0,0,0,0,0⟩) (by rw [putT_tube,if_pos rfl]) ⟨hmt,hq.2.1,fun e=>by have e':(L.tubeD m.t).status=3:=e;omega⟩ ⟨hmo,hmb,fun e=>by cases e⟩
 by_cases h5:m.k=5
 ·rw [Led.act,if_neg h1,if_neg h2,if_neg h3,if_neg h4,if_pos h5]
  obtain ⟨a1,a2,a3,a4,a5,a6,a7,a8⟩:=no5 he h5
  obtain ⟨_,_,e,_⟩:=good_tubeD hI a4
  obtain ⟨_,_,e2,_⟩:=good_tubeD hI a5
  exact Each.pour h a1 e e2 ⟨hmt,(hD _ a4).2.1,fun e=>by have e':(L.tubeD m.t).status=3:=e;omega⟩ ⟨hmo,(hD _ a5).2.1,fun e=>by have e':(L.tubeD m.o).status=3:=e;omega⟩
 by_cases h6:m.k=6
 ·rw [Led.act,if_neg h1,if_neg h2,if_neg h3,if_neg h4,if_neg h5,if_pos h6]
  obtain ⟨a1,a2,a3,a4⟩:=no6 he h6
  exact h.put _ _ ⟨hmt,(hD _ a4).2.1,fun e=>absurd (show (L.tubeD m.t).status=3 from e) a3⟩
 by_cases h7:m.k=7
 ·rw [Led.act,if_neg h1,if_neg h2,if_neg h3,if_neg h4,if_neg h5,if_neg h6,if_pos h7]
  exact h.put _ _ ⟨hmt,Nat.zero_le _,fun e=>by cases e⟩
 by_cases h8:m.k=8
 ·rw [Led.act,if_neg h1,if_neg h2,if_neg h3,if_neg h4,if_neg h5,if_neg h6,if_neg h7,if_pos h8]
  exact h.put _ _ ⟨hmt,hmb,fun e=>by cases e⟩
 by_cases h9:m.k=9
 ·rw [Led.act,if_neg h1,if_neg h2,if_neg h3,if_neg h4,if_neg h5,if_neg h6,if_neg h7,if_neg h8,if_pos h9]
  exact Each.chg _ _ _ h (fun t ht=>⟨(hsum t (List.mem_filter.1 ht).1).1,Nat.zero_le _,fun _=>rfl⟩)
 by_cases h10:m.k=10
 ·rw [Led.act,if_neg h1,if_neg h2,if_neg h3,if_neg h4,if_neg h5,if_neg h6,if_neg h7,if_neg h8,if_neg h9,if_pos h10]
  exact Each.chg _ _ _ h (fun t ht=>hsum t (List.mem_filter.1 ht).1)
 by_cases h11:m.k=11
 ·rw [Led.act,if_neg h1,if_neg h2,if_neg h3,if_neg h4,if_neg h5,if_neg h6,if_neg h7,if_neg h8,if_neg h9,if_neg h10,if_pos h11]
  exact Each.chg _ _ _ h (fun t ht=>hsum t (List.mem_filter.1 ht).1)
 rw [Led.act,if_neg h1,if_neg h2,if_neg h3,if_neg h4,if_neg h5,if_neg h6,if_neg h7,if_neg h8,if_neg h9,if_neg h10,if_neg h11]
 exact h
theorem Small.step (h:L.Small) (hI:L.Inv) (hm:CmR m):(L.stepL 32 m).Small:=by
 unfold stepL
 split
 ·next c=>exact h.act hI hm c.1
 ·exact h
end Led
end
section
open Go.RowKit
namespace Led
variable {L:Led}
theorem cmDown_enc {n:Nat} (h:1<=n/\n<=12):encB (cmDown n).ints=true:=by
 refine enc_of (fs:=[0]) rfl (by simp only [cmDown];omega) ?_ (all9.2 ⟨rfl,rfl,rfl,rfl,rfl,rfl,rfl,rfl,rfl⟩)
 simp [okAll,okB,lo,hi,off,Cm.ints,cmDown];omega
theorem down_act (L:Led) (n:Nat):L.act (cmDown n)=L:=by simp [Led.act,cmDown]
theorem down_some {n:Nat} {q:PT} (h:L.tube n=some q) (hf:L.kvs.length<=32):L.stepE 32 (cmDown n)=0/\L.stepN 32 (cmDown n)=natsI (L.below n)/\L.stepL 32 (cmDown n)=L:=by
 have he:L.err (cmDown n)=0:=by
  simp [Led.err,Led.asksT,Led.asksO,Led.asksD,Led.asksB,cmDown,h,askAll,askI]
 have ht:L.tell (cmDown n)=natsI (L.below n):=by simp [Led.tell,cmDown,below]
 simp [Led.stepE,Led.stepN,Led.stepL,he,down_act,hf,ht]
theorem down_none {n:Nat} (h:L.tube n=Option.none):L.stepE 32 (cmDown n)=4/\L.stepN 32 (cmDown n)=[]/\L.stepL 32 (cmDown n)=L:=by
 have he:L.err (cmDown n)=4:=by
  simp [Led.err,Led.asksT,Led.asksO,Led.asksD,Led.asksB,cmDown,h,askAll,askI]
 simp [Led.stepE,Led.stepN,Led.stepL,he]
end Led
end
section
open Go.RowKit
namespace Led
variable {L:Led}
theorem mvB_mvB (L:Led) (b:Nat) (g h:Nat×Nat->Nat×Nat):(L.mvB b g).mvB b h=L.mvB b (fun p=>h (g p)):=by
 unfold mvB mapT
 simp only [List.map_map]
 congr 1
 refine List.map_congr_left fun t _ => ?_
 simp only [Function.comp]
 by_cases hp:inBox b t=true
 ·have hp2:inBox b (t.1,PTmv g t.2)=true:=hp
  rw [if_pos hp,if_pos hp2,if_pos hp]
  rfl
 ·rw [if_neg hp,if_neg hp,if_neg hp]
theorem mvB_len (L:Led) (b:Nat) (g:Nat×Nat->Nat×Nat):(L.mvB b g).kvs.length=L.kvs.length:=by simp [kvs,mvB,mapT]
theorem turn_step (hI:L.Inv) {b n:Nat} (hb:1<=b) (hf:L.kvs.length<=32):L.stepE 32 (cmTurn b n)=(if L.sideN b=0 then 9 else 0)/\L.stepL 32 (cmTurn b n)=if L.sideN b=0 then L else L.mvB b (turnXY (L.sideN b) n):=by
 by_cases h:L.sideN b=0
 ·have he:L.err (cmTurn b n)=9:=by
   simp only [Led.err,Led.asksT,Led.asksO,Led.asksD,Led.asksB,cmTurn]
   simp [askAll,askI,h]
  simp [Led.stepE,Led.stepL,he,h]
 ·have he:L.err (cmTurn b n)=0:=by
   simp only [Led.err,Led.asksT,Led.asksO,Led.asksD,Led.asksB,cmTurn]
   simp [askAll,askI,h]
  simp [Led.stepE,Led.stepL,he,h,turn_act hI hb,mvB_len,hf]
end Led
end
section
open Go.RowKit
namespace Led
variable {L:Led}
theorem cmTurn_r {b n:Nat} (hb:1<=b/\b<=2) (hn:1<=n/\n<=3):CmR (cmTurn b n):=r_turn hb hn
theorem CmR.okk {m:Cm} (h:CmR m):m.Ok:=by have:=Cm.of_ok h.enc;have e:Cm.of m.ints=m:=rfl;rwa [e] at this
structure Mv (L:Led) (b:Nat) (g:Nat×Nat->Nat×Nat) (M:Led):Prop where
 eq:M=L.mvB b g
 inv:M.Inv
 few:M.kvs.length<=32
theorem Mv.turn {M:Led} {b n:Nat} {g:Nat×Nat->Nat×Nat} (h:L.Mv b g M) (hs:L.sideN b≠0) (hb:1<=b/\b<=2) (hn:1<=n/\n<=3):L.Mv b (fun p=>turnXY (L.sideN b) n (g p)) (M.stepL 32 (cmTurn b n)):=by
 have hM:M.sideN b=L.sideN b:=by rw [h.eq];rfl
 have e:=(turn_step h.inv (n:=n) hb.1 h.few).2
 rw [hM,if_neg hs] at e
 have e2:M.stepL 32 (cmTurn b n)=L.mvB b (fun p=>turnXY (L.sideN b) n (g p)):=by rw [e,h.eq,mvB_mvB]
 exact ⟨e2,inv_step h.inv (CmR.okk (cmTurn_r hb hn)) 32,by rw [e2,mvB_len,<- mvB_len L b g,<- h.eq];exact h.few⟩
end Led
end
section
open Go.RowKit
namespace Led
variable {L:Led}
theorem cmUp_enc {n:Nat} (h:1<=n/\n<=12):encB (cmUp n).ints=true:=by
 refine enc_of (fs:=[0]) rfl (by simp only [cmUp];omega) ?_ (all9.2 ⟨rfl,rfl,rfl,rfl,rfl,rfl,rfl,rfl,rfl⟩)
 simp [okAll,okB,lo,hi,off,Cm.ints,cmUp];omega
theorem up_act (L:Led) (n:Nat):L.act (cmUp n)=L:=by simp [Led.act,cmUp]
theorem up_some {n:Nat} {q:PT} (h:L.tube n=some q) (hf:L.kvs.length<=32):L.stepE 32 (cmUp n)=0/\L.stepN 32 (cmUp n)=natsI (L.above n)/\L.stepL 32 (cmUp n)=L:=by
 have he:L.err (cmUp n)=0:=by
  simp [Led.err,Led.asksT,Led.asksO,Led.asksD,Led.asksB,cmUp,h,askAll,askI]
 have ht:L.tell (cmUp n)=natsI (L.above n):=by simp [Led.tell,cmUp,above]
 simp [Led.stepE,Led.stepN,Led.stepL,he,up_act,hf,ht]
theorem up_none {n:Nat} (h:L.tube n=Option.none):L.stepE 32 (cmUp n)=4/\L.stepN 32 (cmUp n)=[]/\L.stepL 32 (cmUp n)=L:=by
 have he:L.err (cmUp n)=4:=by
  simp [Led.err,Led.asksT,Led.asksO,Led.asksD,Led.asksB,cmUp,h,askAll,askI]
 simp [Led.stepE,Led.stepN,Led.stepL,he]
end Led
end
section
open Go.RowKit
namespace Led
variable {L:Led}
theorem cmCont_enc {b:Nat} (h:1<=b/\b<=2):encB (cmCont b).ints=true:=by
 refine enc_of (fs:=[4]) rfl (by simp only [cmCont];omega) ?_ (all9.2 ⟨rfl,rfl,rfl,rfl,rfl,rfl,rfl,rfl,rfl⟩)
 simp [okAll,okB,lo,hi,off,Cm.ints,cmCont];omega
theorem cont_act (L:Led) (b:Nat):L.act (cmCont b)=L:=by simp [Led.act,cmCont]
def inB (L:Led) (b:Nat):List TN:=L.ts.filter (inBox b)
theorem inB_none (hI:L.Inv) {b:Nat} (hb:1<=b) (h:L.sideN b=0):L.inB b=[]:=by
 refine List.filter_eq_nil_iff.2 fun t ht hp => ?_
 have:=(in_range hI hb t ht hp).1
 omega
theorem cont_step (hI:L.Inv) {b:Nat} (hb:1<=b) (hf:L.kvs.length<=32):L.stepN 32 (cmCont b)=contQ (L.inB b)/\L.stepL 32 (cmCont b)=L:=by
 by_cases h:L.sideN b=0
 ·have he:L.err (cmCont b)=9:=by
   simp only [Led.err,Led.asksT,Led.asksO,Led.asksD,Led.asksB,cmCont]
   simp [askAll,askI,h]
  rw [inB_none hI hb h]
  simp [Led.stepN,Led.stepL,he,contQ]
 ·have he:L.err (cmCont b)=0:=by
   simp only [Led.err,Led.asksT,Led.asksO,Led.asksD,Led.asksB,cmCont]
   simp [askAll,askI,h]
  have ht:L.tell (cmCont b)=contQ (L.inB b):=by simp [Led.tell,cmCont,inB]
  simp [Led.stepN,Led.stepL,he,cont_act,hf,ht]
end Led
end
section
open Go.RowKit Go.Shelf
theorem natsI_len (zs:List Nat):(natsI zs).length=zs.length:=by simp [natsI]
end
section
open Go
def AllI (w:World) (g:Nat):Prop:=∀ o v,w.cell? ⟨g,o,none⟩=some v->∃ k,v=.int .i64 k
theorem allI_of {w:World} {g:Nat} {cur:Array Value} {e:TypeId} (hg:w.heap[g]? = some (.cells cur e (0,0))) (h:∀ v∈cur.toList,∃ k,v=.int .i64 k):AllI w g:=by
 intro o v hv
 simp only [World.cell?,hg] at hv
 exact h v (by
  obtain ⟨hlt,rfl⟩:=Array.getElem?_eq_some_iff.1 hv
  exact Array.getElem_mem_toList hlt)
theorem allI_cur {w:World} {g:Nat} {cur:Array Value} {e:TypeId} (hg:w.heap[g]? = some (.cells cur e (0,0))) (h:AllI w g):∀ v∈cur.toList,∃ k,v=.int .i64 k:=by
 intro v hv
 obtain ⟨o,ho,rfl⟩:=List.getElem_of_mem hv
 refine h o _ ?_
 simp only [World.cell?,hg]
 rw [Array.getElem?_eq_getElem (by simpa using ho)]
 simp
theorem zeroCells_i64 (z:Value) (hz:z=.int .i64 0) (n:Nat):∀ v∈(Builtin.zeroCells z.cells n).toList,∃ k,v=.int .i64 k:=by
 subst hz
 intro v hv
 simp [Builtin.zeroCells,Value.cells] at hv
 obtain ⟨a,_,rfl⟩:=hv
 exact ⟨0,by simp [Nat.mod_one]⟩
variable {P:Program}
theorem run_append_ints (w:World) (base:Nat) (t ty e:TypeId) (i:TypeInfo) (z:Value) (bytes:Nat) (ht:P.underlying t=some (.slice e)) (hi:P.info? e=some i) (hz:i.zero=some z) (hz0:z=.int .i64 0)
  (hsize:i.size=1) (hby:i.bytes=bytes)
  (v:Value) (n:Nat) (xs:List Value) (hown:w.ownsRow base e 1 v n xs) (hall:∀ g,v.ownBlock=some g->AllI w g) (hxs:∀ v∈xs,∃ k,v=.int .i64 k)
  (a:Addr) (m c:Nat) (news:List Value) (hl:news.length=m) (hnews:∀ j u,news[j]? = some u->w.cell? (a.add j)=some u) (hn:∀ u∈news,∃ k,u=.int .i64 k)
  (h63:n+m<=maxLen) (hbytes:(n+m)*bytes<=140737488355328) (hbase:base<=w.heap.size) :
  ∃ v' w',(Builtin.append_ #[t,t] ty #[v,.slice (some a) m c]).run P w=.ok v' w'/\w'.ownsRow base e 1 v' (n+m) (xs++news)/\w.grownBy w' v.ownBlock/\(∀ g,v'.ownBlock=some g->AllI w' g):=by
 have h1:∀ u∈news,u.oneCell'=true:=fun u hu=>by obtain ⟨k,rfl⟩:=hn u hu;rfl
 have hzs:z.cells.size=1:=by rw [hz0];rfl
 obtain ⟨v',w',hr,ho,hg,-⟩:=run_append_own (P:=P) w base t ty e i z 1 bytes ht hi hz hsize hby hzs (by omega) v n xs hown a m c news (by omega) hnews h1 h63 hbytes hbase
 refine ⟨v',w',hr,ho,hg,?_⟩
 have hsmall:n+m<=9223372036854775807:=by simp only [maxLen] at h63;omega
 rcases hown.2 with ⟨rfl,rfl⟩ | ⟨g,cap,cur,rfl,hbg,hgg,hnc,hcm,hcs,htake⟩
 ·by_cases hm:m=0
  ·subst hm
   have hn0:news=[]:=List.eq_nil_of_length_eq_zero hl
   subst hn0
   have hr2:(Builtin.append_ #[t,t] ty #[.slice none 0 0,.slice (some a) 0 c]).run P w=.ok (.slice none 0 0) w:=by
    simp [Builtin.append_,run_underlying ht,sizeOf,typeInfo,hi,Builtin.lenOf,Builtin.firstCells,loadCells,loadCellsFrom]
   rw [hr2] at hr
   cases hr
   intro g hg;simp [Value.ownBlock] at hg
  ·have hr2:=run_append_nil (P:=P) w t ty e i z ht hi hz a m c news (by rw [hsize];omega) hnews (by omega) (by omega) (by rw [hby];have hb:=hbytes;simp only [Nat.zero_add] at hb;omega)
   rw [hr2] at hr
   cases hr
   intro g hg
   simp [Value.ownBlock] at hg
   subst hg
   refine allI_of (heap_alloc_new w.drew _) ?_
   intro v hv
   simp only [Array.toList_append,List.mem_append] at hv
   rcases hv with hv | hv
   ·exact hn v (by simpa using hv)
   ·exact zeroCells_i64 z hz0 _ v hv
 ·by_cases hroom:n+m<=cap
  ·have hfit:n*i.size+news.length<=cur.size:=by rw [hl,hcs,hsize];omega
   have hr2:=run_append_room (P:=P) w t ty e i ht hi g n cap cur hgg a m c news (by rw [hsize];omega) hnews h1 hroom hfit
   rw [hr2] at hr
   cases hr
   intro g' hg'
   simp [Value.ownBlock] at hg'
   subst hg'
   have hc:=allI_cur hgg (hall g rfl)
   refine allI_of (setRow_heap w g cur _ e _ hgg) ?_
   intro v hv
   simp only [List.mem_append] at hv
   rcases hv with (hv | hv) | hv
   ·exact hc v (List.mem_of_mem_take hv)
   ·exact hn v hv
   ·exact hc v (List.mem_of_mem_drop hv)
  ·have holds:∀ j u,xs[j]? = some u->w.cell? ((⟨g,0,none⟩:Addr).add j)=some u:=by
    intro j u hj
    simp only [World.cell?,Addr.add_lit,hgg,Nat.zero_add]
    rw [<- htake] at hj
    rw [List.getElem?_take] at hj
    split at hj
    ·simpa using hj
    ·cases hj
   have hfit:Builtin.nextslicecap (n+m) cap*i.bytes<=281474976710656:=growslice_fits (by omega) (by rw [hby];exact hbytes)
   have hr2:=run_append_grow (P:=P) w t ty e i z ht hi hz ⟨g,0,none⟩ n cap xs (by rw [hsize];exact hown.1) holds a m c news (by rw [hsize];omega) hnews (by omega) (by omega) hfit
   rw [hr2] at hr
   cases hr
   intro g' hg'
   simp [Value.ownBlock] at hg'
   subst hg'
   refine allI_of (heap_alloc_new w.drew _) ?_
   intro v hv
   simp only [Array.toList_append,List.mem_append] at hv
   rcases hv with (hv | hv) | hv
   ·exact hxs v (by simpa using hv)
   ·exact hn v (by simpa using hv)
   ·exact zeroCells_i64 z hz0 _ v hv
theorem wpList_append_ints {w:World} {ops:Array Oper} {rest:List Oper} {o:Oper} {a:Act} {Q:Exit->Act->World->Prop} (hgd:o.guard=none) (s x:Operand) (t:TypeId)
  (ho:o.op=.call { callee:=.builtin .append,args:=#[s,x],argTypes:=#[t,t] })
  (base:Nat) (e:TypeId) (i:TypeInfo) (z:Value) (bytes:Nat) (ht:P.underlying t=some (.slice e)) (hi:P.info? e=some i) (hz:i.zero=some z) (hz0:z=.int .i64 0)
  (hsize:i.size=1) (hby:i.bytes=bytes)
  (v:Value) (n:Nat) (xs:List Value) (hs:a.eval s=v) (hown:w.ownsRow base e 1 v n xs) (hall:∀ g,v.ownBlock=some g->AllI w g) (hxs:∀ v∈xs,∃ k,v=.int .i64 k)
  (ad:Addr) (m c:Nat) (news:List Value) (hx:a.eval x=.slice (some ad) m c) (hl:news.length=m) (hnews:∀ j u,news[j]? = some u->w.cell? (ad.add j)=some u) (hn:∀ u∈news,∃ k,u=.int .i64 k)
  (h63:n+m<=maxLen) (hbytes:(n+m)*bytes<=140737488355328) (hbase:base<=w.heap.size)
  (h:∀ v' w',w'.ownsRow base e 1 v' (n+m) (xs++news)->w.grownBy w' v.ownBlock->(∀ g,v'.ownBlock=some g->AllI w' g)->wpList P ops Q rest (a.put o.dst v') w'):wpList P ops Q (o::rest) a w:=by
 refine wpList_plain hgd fun _ hK => ?_
 obtain ⟨v',w',hr,h2,h3,h4⟩:=run_append_ints (P:=P) w base t o.type e i z bytes ht hi hz hz0 hsize hby v n xs hown hall hxs ad m c news hl hnews hn h63 hbytes hbase
 unfold Oper.wp execOp
 simp only [ho,resolve,invoke,builtin,Sem.run_bind,Sem.run_pure,Result.andThen_ok,List.map_toArray,List.map_cons,List.map_nil,hs,hx,hr]
 exact hK _ _ (h v' w' h2 h3 h4)
end
section
open Go.RowKit Go.Shelf
def New (B:Nat) (v:Value):Prop:=∀ g n c,v=.slice (some g) n c->B<=g.block
theorem new_nil (B:Nat):New B (.slice none 0 0):=fun _ _ _ e=>by cases e
theorem New.mono {B B':Nat} {v:Value} (h:New B v) (hb:B'<=B):New B' v:=fun g n c e=>Nat.le_trans hb (h g n c e)
theorem numbers_shortN (s:ByteArray) (w:World) (h3:s.size<3) :
  Calls prog 46 #[.string s] w fun e w'=>∃ v,e=.returned (.tuple #[v,.int .i64 (numsT s.data.toList),.int .i64 (numsE s.data.toList)])/\IntsIn w' v (numsL s.data.toList)/\Below w.heap.size w w'/\New w.heap.size v:=by
 have hE:=hid (nums_bad s.data.toList (by unfold numsB;simp [show ¬ 3<=s.size by omega]))
 go_enter func46,ntmps46
 go_wp2
 go_ret3
 exact ⟨_,ret_nums hE.out.2,.inr ⟨rfl,hE.out.1⟩,Below.refl _ _,new_nil _⟩
theorem numbers_longN (s:ByteArray) (w:World) (hs:s.size<=maxLen) (h3:3<=s.size) (n0 n1 n2 c:Nat) (e0:s[0].toNat=n0) (e1:s[1].toNat=n1) (e2:s[2].toNat=n2)
  (b0:n0<256) (b1:n1<256) (b2:n2<256) (hc:bits BinOp.or IntKind.i64 ((n1:Int)*256) (n2:Int)=(c:Int)) (hcb:c<65536)
  (hbad:(¬ n0<=10\/¬ s.size=3+4*c\/okN (s.extract 3 s.size).data.toList c=false)->numsL s.data.toList=[]/\numsT s.data.toList=0/\numsE s.data.toList=1)
  (hgood:n0<=10->s.size=3+4*c->okN (s.extract 3 s.size).data.toList c=true->numsL s.data.toList=(List.range c).map (fun i=>((numB (s.extract 3 s.size).data.toList (4*i):Nat):Int))/\numsT s.data.toList=n0/\numsE s.data.toList=0) :
  Calls prog 46 #[.string s] w fun e w'=>∃ v,e=.returned (.tuple #[v,.int .i64 (numsT s.data.toList),.int .i64 (numsE s.data.toList)])/\IntsIn w' v (numsL s.data.toList)/\Below w.heap.size w w'/\New w.heap.size v:=by
 unfold maxLen at hs
 obtain ⟨i0,hi,hz0,hz1,hz2⟩:=info_parts Tryz.infoInt
 have HBad:=hid hbad
 have HGood:=hid hgood
 clear hbad hgood
 have g0:0<s.size:=by omega
 have g1:(1:Int)<(s.size:Int):=by omega
 have g2:(2:Int)<(s.size:Int):=by omega
 have g3:(3:Int)<=(s.size:Int):=by omega
 have g13:decide ((s.size:Int)<3)=false:=by simp;omega
 by_cases h10:n0<=10
 ·have h10':(n0:Int)<=10:=by omega
  have g10:decide ((10:Int)<(n0:Int))=false:=by simp;omega
  by_cases hlen:s.size=3+4*c
  ·have hlt:(((s.size - 3:Nat):Int) != (c:Int)*4)=false:=by rw [bne_eq_false_iff_eq];omega
   have HBad2:=hid (fun h=>HBad.out (.inr (.inr h)))
   have HGood2:=hid (HGood.out h10 hlen)
   have hsz:(s.extract 3 s.size).size+3=s.size:=by simp;omega
   have hsz4:4*c<=(s.extract 3 s.size).size:=by omega
   have hsz5:(s.extract 3 s.size).size<300000:=by omega
   clear HBad HGood hlen hsz
   go_enter func46,ntmps46
   go_wp2_with fail
   go_quiet (fail)
   go_wp2_with fail
   go_quiet (fail)
   go_wp2_with (at_make;refine wpList_make_full _ rfl _ _ 36 rfl w.heap.size 3 i0 (.int .i64 0) 1 underlying36 hi hz0 hz1 .i64 .i64 _ _ c rfl rfl rfl rfl (by rw [hz2];omega) (by unfold maxLen;omega) (by simp) ?_;intro w0 hown0 hgrow0)
   generalize s.extract 3 s.size=t at *
   have hN:=(own_hasN hown0).congr (fun j=>numsG_zero t.data.toList j)
   have hsz0:w.heap.size<w0.heap.size:=by have:=hown0.lt w.heap.size rfl;omega
   have hB0:Below w.heap.size w w0:=Below.grown (below_drewN (Below.refl _ _) _) hgrow0 (by simp) (fun k hk=>by cases hk)
   clear hown0 hgrow0
   go_wp2_with fail
   go_loopw [40] (fun i wr=>∃ m:Nat,m<=c/\i=.int .i64 m/\HasN wr w.heap.size c (numsG t.data.toList m)/\Below w.heap.size w wr/\okN t.data.toList m=true/\w.heap.size<wr.heap.size)
    (fun i _=>c - (intOf i).toNat)
   case atStart=>exact ⟨0,Nat.zero_le _,rfl,hN,hB0,rfl,hsz0⟩
   case round =>
    clear hN hB0 hsz0
    obtain ⟨m,hm,rfl,hN,hbel,hok,hsz⟩:=hrel
    have HOK:=hid hok
    clear hok
    by_cases hlt:m<c
    ·have hnl:=numB_lt t.data.toList (4*m)
     have hco:=hN.1 m hlt
     have hfz:=hN.2 m
     by_cases hb:numB t.data.toList (4*m)<=1000000
     ·have hst:=hid (okN_step t.data.toList m HOK.out hb)
      have HS:=hid (fun j=>numsG_step t.data.toList m j)
      have hb':((numB t.data.toList (4*m):Nat):Int)<=1000000:=by omega
      go_wp2_with (go_at_call 69;refine (numberAt_any t m _ (by unfold maxLen;omega) (by omega)).mono ?_;rintro e w' ⟨rfl,nd,rfl⟩)
      go_roundw
      case rel=>exact ⟨m+1,by omega,by go_num,((hN.drewN nd).set hlt _).congr HS.out,(below_drewN hbel nd).setCell (by simp) _,hst.out,by simpa using hsz⟩
      case measure=>simp [intOf];omega
     ·have hE:=hid (HBad2.out (okN_bad t.data.toList m c hlt hb))
      have hb':(1000000:Int)<((numB t.data.toList (4*m):Nat):Int):=by omega
      go_wp2_with (go_at_call 69;refine (numberAt_any t m _ (by unfold maxLen;omega) (by omega)).mono ?_;rintro e w' ⟨rfl,nd,rfl⟩)
      go_ret3
      exact ⟨_,ret_nums hE.out.2,.inr ⟨rfl,hE.out.1⟩,below_drewN hbel nd,new_nil _⟩
    ·have hme:m=c:=by omega
     subst hme
     have hE:=hid (HGood2.out HOK.out)
     go_wp2
     go_ret3
     exact ⟨_,ret_nums hE.out.2,ints_of_hasN hN hsz hE.out.1,hbel,fun _ _ _ e=>by cases e;exact Nat.le_refl _⟩
  ·have hlt:(((s.size - 3:Nat):Int) != (c:Int)*4)=true:=by rw [bne_iff_ne];omega
   have hE:=hid (HBad.out (.inr (.inl hlen)))
   clear hlen
   go_enter func46,ntmps46
   go_wp2_with fail
   go_quiet (fail)
   go_wp2_with fail
   go_quiet (fail)
   go_wp2
   go_ret3
   exact ⟨_,ret_nums hE.out.2,.inr ⟨rfl,hE.out.1⟩,below_drewN (Below.refl _ _) _,new_nil _⟩
 ·have h10':(10:Int)<(n0:Int):=by omega
  have hE:=hid (HBad.out (.inl h10))
  clear h10
  go_enter func46,ntmps46
  go_wp2_with fail
  go_quiet (fail)
  go_wp2_with fail
  go_quiet (fail)
  go_wp2
  go_ret3
  exact ⟨_,ret_nums hE.out.2,.inr ⟨rfl,hE.out.1⟩,below_drewN (Below.refl _ _) _,new_nil _⟩
theorem wnumsN_any (s:ByteArray) (w:World) (hs:s.size<=maxLen) :
  Calls prog 46 #[.string s] w fun e w'=>∃ v,e=.returned (.tuple #[v,.int .i64 (numsT s.data.toList),.int .i64 (numsE s.data.toList)])/\IntsIn w' v (numsL s.data.toList)/\Below w.heap.size w w'/\New w.heap.size v:=by
 by_cases h3:3<=s.size
 ·have e1:=getD_bytes s 1 (by omega)
  have e2:=getD_bytes s 2 (by omega)
  have e0:=getD_bytes s 0 (by omega)
  have hl:s.data.toList.length=s.size:=by simp
  have hcn:cnt s.data.toList=s[1].toNat*256+s[2].toNat:=by unfold cnt;rw [e1,e2]
  have q1:=byte_lt s[1]
  have q2:=byte_lt s[2]
  refine numbers_longN s w hs h3 s[0].toNat s[1].toNat s[2].toNat (s[1].toNat*256+s[2].toNat) rfl rfl rfl (byte_lt _) q1 q2 (or2 _ _ q1 q2) (by omega) ?_ ?_
  ·intro h
   refine nums_bad _ ?_
   unfold numsB
   rw [hcn,hl,e0,<- drop3 s]
   rcases h with h | h | h
   ·simp [h]
   ·simp [h]
   ·rw [h];simp
  ·intro h1 h2 h4
   have:=nums_good s.data.toList (by
    unfold numsB
    rw [hcn,hl,e0,<- drop3 s,h4,<- h2];simp [h1,h3])
   rw [hcn,e0,<- drop3 s] at this
   exact this
 ·exact numbers_shortN s w (by omega)
theorem numbersFN_any (s:ByteArray) (w:World) (hs:s.size<=maxLen) :
  Calls prog 29 #[.string s] w fun e w'=>∃ v,e=.returned (.tuple #[v,.int .i64 (numsT s.data.toList),.int .i64 (numsE s.data.toList)])/\IntsIn w' v (numsL s.data.toList)/\Below w.heap.size w w'/\New w.heap.size v:=by
 go_enter func29,ntmps29
 go_wp2_with (go_at_call 46;refine (wnumsN_any s _ hs).mono ?_;rintro e w' ⟨v,rfl,hi,hb,hnew⟩)
 go_ret3
 exact ⟨_,rfl,hi,hb,hnew⟩
end
end
end Go.Proofs.YtalncjhldkcmaaaGreat
