import Derived.Test.YtalncjhldkcmaaaGreatRows
import Derived.WalkKit
import Derived.WalkSpells
import Derived.WalkLawsBesides
import Derived.Deep.QuietTactic
import Derived.BigQuiet
import Derived.Laws.BitsLemmas
import Derived.Laws.IdiomStrings
import Derived.Deep.RegionWith
import Derived.Deep.DeepCutAuto
import Derived.Laws.OwnMore
namespace Go.Proofs.YtalncjhldkcmaaaGreat
open _root_.Go.Proofs.Tryz
theorem nlr {n:Nat}:n<=n:=Nat.le_refl n
open Go.RowKit in
theorem bal {w:World} {o:Obj}:Below w.heap.size w (w.alloc o):=(Below.refl _ _).alloc (Nat.le_refl _) _
theorem bnf {a b:Int}:(a == b)=false↔a≠b:=beq_eq_false_iff_ne
set_option maxHeartbeats 16000000
set_option maxRecDepth 8000
section
open Go.RowKit
def lo (f:Nat):Int:=if f=5\/f=6 then 0 else 1
def hi (f:Nat):Int:=if f=0\/f=1 then 999 else if f=2 then 99 else if f=3 then 1000000 else if f=4 then 9 else if f=7 then 5 else if f=8 then 3 else 4
def off (f:Nat):Nat:=if f<8 then f+1 else 8
theorem lt9 {f:Nat} (h:f<9):f=0\/f=1\/f=2\/f=3\/f=4\/f=5\/f=6\/f=7\/f=8:=by omega
theorem limits_any (f:Nat) (hf:f<9) (w:World) :
  Calls prog 100 #[.int .i64 f] w fun e w'=>e=.returned (.tuple #[.int .i64 (lo f),.int .i64 (hi f)])/\w'=w:=by
 rcases lt9 hf with rfl | rfl | rfl | rfl | rfl | rfl | rfl | rfl | rfl
 all_goals
  go_enter func100,ntmps100
  go_wp2
  go_ret2
  exact ⟨rfl,rfl⟩
def okB (f:Nat) (n:Int):Bool:=decide (lo f<=n)&&decide (n<=hi f)
theorem allows_any (f:Nat) (hf:f<9) (n:Int) (w:World) :
  Calls prog 66 #[.int .i64 f,.int .i64 n] w fun e w'=>e=.returned (.bool (okB f n))/\w'=w:=by
 by_cases h1:lo f<=n
 ·go_enter func66,ntmps66
  go_wp2_with (go_at_call 100;refine (limits_any f hf _).mono ?_;rintro e w' ⟨rfl,rfl⟩)
  go_ret
  exact ⟨by simp [okB,h1],rfl⟩
 ·have h1':decide (lo f<=n)=false:=by simpa using h1
  go_enter func66,ntmps66
  go_wp2_with (go_at_call 100;refine (limits_any f hf _).mono ?_;rintro e w' ⟨rfl,rfl⟩)
  go_ret
  exact ⟨by simp [okB,h1'],rfl⟩
theorem of_any (f:Nat) (hf:f<9) (b:Nat) (w:World) :
  Calls prog 65 #[.int .i64 f,.pointer (some ⟨b,0,none⟩)] w fun e w'=>e=.returned (.pointer (some ⟨b,off f,none⟩))/\w'=w:=by
 rcases lt9 hf with rfl | rfl | rfl | rfl | rfl | rfl | rfl | rfl | rfl
 all_goals
  go_enter func65,ntmps65
  go_wp2
  go_ret
  exact ⟨rfl,rfl⟩
end
section
open Go.RowKit
theorem hid {p:Prop} (h:p):Hid p:=h
def numB (l:List UInt8) (j:Nat):Nat:=(l.getD j 0).toNat*16777216+(l.getD (j+1) 0).toNat*65536+(l.getD (j+2) 0).toNat*256+(l.getD (j+3) 0).toNat
theorem byte_lt (b:UInt8):b.toNat<256:=b.toNat_lt
theorem numB_lt (l:List UInt8) (j:Nat):numB l j<4294967296:=by
 have:=byte_lt (l.getD j 0);have:=byte_lt (l.getD (j+1) 0);have:=byte_lt (l.getD (j+2) 0);have:=byte_lt (l.getD (j+3) 0)
 unfold numB;omega
theorem wraps32 (n:Int) (h0:0<=n) (h1:n<2 ^ 32):IntKind.u32.wrap n=n:=by
 simp only [IntKind.wrap,IntKind.bits,IntKind.signed];simp;omega
theorem or4 (a b c d:Nat) (ha:a<256) (hb:b<256) (hc:c<256) (hd:d<256) :
  bits BinOp.or IntKind.u32 (bits BinOp.or IntKind.u32 (bits BinOp.or IntKind.u32 ((a:Int) % 4294967296*16777216 % 4294967296) ((b:Int) % 4294967296*65536 % 4294967296)) ((c:Int) % 4294967296*256 % 4294967296)) ((d:Int) % 4294967296)
   = ((a*16777216+b*65536+c*256+d:Nat):Int):=by
 have e1:(a:Int) % 4294967296*16777216 % 4294967296=((a*16777216:Nat):Int):=by omega
 have e2:(b:Int) % 4294967296*65536 % 4294967296=((b*65536:Nat):Int):=by omega
 have e3:(c:Int) % 4294967296*256 % 4294967296=((c*256:Nat):Int):=by omega
 have e4:(d:Int) % 4294967296=((d:Nat):Int):=by omega
 rw [e1,e2,e3,e4]
 rw [bits_join .u32 32 (by decide) wraps32 24 ((a*16777216:Nat):Int) ((b*65536:Nat):Int) (by omega) (by omega) (by omega) (by omega) (by omega) (by omega)]
 rw [bits_join .u32 32 (by decide) wraps32 16 (((a*16777216:Nat):Int)+((b*65536:Nat):Int)) ((c*256:Nat):Int) (by omega) (by omega) (by omega) (by omega) (by omega) (by omega)]
 rw [bits_join .u32 32 (by decide) wraps32 8 (((a*16777216:Nat):Int)+((b*65536:Nat):Int)+((c*256:Nat):Int)) (d:Int) (by omega) (by omega) (by omega) (by omega) (by omega) (by omega)]
 omega
theorem getD_bytes (s:ByteArray) (j:Nat) (h:j<s.size):s.data.toList.getD j 0=s[j]:=by
 have h':j<s.data.toList.length:=by simpa using h
 rw [List.getD_eq_getElem?_getD,List.getElem?_eq_getElem h'];rfl
theorem cut_bytes (s:ByteArray) (i k:Nat) (hi:4*i+4<=s.size) (hk:k<4) (h:k<((s.extract (i*4) s.size).extract 0 4).size) :
  ((s.extract (i*4) s.size).extract 0 4)[k]=s.data.toList.getD (4*i+k) 0:=by
 rw [getD_bytes s (4*i+k) (by omega)]
 simp [ByteArray.getElem_extract,Nat.mul_comm]
theorem ret_int {k:IntKind} {a b:Int} (h:a=b):Ending.returned (.int k a)=.returned (.int k b):=by rw [h]
theorem numberAt_any (s:ByteArray) (i:Nat) (w:World) (hs:s.size<=maxLen) (hi:4*i+4<=s.size) :
  Calls prog 69 #[.string s,.int .i64 i] w fun e w'=>e=.returned (.int .u32 (numB s.data.toList (4*i):Nat))/\∃ n,w'=w.drewN n:=by
 unfold maxLen at hs
 go_enter func69,ntmps69
 go_wp2_with fail
 have hsz:4<=((s.extract (i*4) s.size).extract 0 4).size:=by simp;omega
 have hcut:=fun k hk h=>cut_bytes s i k hi hk h
 have HC:=hid hcut
 clear hcut
 generalize (s.extract (i*4) s.size).extract 0 4=b at *
 have g0:0<b.size:=by omega
 have g1:(1:Int)<(b.size:Int):=by omega
 have g2:(2:Int)<(b.size:Int):=by omega
 have g3:(3:Int)<(b.size:Int):=by omega
 go_quiet (fail)
 go_wp2
 go_ret
 refine ⟨ret_int ?_,_,rfl⟩
 rw [or4 _ _ _ _ (byte_lt _) (byte_lt _) (byte_lt _) (byte_lt _)]
 have HC':=HC.out
 rw [HC' 0 (by omega) (by omega),HC' 1 (by omega) (by omega),HC' 2 (by omega) (by omega),HC' 3 (by omega) (by omega)]
 rfl
def be4 (v:Nat):List UInt8:=[UInt8.ofNat (v / 16777216),UInt8.ofNat (v / 65536),UInt8.ofNat (v / 256),UInt8.ofNat v]
def byteCells (l:List UInt8):List Value:=l.map fun (b:UInt8)=>Value.int .u8 (b.toNat:Int)
theorem Tryz.infoByte:(prog.info? 5).map (fun i=>(i.zero,i.size,i.bytes))=some (some (.int .u8 0),1,1):=by kernel_rfl
theorem be4_cells (v:Nat) (hv:v<4294967296):byteCells (be4 v)=[Value.int .u8 ((v:Int) / 16777216),Value.int .u8 ((v:Int) / 65536 % 256),Value.int .u8 ((v:Int) / 256 % 256),Value.int .u8 ((v:Int) % 256)]:=by
 simp only [byteCells,be4,List.map,UInt8.toNat_ofNat']
 have e0:((v % 2 ^ 8:Nat):Int)=(v:Int) % 256:=by omega
 have e1:((v / 256 % 2 ^ 8:Nat):Int)=(v:Int) / 256 % 256:=by omega
 have e2:((v / 65536 % 2 ^ 8:Nat):Int)=(v:Int) / 65536 % 256:=by omega
 have e3:((v / 16777216 % 2 ^ 8:Nat):Int)=(v:Int) / 16777216:=by omega
 rw [e0,e1,e2,e3]
theorem appendNumber_any (B n v:Nat) (hv:v<4294967296) (sv:Value) (xs:List Value) (w:World) (hown:w.ownsRow B 5 1 sv n xs) (hBw:B<=w.heap.size) (hlim:n+4<=140737488355328) :
  Calls prog 67 #[sv,.int .u32 v] w fun e w'=>∃ v',e=.returned v'/\w'.ownsRow B 5 1 v' (n+4) (xs++byteCells (be4 v))/\Below B w w':=by
 obtain ⟨i0,hi,hz0,hz1,hz2⟩:=info_parts Tryz.infoByte
 have hb:=be4_cells v hv
 have HB:=hid hb
 clear hb
 go_enter func67,ntmps67
 go_wp2_with (at_builtin;refine wpList_append_own _ rfl _ _ 51 rfl B 5 i0 (.int .u8 0) 1 1 underlying51 hi hz0 hz1 hz2 rfl (by decide) _ _ _ rfl (hown.alloc _) _ 4 4 [Value.int .u8 ((v:Int) / 16777216),Value.int .u8 ((v:Int) / 65536 % 256),Value.int .u8 ((v:Int) / 256 % 256),Value.int .u8 ((v:Int) % 256)] rfl rfl ?c1 ?c2 ?c3 ?c4 ?c5 ?_)
 case c1 =>
  intro j u hj
  match j,hj with
  | 0,hj=>simp at hj;subst hj;simp [Addr.add]
  | 1,hj=>simp at hj;subst hj;simp [Addr.add]
  | 2,hj=>simp at hj;subst hj;simp [Addr.add]
  | 3,hj=>simp at hj;subst hj;simp [Addr.add]
 case c2=>intro u hu;simp at hu;rcases hu with rfl | rfl | rfl | rfl <;> rfl
 case c3=>unfold maxLen;omega
 case c4=>omega
 case c5=>simp;omega
 intro v' w2 hown' hgrow _
 go_wp2
 go_ret
 refine ⟨v',rfl,by rw [HB.out];exact hown',?_⟩
 exact (((Below.refl B w).alloc hBw _).grown hgrow (by simp;omega) (fun k hk=>(hown.lt k hk).1))
end
section
def n8 (n:Nat):List UInt8:=[UInt8.ofNat (n / 72057594037927936),UInt8.ofNat (n / 281474976710656),UInt8.ofNat (n / 1099511627776),UInt8.ofNat (n / 4294967296),UInt8.ofNat (n / 16777216),UInt8.ofNat (n / 65536),UInt8.ofNat (n / 256),UInt8.ofNat n]
def rd8 (l:List UInt8):Nat:=(l.take 8).foldl (fun n b=>n*256+b.toNat) 0
theorem n8_len (n:Nat):(n8 n).length=8:=rfl
theorem rd8_n8 {n:Nat} (h:n<18446744073709551616) (l:List UInt8):rd8 (n8 n++l)=n:=by
 simp only [rd8,n8,List.cons_append,List.take_succ_cons,List.take_zero,List.foldl_cons,List.foldl_nil,UInt8.toNat_ofNat',List.nil_append]
 omega
theorem rd8_lt (l:List UInt8):rd8 l<18446744073709551616:=by
 have key:∀ (k:Nat) (l:List UInt8),l.length<=k->∀ a:Nat,l.foldl (fun n b=>n*256+b.toNat) a<(a+1)*256 ^ k:=by
  intro k
  induction k with
  | zero=>intro l hl a;cases l with
   | nil=>simp
   | cons b l=>simp at hl
  | succ k ih =>
   intro l hl a
   cases l with
   | nil =>
    simp only [List.foldl_nil]
    have:1<=256 ^ (k+1):=Nat.pos_of_ne_zero (by simp)
    calc a<a+1:=by omega
     _=(a+1)*1:=by omega
     _<=(a+1)*256 ^ (k+1):=Nat.mul_le_mul_left _ this
   | cons b l =>
    simp only [List.foldl_cons]
    have h1:=ih l (by simpa using hl) (a*256+b.toNat)
    have h2:b.toNat<256:=b.toNat_lt
    refine Nat.lt_of_lt_of_le h1 ?_
    rw [Nat.pow_succ,<- Nat.mul_assoc,Nat.mul_right_comm]
    exact Nat.mul_le_mul_right _ (by omega)
 have:=key 8 (l.take 8) (by simp;omega) 0
 simpa [rd8] using this
def sumS (s:Nat) (b:UInt8):Nat:=(s+b.toNat+1)*1099511628211 % 18446744073709551616
theorem sumS_lt (s:Nat) (b:UInt8):sumS s b<18446744073709551616:=Nat.mod_lt _ (by decide)
def sumN (l:List UInt8):Nat:=l.foldl sumS 0
theorem sumN_lt (l:List UInt8):sumN l<18446744073709551616:=by
 have:∀ (l:List UInt8) (a:Nat),a<18446744073709551616->l.foldl sumS a<18446744073709551616:=by
  intro l
  induction l with
  | nil=>intro a h;exact h
  | cons b l ih=>intro a _;exact ih _ (sumS_lt _ _)
 exact this l 0 (by decide)
def headB (t n s:Nat):List UInt8:=n8 t++n8 n++n8 s++List.replicate 96 0++n8 t
theorem headB_len (t n s:Nat):(headB t n s).length=128:=by simp [headB,n8_len]
def cutB (img:List UInt8) (o k:Nat):List UInt8:=(img.drop o).take k
theorem cutB_len {img:List UInt8} {o k:Nat} (h:o+k<=img.length):(cutB img o k).length=k:=by simp [cutB];omega
theorem cutB_get {img:List UInt8} {o k i:Nat} (hi:i<k):(cutB img o k)[i]? = img[o+i]?:=by
 simp [cutB,hi]
theorem cutB_eq {a b:List UInt8} {o k:Nat} (h:∀ i,o<=i->i<o+k->a[i]? = b[i]?):cutB a o k=cutB b o k:=by
 apply List.ext_getElem?
 intro i
 by_cases hi:i<k
 ·rw [cutB_get hi,cutB_get hi];exact h _ (by omega) (by omega)
 ·have:∀ l:List UInt8,(cutB l o k)[i]? = none:=fun l=>by
   rw [List.getElem?_eq_none_iff];simp [cutB];omega
  rw [this,this]
def putB (img:List UInt8) (o:Nat) (d:List UInt8):List UInt8:=img.take o++d++img.drop (o+d.length)
theorem putB_len {img:List UInt8} {o:Nat} {d:List UInt8} (h:o+d.length<=img.length):(putB img o d).length=img.length:=by simp [putB];omega
theorem putB_get {img:List UInt8} {o:Nat} {d:List UInt8} (h:o+d.length<=img.length) (i:Nat):(putB img o d)[i]? = if i<o then img[i]? else if i<o+d.length then d[i - o]? else img[i]?:=by
 have h1:(img.take o).length=o:=by simp;omega
 unfold putB
 rw [List.append_assoc]
 split
 ·rw [List.getElem?_append_left (by omega),List.getElem?_take,if_pos (by assumption)]
 ·rw [List.getElem?_append_right (by omega),h1]
  split
  ·rw [List.getElem?_append_left (by omega)]
  ·rw [List.getElem?_append_right (by omega),List.getElem?_drop]
   congr 1
   omega
def markO (n h:Nat):Nat:=(h*(n / 2)+1)*128 - 1
def newH (img:List UInt8) (n:Nat):Nat:=if img.getD (markO n 1) 0=img.getD (markO n 0) 0+1 then 1 else 0
def findD (img:List UInt8):Option (Nat×List UInt8) :=
 let n:=img.length / 128
 if img.length % 128≠0\/n<16\/256<n then none else
 let h:=newH img n
 let sec:=cutB img (h*(n / 2)*128) 128
 let t:=rd8 sec
 let k:=rd8 (sec.drop 8)
 let s:=rd8 (sec.drop 16)
 if headB t k s≠sec\/t % 2≠h\/(n / 2 - 1)*128<k then none else
 let x:=cutB img ((h*(n / 2)+1)*128) k
 if sumN x≠s then none else some (t,x)
structure Holds (img:List UInt8) (n t:Nat) (x:List UInt8):Prop where
 len:img.length=n*128
 n1:16<=n/\n<=256
 t1:t<18446744073709551616
 new:newH img n=t % 2
 head:cutB img (t % 2*(n / 2)*128) 128=headB t x.length (sumN x)
 room:x.length<=(n / 2 - 1)*128
 text:cutB img ((t % 2*(n / 2)+1)*128) x.length=x
theorem Holds.find {img:List UInt8} {n t:Nat} {x:List UInt8} (h:Holds img n t x):findD img=some (t,x):=by
 have hn:=h.n1
 have hr:=h.room
 have e1:img.length / 128=n:=by rw [h.len];omega
 have e2:img.length % 128=0:=by rw [h.len];omega
 have hx:x.length<18446744073709551616:=by
  have:n / 2 - 1<=127:=by omega
  have:=Nat.mul_le_mul_right 128 this;omega
 have r1:rd8 (headB t x.length (sumN x))=t:=by rw [headB,List.append_assoc,List.append_assoc,List.append_assoc];exact rd8_n8 h.t1 _
 have d1:(headB t x.length (sumN x)).drop 8=n8 x.length++(n8 (sumN x)++(List.replicate 96 0++n8 t)):=by simp [headB,n8]
 have d2:(headB t x.length (sumN x)).drop 16=n8 (sumN x)++(List.replicate 96 0++n8 t):=by simp [headB,n8]
 have r2:rd8 ((headB t x.length (sumN x)).drop 8)=x.length:=by rw [d1];exact rd8_n8 hx _
 have r3:rd8 ((headB t x.length (sumN x)).drop 16)=sumN x:=by rw [d2];exact rd8_n8 (sumN_lt x) _
 have hh:=h.head
 have ht:=h.text
 unfold findD
 simp only [e1,e2,h.new]
 rw [if_neg (by omega)]
 simp only [hh,r1,r2,r3]
 rw [if_neg (by simp;omega)]
 simp only [ht]
 rw [if_neg (by simp)]
theorem last_head (t k s:Nat):(headB t k s)[127]? = some (UInt8.ofNat t):=by
 unfold headB
 rw [List.getElem?_append_right (by simp [n8_len])]
 simp [n8]
theorem Holds.mark {img:List UInt8} {n t:Nat} {x:List UInt8} (h:Holds img n t x):img[markO n (t % 2)]? = some (UInt8.ofNat t):=by
 have hn:=h.n1
 have h1:(cutB img (t % 2*(n / 2)*128) 128)[127]? = some (UInt8.ofNat t):=by rw [h.head];exact last_head _ _ _
 rw [cutB_get (by omega)] at h1
 rw [<- h1]
 congr 1
 simp only [markO]
 omega
theorem Holds.same {img img':List UInt8} {n t:Nat} {x:List UInt8} (h:Holds img n t x) (hl:img'.length=img.length)
  (hs:∀ i,t % 2*(n / 2)*128<=i->i<(t % 2*(n / 2)+n / 2)*128->img'[i]? = img[i]?)
  (hm:img'[markO n ((t+1) % 2)]? = img[markO n ((t+1) % 2)]?):Holds img' n t x:=by
 have hn:=h.n1
 have hr:=h.room
 have hm':img'[markO n (t % 2)]? = img[markO n (t % 2)]?:=hs _ (by simp only [markO];omega) (by simp only [markO];omega)
 have hb:∀ k,k<2->img'[markO n k]? = img[markO n k]?:=fun k hk=>by
  by_cases e:k=t % 2
  ·rw [e];exact hm'
  ·have:k=(t+1) % 2:=by omega
   rw [this];exact hm
 refine ⟨by rw [hl,h.len],h.n1,h.t1,?_,?_,h.room,?_⟩
 ·rw [<- h.new]
  simp only [newH,List.getD_eq_getElem?_getD,hb 1 (by omega),hb 0 (by omega)]
 ·rw [<- h.head]
  exact cutB_eq (fun i h1 h2=>hs i h1 (by omega))
 ·refine Eq.trans (cutB_eq (fun i h1 h2=>hs i (by omega) ?_)) h.text
  have:(t % 2*(n / 2)+n / 2)*128=(t % 2*(n / 2)+1)*128+(n / 2 - 1)*128:=by omega
  omega
theorem ofNat_succ (t:Nat):UInt8.ofNat (t+1)=UInt8.ofNat t+1:=by
 apply UInt8.toNat.inj
 simp [UInt8.toNat_ofNat',UInt8.toNat_add]
theorem ofNat_mod (t:Nat):UInt8.ofNat (t % 18446744073709551616)=UInt8.ofNat t:=by
 apply UInt8.toNat.inj
 simp only [UInt8.toNat_ofNat']
 omega
theorem ofNat_two (t:Nat):¬ UInt8.ofNat t=UInt8.ofNat t+1+1:=by
 intro h
 have:=congrArg UInt8.toNat h
 simp only [UInt8.toNat_ofNat',UInt8.toNat_add] at this
 have e:(1:UInt8).toNat=1:=rfl
 rw [e] at this
 omega
def nextT (t:Nat):Nat:=(t+1) % 18446744073709551616
theorem nextT_par (t:Nat):nextT t % 2=(t+1) % 2:=by unfold nextT;omega
theorem nextT_lt (t:Nat):nextT t<18446744073709551616:=Nat.mod_lt _ (by decide)
theorem Holds.next {img img':List UInt8} {n t:Nat} {x y:List UInt8} (h:Holds img n t x) (hl:img'.length=img.length) (hy:y.length<=(n / 2 - 1)*128)
  (hs:∀ i,t % 2*(n / 2)*128<=i->i<t % 2*(n / 2)*128+128->img'[i]? = img[i]?)
  (hh:cutB img' ((t+1) % 2*(n / 2)*128) 128=headB (nextT t) y.length (sumN y))
  (ht:cutB img' (((t+1) % 2*(n / 2)+1)*128) y.length=y):Holds img' n (nextT t) y:=by
 have hn:=h.n1
 have hm:img'[markO n (t % 2)]? = some (UInt8.ofNat t):=by
  rw [<- h.mark];exact hs _ (by simp only [markO];omega) (by simp only [markO];omega)
 have hm2:img'[markO n ((t+1) % 2)]? = some (UInt8.ofNat t+1):=by
  have h1:(cutB img' ((t+1) % 2*(n / 2)*128) 128)[127]? = some (UInt8.ofNat (nextT t)):=by rw [hh];exact last_head _ _ _
  rw [cutB_get (by omega)] at h1
  rw [nextT,ofNat_mod,ofNat_succ] at h1
  rw [<- h1]
  congr 1
  simp only [markO]
  omega
 refine ⟨by rw [hl,h.len],h.n1,nextT_lt t,?_,by rw [nextT_par];exact hh,hy,by rw [nextT_par];exact ht⟩
 rw [nextT_par]
 by_cases e:t % 2=0
 ·have e2:(t+1) % 2=1:=by omega
  rw [e] at hm;rw [e2] at hm2
  rw [e2]
  simp only [newH,List.getD_eq_getElem?_getD,hm,hm2]
  simp
 ·have e1:t % 2=1:=by omega
  have e2:(t+1) % 2=0:=by omega
  rw [e1] at hm;rw [e2] at hm2
  rw [e2]
  simp only [newH,List.getD_eq_getElem?_getD,hm,hm2,Option.getD_some]
  rw [if_neg (ofNat_two t)]
theorem holds_zero {n:Nat} (h1:16<=n) (h2:n<=256):Holds (List.replicate (n*128) 0) n 0 []:=by
 refine ⟨by simp,⟨h1,h2⟩,by decide,?_,?_,by simp,by simp [cutB]⟩
 ·have g:∀ k,(List.replicate (n*128) (0:UInt8)).getD k 0=0:=fun k=>by
   rw [List.getD_eq_getElem?_getD,List.getElem?_replicate];split <;> rfl
  simp only [newH,g]
  decide
 ·have:cutB (List.replicate (n*128) (0:UInt8)) (0 % 2*(n / 2)*128) 128=List.replicate 128 0:=by
   simp only [cutB,List.drop_replicate,List.take_replicate]
   congr 1
   omega
  rw [this]
  decide
def pieces (x:List UInt8):Nat:=(x.length+127) / 128
def piece (x:List UInt8) (i:Nat):List UInt8:=cutB x (i*128) 128++List.replicate (128 - (cutB x (i*128) 128).length) 0
theorem piece_len (x:List UInt8) (i:Nat):(piece x i).length=128:=by
 simp [piece,cutB];omega
abbrev WN:=Int×List UInt8
def textW (f:Nat) (x:List UInt8):List WN:=(List.range (pieces x)).map fun i=>(((f+1+i:Nat):Int),piece x i)
def keepW (n t:Nat) (x:List UInt8):List WN:=textW (nextT t % 2*(n / 2)) x++[(-1,[]),(((nextT t % 2*(n / 2):Nat):Int),headB (nextT t) x.length (sumN x)),(-1,[])]
end
section
def mkW (img:List UInt8) (w:WN) (k:Nat):List UInt8:=if 0<=w.1 then putB img (w.1.toNat*128) (w.2.take k) else img
def allW (img:List UInt8) (ws:List WN):List UInt8:=ws.foldl (fun a w=>mkW a w 128) img
theorem allW_append (img:List UInt8) (a b:List WN):allW img (a++b)=allW (allW img a) b:=by simp [allW]
def textWk (f:Nat) (x:List UInt8) (k:Nat):List WN:=(List.range k).map fun i=>(((f+1+i:Nat):Int),piece x i)
theorem textWk_succ (f:Nat) (x:List UInt8) (k:Nat):textWk f x (k+1)=textWk f x k++[(((f+1+k:Nat):Int),piece x k)]:=by simp [textWk,List.range_succ]
theorem textW_eq (f:Nat) (x:List UInt8):textW f x=textWk f x (pieces x):=rfl
theorem mkW_pos (img:List UInt8) (s:Nat) (d:List UInt8) (k:Nat):mkW img ((s:Int),d) k=putB img (s*128) (d.take k):=by
 simp [mkW]
theorem mkW_flush (img d:List UInt8) (k:Nat):mkW img (-1,d) k=img:=by simp [mkW]
theorem piece_get {x:List UInt8} {i j:Nat} (hj:j<128) (h:i*128+j<x.length):(piece x i)[j]? = x[i*128+j]?:=by
 have h1:j<(cutB x (i*128) 128).length:=by simp [cutB];omega
 rw [piece,List.getElem?_append_left h1,cutB_get hj]
theorem mkW_out {img d:List UInt8} {s k:Nat} (hd:d.length=128) (hs:(s+1)*128<=img.length) :
  (mkW img ((s:Int),d) k).length=img.length/\∀ i,(i<s*128\/s*128+min k 128<=i)->(mkW img ((s:Int),d) k)[i]? = img[i]?:=by
 have hl:(d.take k).length=min k 128:=by simp [hd]
 rw [mkW_pos]
 refine ⟨putB_len (by rw [hl];omega),fun i hi => ?_⟩
 rw [putB_get (by rw [hl];omega),hl]
 rcases hi with hi | hi
 ·rw [if_pos hi]
 ·rw [if_neg (by omega),if_neg (by omega)]
theorem mkW_in {img d:List UInt8} {s k i:Nat} (hd:d.length=128) (hs:(s+1)*128<=img.length) (hi:i<k) (hi2:i<128):(mkW img ((s:Int),d) k)[s*128+i]? = d[i]?:=by
 have hl:(d.take k).length=min k 128:=by simp [hd]
 rw [mkW_pos,putB_get (by rw [hl];omega),if_neg (by omega),hl,if_pos (by omega),Nat.add_sub_cancel_left,List.getElem?_take,if_pos hi]
theorem text_put (img:List UInt8) (f:Nat) (y:List UInt8) (k:Nat) (hl:(f+1+k)*128<=img.length) :
  (allW img (textWk f y k)).length=img.length/\(∀ i,i<(f+1)*128\/(f+1+k)*128<=i->(allW img (textWk f y k))[i]? = img[i]?) /\
  ∀ j,j<y.length->j<k*128->(allW img (textWk f y k))[(f+1)*128+j]? = y[j]?:=by
 induction k with
 | zero=>exact ⟨rfl,fun _ _=>rfl,fun j _ h=>by omega⟩
 | succ k ih =>
  obtain ⟨h1,h2,h3⟩:=ih (by omega)
  rw [textWk_succ,allW_append]
  have e:allW (allW img (textWk f y k)) [(((f+1+k:Nat):Int),piece y k)]=mkW (allW img (textWk f y k)) (((f+1+k:Nat):Int),piece y k) 128:=rfl
  rw [e]
  obtain ⟨g1,g2⟩:=mkW_out (img:=allW img (textWk f y k)) (d:=piece y k) (s:=f+1+k) (k:=128) (piece_len y k) (by rw [h1];omega)
  refine ⟨by rw [g1,h1],fun i hi => ?_,fun j hj hk => ?_⟩
  ·rw [g2 i (by omega)];exact h2 i (by omega)
  ·by_cases hj2:j<k*128
   ·rw [g2 _ (by omega)];exact h3 j hj hj2
   ·have e2:(f+1)*128+j=(f+1+k)*128+(j - k*128):=by omega
    rw [e2,mkW_in (piece_len y k) (by rw [h1];omega) (by omega) (by omega),piece_get (by omega) (by omega)]
    congr 1
    omega
theorem pieces_le {y:List UInt8} {n:Nat} (h:y.length<=(n / 2 - 1)*128):pieces y<=n / 2 - 1:=by unfold pieces;omega
theorem pieces_all (y:List UInt8):y.length<=pieces y*128:=by unfold pieces;omega
theorem half_in {n t:Nat}:(t % 2*(n / 2)+n / 2)*128<=n*128:=by
 have:t % 2=0\/t % 2=1:=by omega
 rcases this with e | e <;> rw [e] <;> omega
theorem half_apart {n t i:Nat}:(i<t % 2*(n / 2)*128\/(t % 2*(n / 2)+n / 2)*128<=i)\/i<(t+1) % 2*(n / 2)*128\/((t+1) % 2*(n / 2)+n / 2)*128<=i:=by
 have:t % 2=0\/t % 2=1:=by omega
 rcases this with e | e
 ·have e2:(t+1) % 2=1:=by omega
  rw [e,e2];omega
 ·have e2:(t+1) % 2=0:=by omega
  rw [e,e2];omega
theorem keep_all {img:List UInt8} {n t:Nat} {x y:List UInt8} (h:Holds img n t x) (hy:y.length<=(n / 2 - 1)*128):Holds (allW img (keepW n t y)) n (nextT t) y:=by
 have hn:=h.n1
 have hp:=pieces_le hy
 have ha:=pieces_all y
 have hin:=half_in (n:=n) (t:=t+1)
 have hlen:=h.len
 unfold keepW
 rw [nextT_par,textW_eq,allW_append]
 obtain ⟨g1,g2,g3⟩:=text_put img ((t+1) % 2*(n / 2)) y (pieces y) (by omega)
 have e:allW (allW img (textWk ((t+1) % 2*(n / 2)) y (pieces y))) [(-1,[]),((((t+1) % 2*(n / 2):Nat):Int),headB (nextT t) y.length (sumN y)),(-1,[])]=mkW (allW img (textWk ((t+1) % 2*(n / 2)) y (pieces y))) ((((t+1) % 2*(n / 2):Nat):Int),headB (nextT t) y.length (sumN y)) 128:=rfl
 rw [e]
 generalize allW img (textWk ((t+1) % 2*(n / 2)) y (pieces y))=img1 at *
 have hd:=headB_len (nextT t) y.length (sumN y)
 obtain ⟨m1,m2⟩:=mkW_out (img:=img1) (s:=(t+1) % 2*(n / 2)) (k:=128) hd (by omega)
 refine h.next (by omega) hy (fun i h1 h2 => ?_) ?_ ?_
 ·have:=half_apart (n:=n) (t:=t) (i:=i)
  rw [m2 i (by omega),g2 i (by omega)]
 ·apply List.ext_getElem?
  intro i
  by_cases hi:i<128
  ·rw [cutB_get hi,mkW_in hd (by omega) hi hi]
  ·rw [List.getElem?_eq_none (by rw [cutB_len (by omega)];omega),List.getElem?_eq_none (by omega)]
 ·apply List.ext_getElem?
  intro i
  by_cases hi:i<y.length
  ·rw [cutB_get hi,m2 _ (by omega),g3 i hi (by omega)]
  ·rw [List.getElem?_eq_none (by rw [cutB_len (by omega)];omega),List.getElem?_eq_none (by omega)]
def fitsW (n:Nat) (ws:List WN):Prop:=(∀ w∈ws,w.1 = -1\/(0<=w.1/\w.1<n/\w.2.length=128))/\∀ w,ws.getLast? = some w->w.1 = -1
theorem keep_fits {n t:Nat} {y:List UInt8} (hn:16<=n) (hy:y.length<=(n / 2 - 1)*128):fitsW n (keepW n t y):=by
 have hp:=pieces_le hy
 have hin:=half_in (n:=n) (t:=t+1)
 refine ⟨fun w hw => ?_,fun w hw => ?_⟩
 ·unfold keepW at hw
  rw [nextT_par,textW_eq] at hw
  rcases List.mem_append.1 hw with hw | hw
  ·obtain ⟨i,hi,rfl⟩:=List.mem_map.1 hw
   have:=List.mem_range.1 hi
   exact .inr ⟨by simp only;omega,by simp only;omega,piece_len y i⟩
  ·simp only [List.mem_cons,List.not_mem_nil,or_false] at hw
   rcases hw with rfl | rfl | rfl
   ·exact .inl rfl
   ·exact .inr ⟨by simp only;omega,by simp only;omega,headB_len _ _ _⟩
   ·exact .inl rfl
 ·unfold keepW at hw
  rw [List.getLast?_append] at hw
  simp at hw
  rw [<- hw]
end
section
open Go.RowKit
def flds (k:Int):List Nat :=
 if k=1 then [4,7] else if k=2 then [0,2,3,4,5,6] else if k=3\/k=8 then [0,4,5,6] else if k=4 then [0,1,3,4,5,6]
 else if k=5 then [0,1,3] else if k=6 then [0,3] else if k=7\/k=12\/k=15\/k=16 then [0] else if k=9\/k=14 then [2]
 else if k=10 then [4,8] else if k=11\/k=13 then [4] else []
theorem kinds {k:Int} (h1:1<=k) (h2:k<=16):k=1\/k=2\/k=3\/k=4\/k=5\/k=6\/k=7\/k=8\/k=9\/k=10\/k=11\/k=12\/k=13\/k=14\/k=15\/k=16:=by omega
def codes (l:List Nat):List Value:=l.map fun (f:Nat)=>Value.int .i64 (f:Int)
theorem fieldsOf_yes (k:Int) (h1:1<=k) (h2:k<=16) (w:World) :
  Calls prog 64 #[.int .i64 k] w fun e w'=>e=.returned (.slice (some ⟨w.heap.size,0,none⟩) (flds k).length (flds k).length)/\w'=w.alloc (.cells (codes (flds k)).toArray 136):=by
 rcases kinds h1 h2 with rfl | rfl | rfl | rfl | rfl | rfl | rfl | rfl | rfl | rfl | rfl | rfl | rfl | rfl | rfl | rfl
 all_goals
  go_enter func64,ntmps64
  go_wp2
  go_ret
  exact ⟨rfl,rfl⟩
theorem fieldsOf_no (k:Int) (h:k<1\/16<k) (w:World) :
  Calls prog 64 #[.int .i64 k] w fun e w'=>e=.returned (.slice none 0 0)/\w'=w:=by
 rcases h with h | h
 all_goals
  go_enter func64,ntmps64
  go_wp2
  go_ret
  exact ⟨rfl,rfl⟩
end
section
open Go.RowKit
def Has (w:World) (b:Nat) (c:Nat->Int):Prop:=(∀ j,j<9->w.cell? ⟨b,j,none⟩=some (.int .i64 (c j)))/\∀ j,w.frozen? ⟨b,j,none⟩=false
def HasF (w:World) (b:Nat) (fs:List Nat):Prop:=∀ i (h:i<fs.length),w.cell? ⟨b,i,none⟩=some (.int .i64 (fs[i]:Nat))
def upd (c:Nat->Int) (j:Nat) (v:Int):Nat->Int:=fun i=>if i=j then v else c i
theorem Has.nine {w:World} {b:Nat} {c:Nat->Int} (h:Has w b c):w.cell? ⟨b,0,none⟩=some (.int .i64 (c 0))/\w.cell? ⟨b,1,none⟩=some (.int .i64 (c 1))/\w.cell? ⟨b,2,none⟩=some (.int .i64 (c 2))/\w.cell? ⟨b,3,none⟩=some (.int .i64 (c 3))/\w.cell? ⟨b,4,none⟩=some (.int .i64 (c 4))/\w.cell? ⟨b,5,none⟩=some (.int .i64 (c 5))/\w.cell? ⟨b,6,none⟩=some (.int .i64 (c 6))/\w.cell? ⟨b,7,none⟩=some (.int .i64 (c 7))/\w.cell? ⟨b,8,none⟩=some (.int .i64 (c 8)):=⟨h.1 0 (by omega),h.1 1 (by omega),h.1 2 (by omega),h.1 3 (by omega),h.1 4 (by omega),h.1 5 (by omega),h.1 6 (by omega),h.1 7 (by omega),h.1 8 (by omega)⟩
theorem Has.set {w:World} {b:Nat} {c:Nat->Int} (h:Has w b c) {j:Nat} (hj:j<9) (v:Int):Has (w.setCell ⟨b,j,none⟩ (.int .i64 v)) b (upd c j v):=by
 refine ⟨fun i hi => ?_,fun i=>by rw [World.frozen?_setCell];exact h.2 i⟩
 by_cases e:i=j
 ·subst e;rw [World.cell?_setCell_same (w:=w) (h:=h.1 i hi)];simp [upd]
 ·rw [World.cell?_setCell_other (w:=w) (h:=by intro h';injection h' with _ h2 _;exact e h2.symm)];rw [h.1 i hi];simp [upd,e]
theorem Has.below {w w':World} {b B:Nat} {c:Nat->Int} (h:Has w b c) (hb:Below B w w') (hB:b<B):Has w' b c :=
 ⟨fun i hi=>(hb.cell (by exact hB)).trans (h.1 i hi),fun i=>(hb.frozen (by exact hB)).trans (h.2 i)⟩
theorem Has.alloc {w:World} {b:Nat} {c:Nat->Int} (h:Has w b c) (hb:b<w.heap.size) (o:Obj):Has (w.alloc o) b c:=h.below ((Below.refl _ w).alloc nlr o) hb
theorem Has.new (w:World) (t:TypeId) (c:Nat->Int):Has (w.alloc (.cells #[.int .i64 (c 0),.int .i64 (c 1),.int .i64 (c 2),.int .i64 (c 3),.int .i64 (c 4),.int .i64 (c 5),.int .i64 (c 6),.int .i64 (c 7),.int .i64 (c 8)] t)) w.heap.size c:=by
 refine ⟨fun j hj => ?_,fun j=>by simp⟩
 rw [World.cell?_alloc_new]
 match j,hj with
 | 0,_=>rfl
 | 1,_=>rfl
 | 2,_=>rfl
 | 3,_=>rfl
 | 4,_=>rfl
 | 5,_=>rfl
 | 6,_=>rfl
 | 7,_=>rfl
 | 8,_=>rfl
 | n+9,h=>omega
theorem HasF.new (w:World) (t:TypeId) (fs:List Nat):HasF (w.alloc (.cells (codes fs).toArray t)) w.heap.size fs:=by
 intro i hi
 rw [World.cell?_alloc_new]
 simp [codes,hi]
theorem Has.congr {w:World} {b:Nat} {c d:Nat->Int} (h:Has w b c) (e:∀ j,j<9->c j=d j):Has w b d :=
 ⟨fun j hj=>by rw [<- e j hj];exact h.1 j hj,h.2⟩
theorem off_lt (f:Nat):off f<9:=by unfold off;split <;> omega
theorem off_pos (f:Nat):0<off f:=by unfold off;split <;> omega
def clr (c:Nat->Int) (fs:List Nat) (i:Nat):Int:=if i=0\/i∈fs.map off then 0 else c i
def moreB (c:Nat->Int) (fs:List Nat):Bool:=!((List.range 9).all fun i=>clr c fs i == 0)
theorem all9 {p:Nat->Prop}:(∀ i,i<9->p i)↔(p 0/\p 1/\p 2/\p 3/\p 4/\p 5/\p 6/\p 7/\p 8):=by
 constructor
 ·intro h;exact ⟨h 0 (by omega),h 1 (by omega),h 2 (by omega),h 3 (by omega),h 4 (by omega),h 5 (by omega),h 6 (by omega),h 7 (by omega),h 8 (by omega)⟩
 ·rintro ⟨h0,h1,h2,h3,h4,h5,h6,h7,h8⟩ i hi
  match i,hi with
  | 0,_=>exact h0
  | 1,_=>exact h1
  | 2,_=>exact h2
  | 3,_=>exact h3
  | 4,_=>exact h4
  | 5,_=>exact h5
  | 6,_=>exact h6
  | 7,_=>exact h7
  | 8,_=>exact h8
  | n+9,h=>omega
theorem more_t {c:Nat->Int} {fs:List Nat} (i:Nat) (h:i<9) (hne:¬ clr c fs i=0):moreB c fs=true:=by
 unfold moreB
 rw [Bool.not_eq_true',List.all_eq_false]
 exact ⟨i,List.mem_range.2 h,by simpa using hne⟩
theorem more_f {c:Nat->Int} {fs:List Nat} (h:∀ i,i<9->clr c fs i=0):moreB c fs=false:=by
 unfold moreB
 rw [Bool.not_eq_false',List.all_eq_true]
 intro i hi
 simpa using h i (List.mem_range.1 hi)
theorem ret_bool {a b:Bool} (h:b=a):Ending.returned (.bool a)=.returned (.bool b):=by rw [h]
end
section
open Go.RowKit
def frameL (c:Nat->Int) (fs:List Nat):List UInt8:=UInt8.ofNat (c 0).toNat::fs.flatMap fun f=>be4 (c (off f)).toNat
def okAll (c:Nat->Int) (fs:List Nat):Bool:=fs.all fun f=>okB f (c (off f))
def encB (c:Nat->Int):Bool:=decide (1<=c 0)&&decide (c 0<=16)&&okAll c (flds (c 0))&&!moreB c (flds (c 0))
def encS (c:Nat->Int):List UInt8:=if encB c then frameL c (flds (c 0)) else []
def encE (c:Nat->Int):Int:=if encB c then 0 else 1
theorem flds_lt (k:Int):∀ f∈flds k,f<9:=by
 intro f hf
 unfold flds at hf
 split at hf
 ·simp at hf;omega
 split at hf
 ·simp at hf;omega
 split at hf
 ·simp at hf;omega
 split at hf
 ·simp at hf;omega
 split at hf
 ·simp at hf;omega
 split at hf
 ·simp at hf;omega
 split at hf
 ·simp at hf;omega
 split at hf
 ·simp at hf;omega
 split at hf
 ·simp at hf;omega
 split at hf
 ·simp at hf;omega
 ·simp at hf
theorem flds_len (k:Int):(flds k).length<=6:=by
 unfold flds
 repeat (first | (split;· simp) | simp)
theorem frameL_step (c:Nat->Int) (fs:List Nat) (k:Nat) (h:k<fs.length):frameL c (fs.take (k+1))=frameL c (fs.take k)++be4 (c (off fs[k])).toNat:=by
 unfold frameL
 rw [List.take_succ_eq_append_getElem h,List.flatMap_append]
 simp
theorem byteCells_append (a b:List UInt8):byteCells (a++b)=byteCells a++byteCells b:=by simp [byteCells]
theorem be4_len (v:Nat):(be4 v).length=4:=rfl
theorem byte_small (k:Int) (h1:1<=k) (h2:k<=16):((UInt8.ofNat k.toNat).toNat:Int)=k:=by
 rw [UInt8.toNat_ofNat'];omega
theorem Tryz.eqlNilF (w:World) (a:Option Addr) (l k:Nat):(binOp .eql 134 (.slice a l k) (.slice none 0 0)).run prog w=.ok (.bool a.isNone) w:=by
 simp only [binOp]
 simp [run_equal_slice_nil w 134 136 a l k underlying134]
attribute [local go_sem] Tryz.eqlNilF
theorem own_full (w:World) (base:Nat) (e:TypeId) (cur:Array Value) (hb:base<=w.heap.size) (hm:cur.size<=maxLen) :
  (w.alloc (.cells cur e)).ownsRow base e 1 (.slice (some ⟨w.heap.size,0,none⟩) cur.size cur.size) cur.size cur.toList :=
 ⟨by simp,.inr ⟨w.heap.size,cur.size,cur,rfl,hb,heap_alloc_new w _,Nat.le_refl _,hm,by simp,by rw [Nat.mul_one,<- Array.length_toList,List.take_length]⟩⟩
theorem own_cells {w:World} {base:Nat} {e:TypeId} {v:Value} {l:List UInt8} (h:w.ownsRow base e 1 v l.length (byteCells l)) (hl:l≠[]) :
  ∃ g cap,v=.slice (some ⟨g,0,none⟩) l.length cap/\base<=g/\g<w.heap.size/\∀ j (hj:j<l.length),w.cell? ((⟨g,0,none⟩:Addr).add j)=some (.int .u8 (l[j].toNat:Int)):=by
 have hc:=h
 rcases h.2 with ⟨_,hn⟩ | ⟨g,cap,cur,rfl,hb,hg,_⟩
 ·exact absurd (List.eq_nil_of_length_eq_zero hn) hl
 ·refine ⟨g,cap,rfl,hb,(Array.getElem?_eq_some_iff.1 hg).1,fun j hj=>hc.cells (g:=g) rfl j _ ?_⟩
  simp [byteCells,hj]
theorem own_conv {w:World} {g cap:Nat} {l:List UInt8} (hc:∀ j (hj:j<l.length),w.cell? ((⟨g,0,none⟩:Addr).add j)=some (.int .u8 (l[j].toNat:Int))) :
  (convert 51 9 (.slice (some ⟨g,0,none⟩) l.length cap)).run prog w=.ok (.string ⟨l.toArray⟩) w :=
 run_convert_bytes_back w 51 9 5 ⟨g,0,none⟩ cap l underlying51 underlying5 underlying9 hc
theorem okAll_step (c:Nat->Int) (fs:List Nat) (k:Nat) (h:k<fs.length) (ho:okAll c (fs.take k)=true) (hk:okB fs[k] (c (off fs[k]))=true):okAll c (fs.take (k+1))=true:=by
 unfold okAll at *
 rw [List.take_succ_eq_append_getElem h,List.all_append,ho]
 simp [hk]
theorem okAll_bad (c:Nat->Int) (fs:List Nat) (k:Nat) (h:k<fs.length) (hk:okB fs[k] (c (off fs[k]))=false):okAll c fs=false:=by
 unfold okAll
 rw [List.all_eq_false]
 exact ⟨fs[k],List.getElem_mem h,by simp [hk]⟩
theorem enc_bad (c:Nat->Int) (h:okAll c (flds (c 0))=false):encS c=[]/\encE c=1:=by simp [encS,encE,encB,h]
theorem enc_more (c:Nat->Int) (h:moreB c (flds (c 0))=true):encS c=[]/\encE c=1:=by simp [encS,encE,encB,h]
theorem enc_good (c:Nat->Int) (h1:1<=c 0) (h2:c 0<=16) (h3:okAll c (flds (c 0))=true) (h4:moreB c (flds (c 0))=false):encS c=frameL c (flds (c 0))/\encE c=0:=by
 simp [encS,encE,encB,h1,h2,h3,h4]
theorem enc_none (c:Nat->Int) (h:c 0<1\/16<c 0):encS c=[]/\encE c=1:=by
 have:encB c=false:=by
  unfold encB
  rcases h with h | h
  ·simp [show ¬ (1<=c 0) by omega]
  ·simp [show ¬ (c 0<=16) by omega]
 simp [encS,encE,this]
theorem okB_bounds {f:Nat} {n:Int} (h:okB f n=true):0<=n/\n<=1000000:=by
 simp only [okB,Bool.and_eq_true,decide_eq_true_eq] at h
 have h1:0<=lo f:=by unfold lo;split <;> omega
 have h2:hi f<=1000000:=by unfold hi;repeat (first | (split;· omega) | omega)
 omega
theorem ret_enc {c:Nat->Int} {s:List UInt8} {e:Int} (h:encS c=s/\encE c=e):Ending.returned (.tuple #[.string ⟨s.toArray⟩,.int .i64 e])=.returned (.tuple #[.string ⟨(encS c).toArray⟩,.int .i64 (encE c)]):=by rw [h.1,h.2]
end
section
open Go.RowKit
def base (k:Int):Nat->Int:=fun j=>if j=0 then k else 0
def zero9:Nat->Int:=fun _=>0
def decTo (k:Int) (fs:List Nat) (t:List UInt8):Nat->Nat->Int
 | 0=>base k
 | i+1=>upd (decTo k fs t i) (off (fs.getD i 0)) (numB t (4*i):Nat)
def okTo (fs:List Nat) (t:List UInt8) (n:Nat):Bool:=(List.range n).all fun j=>okB (fs.getD j 0) (numB t (4*j):Nat)
def decB:List UInt8->Bool
 | []=>false
 | k::t=>decide (1<=k.toNat)&&decide (k.toNat<=16)&&decide (t.length=4*(flds k.toNat).length)&&okTo (flds k.toNat) t (flds k.toNat).length
def decC (l:List UInt8):Nat->Int :=
 if decB l then decTo (l.headD 0).toNat (flds (l.headD 0).toNat) l.tail (flds (l.headD 0).toNat).length else zero9
def decE (l:List UInt8):Int:=if decB l then 0 else 1
theorem Has.drewN {w:World} {b:Nat} {c:Nat->Int} (h:Has w b c) (n:Nat):Has (w.drewN n) b c:=h
theorem HasF.drewN {w:World} {b:Nat} {fs:List Nat} (h:HasF w b fs) (n:Nat):HasF (w.drewN n) b fs:=h
theorem Has.drew {w:World} {b:Nat} {c:Nat->Int} (h:Has w b c):Has w.drew b c:=h
theorem HasF.drew {w:World} {b:Nat} {fs:List Nat} (h:HasF w b fs):HasF w.drew b fs:=h
theorem Has.newK (w:World) (t:TypeId) (k:Int):Has (w.alloc (.cells #[.int .i64 k,.int .i64 0,.int .i64 0,.int .i64 0,.int .i64 0,.int .i64 0,.int .i64 0,.int .i64 0,.int .i64 0] t)) w.heap.size (base k):=Has.new w t (base k)
theorem okTo_step (fs:List Nat) (t:List UInt8) (n:Nat) (h:okTo fs t n=true) (h2:okB (fs.getD n 0) (numB t (4*n):Nat)=true):okTo fs t (n+1)=true:=by
 unfold okTo at *
 rw [List.range_succ,List.all_append,h]
 simp only [List.all_cons,List.all_nil,h2]
 rfl
theorem okTo_bad (fs:List Nat) (t:List UInt8) (n m:Nat) (hn:n<m) (h2:okB (fs.getD n 0) (numB t (4*n):Nat)=false):okTo fs t m=false:=by
 unfold okTo
 rw [List.all_eq_false]
 exact ⟨n,List.mem_range.2 hn,by rw [h2];simp⟩
theorem cons_of (s:ByteArray) (h0:0<s.size):s.data.toList=s[0]::(s.extract 1 s.size).data.toList:=by
 have h':0<s.data.toList.length:=by simpa using h0
 have e:(s.extract 1 s.size).data.toList=s.data.toList.drop 1:=by
  simp [ByteArray.data_extract,List.take_of_length_le]
 rw [e]
 cases hl:s.data.toList with
 | nil=>rw [hl] at h';simp at h'
 | cons a r =>
  have:=getD_bytes s 0 h0
  rw [hl] at this
  simp at this
  rw [this];rfl
theorem ret_dec {l:List UInt8} {d:Nat->Int} {e:Int} (h:decC l=d/\decE l=e) :
  Ending.returned (.tuple #[.agg #[.int .i64 (d 0),.int .i64 (d 1),.int .i64 (d 2),.int .i64 (d 3),.int .i64 (d 4),.int .i64 (d 5),.int .i64 (d 6),.int .i64 (d 7),.int .i64 (d 8)],.int .i64 e])
   = .returned (.tuple #[.agg #[.int .i64 (decC l 0),.int .i64 (decC l 1),.int .i64 (decC l 2),.int .i64 (decC l 3),.int .i64 (decC l 4),.int .i64 (decC l 5),.int .i64 (decC l 6),.int .i64 (decC l 7),.int .i64 (decC l 8)],.int .i64 (decE l)]):=by rw [h.1,h.2]
theorem dec_len (k:UInt8) (t:List UInt8) (h:¬ t.length=4*(flds k.toNat).length):decC (k::t)=zero9/\decE (k::t)=1:=by
 simp [decC,decE,decB,h]
theorem dec_kind (k:UInt8) (t:List UInt8) (h:k.toNat<1\/16<k.toNat):decC (k::t)=zero9/\decE (k::t)=1:=by
 have:decB (k::t)=false:=by
  unfold decB
  rcases h with h | h
  ·simp [show ¬ (1<=k.toNat) by omega]
  ·simp [show ¬ (k.toNat<=16) by omega]
 simp [decC,decE,this]
theorem dec_nil:decC []=zero9/\decE []=1:=by simp [decC,decE,decB]
theorem dec_bad (k:UInt8) (t:List UInt8) (h:okTo (flds k.toNat) t (flds k.toNat).length=false):decC (k::t)=zero9/\decE (k::t)=1:=by
 simp [decC,decE,decB,h]
theorem dec_good (k:UInt8) (t:List UInt8) (h1:1<=k.toNat) (h2:k.toNat<=16) (h3:t.length=4*(flds k.toNat).length) (h4:okTo (flds k.toNat) t (flds k.toNat).length=true) :
  decC (k::t)=decTo k.toNat (flds k.toNat) t (flds k.toNat).length/\decE (k::t)=0:=by
 simp [decC,decE,decB,h1,h2,h3,h4]
theorem isEmpty_no (s:ByteArray) (h0:0<s.size):s.toList.isEmpty=false:=by
 rw [ByteArray.toList_eq,cons_of s h0];rfl
def put9 (w:World) (b:Nat) (d:Nat->Int):World :=
 ((((((((w.setCell ⟨b,0,none⟩ (.int .i64 (d 0))).setCell ⟨b,1,none⟩ (.int .i64 (d 1))).setCell ⟨b,2,none⟩ (.int .i64 (d 2))).setCell ⟨b,3,none⟩ (.int .i64 (d 3))).setCell ⟨b,4,none⟩ (.int .i64 (d 4))).setCell ⟨b,5,none⟩ (.int .i64 (d 5))).setCell ⟨b,6,none⟩ (.int .i64 (d 6))).setCell ⟨b,7,none⟩ (.int .i64 (d 7))).setCell ⟨b,8,none⟩ (.int .i64 (d 8))
theorem Has.put9 {w:World} {b:Nat} {c:Nat->Int} (h:Has w b c) (d:Nat->Int):Has (put9 w b d) b d:=by
 refine (((((((((h.set (j:=0) (by omega) (d 0)).set (j:=1) (by omega) (d 1)).set (j:=2) (by omega) (d 2)).set (j:=3) (by omega) (d 3)).set (j:=4) (by omega) (d 4)).set (j:=5) (by omega) (d 5)).set (j:=6) (by omega) (d 6)).set (j:=7) (by omega) (d 7)).set (j:=8) (by omega) (d 8)).congr ?_
 exact all9.2 ⟨rfl,rfl,rfl,rfl,rfl,rfl,rfl,rfl,rfl⟩
theorem Below.put9 {w0 w:World} {B b:Nat} (h:Below B w0 w) (hb:B<=b) (d:Nat->Int):Below B w0 (put9 w b d) :=
 ((((((((h.setCell (by exact hb) _).setCell (by exact hb) _).setCell (by exact hb) _).setCell (by exact hb) _).setCell (by exact hb) _).setCell (by exact hb) _).setCell (by exact hb) _).setCell (by exact hb) _).setCell (by exact hb) _
theorem HasF.setOther {w:World} {b b' j:Nat} {v:Value} {fs:List Nat} (h:HasF w b fs) (hb:b'≠b):HasF (w.setCell ⟨b',j,none⟩ v) b fs:=by
 intro i hi
 rw [World.cell?_setCell_other (w:=w) (h:=by intro h';injection h' with h1 _ _;exact hb h1)]
 exact h i hi
theorem put9_size (w:World) (b:Nat) (d:Nat->Int):(put9 w b d).heap.size=w.heap.size:=by simp [put9]
end
section
open Go.RowKit
theorem wraps63 (n:Int) (h0:0<=n) (h1:n<2 ^ 63):IntKind.i64.wrap n=n:=by
 simp only [IntKind.wrap,IntKind.bits,IntKind.signed];simp;omega
def IntsIn (w:World) (v:Value) (zs:List Int):Prop :=
 (∃ b cap,v=.slice (some ⟨b,0,none⟩) zs.length cap/\b<w.heap.size/\∀ i (h:i<zs.length),w.cell? ⟨b,i,none⟩=some (.int .i64 zs[i]))\/(v=.slice none 0 0/\zs=[])
def cnt (l:List UInt8):Nat:=(l.getD 1 0).toNat*256+(l.getD 2 0).toNat
theorem Tryz.infoInt:(prog.info? 3).map (fun i=>(i.zero,i.size,i.bytes))=some (some (.int .i64 0),1,8):=by kernel_rfl
theorem IntsIn.parts {w:World} {v:Value} {zs:List Int} (h:IntsIn w v zs):∃ oa cap,v=.slice oa zs.length cap/\∀ i (h:i<zs.length),∃ b,oa=some ⟨b,0,none⟩/\b<w.heap.size/\w.cell? ⟨b,i,none⟩=some (.int .i64 zs[i]):=by
 rcases h with ⟨b,cap,rfl,hb,hc⟩ | ⟨rfl,rfl⟩
 ·exact ⟨_,cap,rfl,fun i hi=>⟨b,rfl,hb,hc i hi⟩⟩
 ·exact ⟨none,0,rfl,fun i hi=>by simp at hi⟩
end
section
open Go.RowKit
def recCells (k:Nat) (r:Nat->Int):List Value:=(List.range k).map fun i=>Value.int .i64 (r i)
def recs (k:Nat) (l:List (Nat->Int)):List Value:=l.flatMap (recCells k)
theorem recCells_len (k:Nat) (r:Nat->Int):(recCells k r).length=k:=by simp [recCells]
theorem recs_len (k:Nat) (l:List (Nat->Int)):(recs k l).length=l.length*k:=by
 induction l with
 | nil=>simp [recs]
 | cons r l ih=>unfold recs at *;rw [List.flatMap_cons,List.length_append,recCells_len,ih,List.length_cons,Nat.succ_mul];omega
theorem recs_cons (k:Nat) (r:Nat->Int) (l:List (Nat->Int)):recs k (r::l)=recCells k r++recs k l:=by simp [recs]
theorem recs_append (k:Nat) (a b:List (Nat->Int)):recs k (a++b)=recs k a++recs k b:=by simp [recs]
theorem recs_at (k:Nat):∀ (l:List (Nat->Int)) (i f:Nat) (hi:i<l.length),f<k->(recs k l)[i*k+f]? = some (.int .i64 (l[i] f))
 | r::l,0,f,_,hf=>by
  rw [recs_cons,List.getElem?_append_left (by rw [recCells_len];omega)]
  simp [recCells,hf]
 | r::l,i+1,f,hi,hf=>by
  rw [recs_cons,List.getElem?_append_right (by rw [recCells_len,Nat.succ_mul];omega),recCells_len]
  have e:(i+1)*k+f - k=i*k+f:=by rw [Nat.succ_mul];omega
  rw [e]
  exact recs_at k l i f (by simpa using hi) hf
theorem recs_set (k:Nat):∀ (l:List (Nat->Int)) (i f:Nat) (n:Int) (hi:i<l.length),f<k->(recs k l).set (i*k+f) (.int .i64 n)=recs k (l.set i (upd l[i] f n))
 | r::l,0,f,n,_,hf=>by
  rw [List.set_cons_zero,recs_cons,recs_cons,List.set_append_left _ _ (by rw [recCells_len];omega)]
  congr 1
  apply List.ext_getElem?
  intro j
  by_cases hj:j<k
  ·by_cases e:j=f
   ·subst e;simp [recCells,upd,hj]
   ·rw [List.getElem?_set_ne (by omega)];simp [recCells,upd,hj,e]
  ·rw [List.getElem?_eq_none (by rw [List.length_set,recCells_len];omega),List.getElem?_eq_none (by rw [recCells_len];omega)]
 | r::l,i+1,f,n,hi,hf=>by
  rw [List.set_cons_succ,recs_cons,recs_cons,List.set_append_right _ _ (by rw [recCells_len,Nat.succ_mul];omega),recCells_len]
  have e:(i+1)*k+f - k=i*k+f:=by rw [Nat.succ_mul];omega
  rw [e]
  congr 1
  exact recs_set k l i f n (by simpa using hi) hf
def Recs (w:World) (e:TypeId) (k:Nat) (v:Value) (l:List (Nat->Int)):Prop:=w.ownsRow 0 e k v l.length (recs k l)
theorem addr_add (g j:Nat):((⟨g,0,none⟩:Addr).add j)=⟨g,j,none⟩:=by unfold Addr.add;split <;> simp_all
theorem Recs.form {w:World} {e:TypeId} {k:Nat} {v:Value} {l:List (Nat->Int)} (h:Recs w e k v l):∃ oa cap,v=.slice oa l.length cap/\∀ i (hi:i<l.length),∃ g,oa=some ⟨g,0,none⟩/\l.length<=cap/\v.ownBlock=some g/\g<w.heap.size/\(∀ f,f<k->w.cell? ⟨g,i*k+f,none⟩=some (.int .i64 (l[i] f)))/\(∀ j,w.frozen? ⟨g,j,none⟩=false):=by
 have hc:=h
 rcases h.2 with ⟨hv,h0⟩ | ⟨g,cap,cur,rfl,_,hg,hle,_⟩
 ·exact ⟨none,0,by rw [hv,h0],fun i hi=>by omega⟩
 ·refine ⟨some ⟨g,0,none⟩,cap,rfl,fun i hi=>⟨g,rfl,hle,rfl,(Array.getElem?_eq_some_iff.1 hg).1,fun f hf => ?_,fun j=>by simp [World.frozen?,hg]⟩⟩
  have:=hc.cells (g:=g) rfl (i*k+f) _ (recs_at k l i f hi hf)
  rw [addr_add] at this
  exact this
structure Keeps (S:Nat->Prop) (w w':World):Prop where
 os:w'.os=w.os
 tape:w'.tape=w.tape
 output:w'.output=w.output
 size:w.heap.size<=w'.heap.size
 block:∀ k,k<w.heap.size->¬ S k->w'.heap[k]? = w.heap[k]?
theorem Keeps.refl (S:Nat->Prop) (w:World):Keeps S w w:=⟨rfl,rfl,rfl,Nat.le_refl _,fun _ _ _=>rfl⟩
theorem Keeps.trans {S:Nat->Prop} {a b c:World} (h:Keeps S a b) (k:Keeps S b c):Keeps S a c :=
 ⟨k.os.trans h.os,k.tape.trans h.tape,k.output.trans h.output,Nat.le_trans h.size k.size,fun i hi hs=>(k.block i (Nat.lt_of_lt_of_le hi h.size) hs).trans (h.block i hi hs)⟩
theorem Keeps.mono {S T:Nat->Prop} {w w':World} (h:Keeps S w w') (hS:∀ k,k<w.heap.size->S k->T k):Keeps T w w':=⟨h.os,h.tape,h.output,h.size,fun k hk ht=>h.block k hk (fun hs=>ht (hS k hk hs))⟩
theorem Keeps.drewN {S:Nat->Prop} {a w:World} (h:Keeps S a w) (n:Nat):Keeps S a (w.drewN n):=⟨h.os,h.tape,h.output,h.size,h.block⟩
theorem Keeps.drew {S:Nat->Prop} {a w:World} (h:Keeps S a w):Keeps S a w.drew:=⟨h.os,h.tape,h.output,h.size,h.block⟩
theorem Keeps.alloc {S:Nat->Prop} {a w:World} (h:Keeps S a w) (o:Obj):Keeps S a (w.alloc o) :=
 ⟨h.os,h.tape,h.output,Nat.le_trans h.size (by simp),fun k hk hs=>(Below.heap_alloc w o k (Nat.lt_of_lt_of_le hk h.size)).trans (h.block k hk hs)⟩
theorem Keeps.setCell {S:Nat->Prop} {a w:World} (h:Keeps S a w) {p:Addr} (hp:S p.block\/a.heap.size<=p.block) (u:Value):Keeps S a (w.setCell p u) :=
 ⟨h.os,h.tape,h.output,by simpa using h.size,fun k hk hs=>(Below.heap_setCell w p u k (by rintro rfl;rcases hp with hp | hp;exact hs hp;omega)).trans (h.block k hk hs)⟩
theorem Keeps.below {S:Nat->Prop} {a w w':World} {B:Nat} (h:Keeps S a w) (hb:Below B w w') (hB:a.heap.size<=B):Keeps S a w' :=
 ⟨hb.os.trans h.os,hb.tape.trans h.tape,hb.output.trans h.output,Nat.le_trans h.size hb.size,fun k hk hs=>(hb.block k (by omega)).trans (h.block k hk hs)⟩
theorem Keeps.grown {S:Nat->Prop} {a w w':World} {row:Option Nat} (h:Keeps S a w) (hg:w.grownBy w' row) (hr:∀ k,row=some k->S k\/a.heap.size<=k):Keeps S a w' :=
 ⟨hg.os.trans h.os,hg.tape.trans h.tape,hg.output.trans h.output,Nat.le_trans h.size hg.size,fun k hk hs=>(hg.block k (by have:=h.size;omega) (by intro e;rcases hr k e.symm with h' | h';exact hs h';omega)).trans (h.block k hk hs)⟩
theorem Keeps.cell {S:Nat->Prop} {w w':World} (h:Keeps S w w') {p:Addr} (hp:p.block<w.heap.size) (hs:¬ S p.block):w'.cell? p=w.cell? p:=World.cell?_of_block (w:=w) (h.block p.block hp hs)
theorem Keeps.frozen {S:Nat->Prop} {w w':World} (h:Keeps S w w') {p:Addr} (hp:p.block<w.heap.size) (hs:¬ S p.block):w'.frozen? p=w.frozen? p:=World.frozen?_of_block (w:=w) (h.block p.block hp hs)
theorem Keeps.toBelow {S:Nat->Prop} {w w':World} {B:Nat} (h:Keeps S w w') (hS:∀ k,S k->B<=k) (hB:B<=w.heap.size):Below B w w' :=
 ⟨h.os,h.tape,h.output,h.size,fun k hk=>h.block k (by omega) (fun hs=>by have:=hS k hs;omega)⟩
theorem below_toKeeps {w w':World} (h:Below w.heap.size w w') (S:Nat->Prop):Keeps S w w':=(Keeps.refl S w).below h nlr
theorem ownsRow_block {w w':World} {base:Nat} {e:TypeId} {size:Nat} {v:Value} {n:Nat} {xs:List Value} (h:w.ownsRow base e size v n xs) (hb:∀ g,v.ownBlock=some g->w'.heap[g]? = w.heap[g]?):w'.ownsRow base e size v n xs:=by
 refine ⟨h.1,?_⟩
 rcases h.2 with hn | ⟨g,cap,cur,rfl,h1,hg,rest⟩
 ·exact .inl hn
 ·exact .inr ⟨g,cap,cur,rfl,h1,(hb g rfl).trans hg,rest⟩
theorem Recs.keeps {S:Nat->Prop} {w w':World} {e:TypeId} {k:Nat} {v:Value} {l:List (Nat->Int)} (h:Recs w e k v l) (hk:Keeps S w w') (hs:∀ g,v.ownBlock=some g->¬ S g):Recs w' e k v l :=
 ownsRow_block h (fun g hg=>hk.block g (h.lt g hg).2 (hs g hg))
end
section
open Go.RowKit
theorem low10 (k:Nat) (hk:k<4294967296):bits BinOp.and IntKind.u32 (k:Int) 1023=((k % 1024:Nat):Int):=by
 have h:=bits_mask .u32 32 (by decide) (fun n h0 h1=>wraps32 n h0 (by omega)) 10 (by decide) (k:Int) (by omega) (by omega)
 have e:((2:Int) ^ 10 - 1)=1023:=by decide
 have e2:((2:Int) ^ 10)=1024:=by decide
 rw [e,e2] at h
 rw [h]
 omega
theorem numbersIn_any (k:Nat) (hk:k<4294967296) (w:World) :
  Calls prog 182 #[.int .u32 k] w fun e w'=>e=.returned (.tuple #[.int .i64 (k / 1024 % 1024:Nat),.int .i64 (k % 1024:Nat)])/\w'=w:=by
 have h1:=low10 k hk
 have h2:=low10 (k / 1024) (by omega)
 have e1:(k:Int) / 1024=((k / 1024:Nat):Int):=by omega
 have w1:wrap64 ((k % 1024:Nat):Int)=((k % 1024:Nat):Int):=by unfold wrap64;omega
 have w2:wrap64 ((k / 1024 % 1024:Nat):Int)=((k / 1024 % 1024:Nat):Int):=by unfold wrap64;omega
 generalize k % 1024=a at *
 generalize k / 1024=b at *
 generalize b % 1024=c at *
 go_enter func182,ntmps182
 go_wp2
 go_ret2
 exact ⟨by simp [w1,w2],rfl⟩
end
section
open Go.RowKit
theorem flds_nodup (k:Int):((flds k).map off).Nodup:=by
 unfold flds
 repeat (first | (split;· decide) | decide)
theorem flds_pos (k:Int) (h1:1<=k) (h2:k<=16):0<(flds k).length:=by
 rcases kinds h1 h2 with rfl | rfl | rfl | rfl | rfl | rfl | rfl | rfl | rfl | rfl | rfl | rfl | rfl | rfl | rfl | rfl <;> decide
theorem getD_lt {fs:List Nat} {j:Nat} (h:j<fs.length):fs.getD j 0=fs[j]:=by
 rw [List.getD_eq_getElem?_getD,List.getElem?_eq_getElem h];rfl
theorem off_inj {fs:List Nat} (hn:(fs.map off).Nodup) {i j:Nat} (hi:i<fs.length) (hj:j<fs.length) (h:off fs[i]=off fs[j]):i=j:=by
 have hi':i<(fs.map off).length:=by simpa using hi
 have hj':j<(fs.map off).length:=by simpa using hj
 have hp:=List.pairwise_iff_getElem.1 hn
 rcases Nat.lt_trichotomy i j with h' | h' | h'
 ·exact absurd (by simpa using h) (hp i j hi' hj' h')
 ·exact h'
 ·exact absurd (by simpa using h.symm) (hp j i hj' hi' h')
theorem decTo_at (k:Int) (fs:List Nat) (t:List UInt8) (hn:(fs.map off).Nodup):∀ (n:Nat),n<=fs.length->∀ j,j<n->(hj':j<fs.length)->decTo k fs t n (off fs[j])=(numB t (4*j):Nat)
 | 0,_,j,hj,_=>by omega
 | n+1,hle,j,hj,hj'=>by
  show upd (decTo k fs t n) (off (fs.getD n 0)) (numB t (4*n):Nat) (off fs[j])=_
  rw [getD_lt (show n<fs.length by omega)]
  unfold upd
  by_cases e:j=n
  ·subst e;simp
  ·have:¬ off fs[j]=off fs[n]:=fun h=>e (off_inj hn hj' (by omega) h)
   rw [if_neg this]
   exact decTo_at k fs t hn n (by omega) j (by omega) hj'
theorem decTo_else (k:Int) (fs:List Nat) (t:List UInt8) (x:Nat) (hx:x ∉ fs.map off):∀ (n:Nat),n<=fs.length->decTo k fs t n x=base k x
 | 0,_=>rfl
 | n+1,hle=>by
  show upd (decTo k fs t n) (off (fs.getD n 0)) (numB t (4*n):Nat) x=_
  rw [getD_lt (show n<fs.length by omega)]
  unfold upd
  have:¬ x=off fs[n]:=fun h=>hx (by rw [h];exact List.mem_map_of_mem (List.getElem_mem _))
  rw [if_neg this]
  exact decTo_else k fs t x hx n (by omega)
theorem be4_numB (t:List UInt8) (j:Nat):be4 (numB t j)=[t.getD j 0,t.getD (j+1) 0,t.getD (j+2) 0,t.getD (j+3) 0]:=by
 unfold be4 numB
 generalize t.getD j 0=a
 generalize t.getD (j+1) 0=b
 generalize t.getD (j+2) 0=c
 generalize t.getD (j+3) 0=d
 have:=byte_lt a;have:=byte_lt b;have:=byte_lt c;have:=byte_lt d
 have e:∀ (n:Nat) (u:UInt8),n % 2 ^ 8=u.toNat->UInt8.ofNat n=u:=fun n u h=>by
  apply UInt8.toNat_inj.1;rw [UInt8.toNat_ofNat'];exact h
 rw [e _ a (by omega),e _ b (by omega),e _ c (by omega),e _ d (by omega)]
theorem take4 (t:List UInt8) (n:Nat) (h:n+4<=t.length):t.take (n+4)=t.take n++[t.getD n 0,t.getD (n+1) 0,t.getD (n+2) 0,t.getD (n+3) 0]:=by
 have g:∀ i,(hi:i<t.length)->t.getD i 0=t[i]:=fun i hi=>by rw [List.getD_eq_getElem?_getD,List.getElem?_eq_getElem hi];rfl
 rw [g n (by omega),g (n+1) (by omega),g (n+2) (by omega),g (n+3) (by omega)]
 rw [List.take_succ_eq_append_getElem (show n+3<t.length by omega),List.take_succ_eq_append_getElem (show n+2<t.length by omega),List.take_succ_eq_append_getElem (show n+1<t.length by omega),List.take_succ_eq_append_getElem (show n<t.length by omega)]
 simp only [List.append_assoc,List.cons_append,List.nil_append]
theorem flat_takeM (d:Nat->Int) (fs:List Nat) (t:List UInt8) (hd:∀ j (h:j<fs.length),d (off fs[j])=(numB t (4*j):Nat)):∀ n,n<=fs.length->4*n<=t.length->(fs.take n).flatMap (fun f=>be4 (d (off f)).toNat)=t.take (4*n)
 | 0,_,_=>by simp
 | n+1,h1,h2=>by
  rw [List.take_succ_eq_append_getElem (show n<fs.length by omega),List.flatMap_append,flat_takeM d fs t hd n (by omega) (by omega)]
  have:4*(n+1)=4*n+4:=by omega
  rw [this,take4 t (4*n) (by omega),<- be4_numB]
  simp [hd n (by omega)]
theorem dec_enc (l:List UInt8) (h:decB l=true):encB (decC l)=true/\encS (decC l)=l:=by
 match l,h with
 | k::t,h =>
  have hh:=h
  unfold decB at h
  simp only [Bool.and_eq_true,decide_eq_true_eq] at h
  obtain ⟨⟨⟨h1,h2⟩,h3⟩,h4⟩:=h
  have hdc:decC (k::t)=decTo k.toNat (flds k.toNat) t (flds k.toNat).length:=by unfold decC;rw [hh];rfl
  rw [hdc]
  have hn:=flds_nodup k.toNat
  have hat:=decTo_at k.toNat (flds k.toNat) t hn (flds k.toNat).length nlr
  have hel:=fun x hx=>decTo_else k.toNat (flds k.toNat) t x hx (flds k.toNat).length nlr
  generalize hd:decTo k.toNat (flds k.toNat) t (flds k.toNat).length=d at *
  have h0:d 0=(k.toNat:Int):=by
   rw [hel 0 (by simp only [List.mem_map,not_exists,not_and];intro f _ h;have:=off_pos f;omega)];simp [base]
  have hfl:flds (d 0)=flds k.toNat:=by rw [h0]
  have hok:okAll d (flds (d 0))=true:=by
   rw [hfl]
   unfold okAll
   rw [List.all_eq_true]
   intro f hf
   obtain ⟨j,hj,rfl⟩:=List.getElem_of_mem hf
   unfold okTo at h4
   rw [List.all_eq_true] at h4
   have:=h4 j (List.mem_range.2 hj)
   rw [getD_lt hj] at this
   rw [hat j hj hj];exact this
  have hmore:moreB d (flds (d 0))=false:=by
   rw [hfl]
   refine more_f fun i _ => ?_
   unfold clr
   by_cases hi:i=0\/i∈(flds k.toNat).map off
   ·rw [if_pos hi]
   ·rw [if_neg hi,hel i (fun h=>hi (.inr h))]
    simp only [base]
    rw [if_neg (fun h=>hi (.inl h))]
  have hB:encB d=true:=by
   unfold encB
   rw [hok,hmore,h0]
   simp only [Bool.and_eq_true,decide_eq_true_eq,Bool.not_false,and_true]
   omega
  refine ⟨hB,?_⟩
  unfold encS
  rw [hB,if_pos rfl]
  unfold frameL
  rw [hfl,h0]
  have:=flat_takeM d (flds k.toNat) t (fun j hj=>hat j hj hj) (flds k.toNat).length nlr (by omega)
  rw [List.take_length,<- h3,List.take_length] at this
  rw [this]
  simp
theorem flat_getD (g:Nat->Nat):∀ (fs:List Nat) (j r:Nat),r<4->(hj:j<fs.length)->(fs.flatMap fun f=>be4 (g f)).getD (4*j+r) 0=(be4 (g fs[j])).getD r 0
 | f::fs,0,r,hr,_=>by
  simp only [List.flatMap_cons,List.getElem_cons_zero]
  rw [List.getD_eq_getElem?_getD,List.getElem?_append_left (by rw [be4_len];omega),List.getD_eq_getElem?_getD]
  simp
 | f::fs,j+1,r,hr,hj=>by
  simp only [List.flatMap_cons,List.getElem_cons_succ]
  rw [List.getD_eq_getElem?_getD,List.getElem?_append_right (by rw [be4_len];omega),be4_len,<- List.getD_eq_getElem?_getD]
  have:4*(j+1)+r - 4=4*j+r:=by omega
  rw [this]
  exact flat_getD g fs j r hr (by simpa using hj)
theorem numB_be4 (v:Nat) (h:v<4294967296):((be4 v).getD 0 0).toNat*16777216+((be4 v).getD 1 0).toNat*65536+((be4 v).getD 2 0).toNat*256+((be4 v).getD 3 0).toNat=v:=by
 show (UInt8.ofNat (v / 16777216)).toNat*16777216+(UInt8.ofNat (v / 65536)).toNat*65536+(UInt8.ofNat (v / 256)).toNat*256+(UInt8.ofNat v).toNat=v
 rw [UInt8.toNat_ofNat',UInt8.toNat_ofNat',UInt8.toNat_ofNat',UInt8.toNat_ofNat']
 omega
theorem flat_numB (g:Nat->Nat) (fs:List Nat) (j:Nat) (hj:j<fs.length) (h:g fs[j]<4294967296):numB (fs.flatMap fun f=>be4 (g f)) (4*j)=g fs[j]:=by
 have e0:=flat_getD g fs j 0 (by omega) hj
 have e1:=flat_getD g fs j 1 (by omega) hj
 have e2:=flat_getD g fs j 2 (by omega) hj
 have e3:=flat_getD g fs j 3 (by omega) hj
 rw [Nat.add_zero] at e0
 unfold numB
 rw [e0,e1,e2,e3]
 exact numB_be4 _ h
theorem flat_len (g:Nat->Nat) (fs:List Nat):(fs.flatMap fun f=>be4 (g f)).length=4*fs.length:=by
 induction fs with
 | nil=>rfl
 | cons f fs ih=>rw [List.flatMap_cons,List.length_append,be4_len,ih,List.length_cons];omega
structure EncParts (c:Nat->Int) (k:UInt8) (t:List UInt8):Prop where
 k0:(k.toNat:Int)=c 0
 k1:1<=k.toNat
 k16:k.toNat<=16
 eq:encS c=k::t
 len:t.length=4*(flds k.toNat).length
 ok:okTo (flds k.toNat) t (flds k.toNat).length=true
 num:∀ j (h:j<(flds k.toNat).length),((numB t (4*j):Nat):Int)=c (off (flds k.toNat)[j])
 more:∀ i,i<9->clr c (flds k.toNat) i=0
theorem moreB_false {c:Nat->Int} {fs:List Nat} (h:moreB c fs=false):∀ i,i<9->clr c fs i=0:=by
 intro i hi
 unfold moreB at h
 rw [Bool.not_eq_false',List.all_eq_true] at h
 simpa using h i (List.mem_range.2 hi)
theorem enc_parts (c:Nat->Int) (h:encB c=true):∃ k t,EncParts c k t:=by
 have hh:=h
 unfold encB at h
 simp only [Bool.and_eq_true,decide_eq_true_eq,Bool.not_eq_true'] at h
 obtain ⟨⟨⟨h1,h2⟩,h3⟩,h4⟩:=h
 have hk:=byte_small (c 0) h1 h2
 have hfl:flds ((UInt8.ofNat (c 0).toNat).toNat:Int)=flds (c 0):=by rw [hk]
 have hb:∀ f∈flds (c 0),okB f (c (off f))=true:=by
  unfold okAll at h3;rw [List.all_eq_true] at h3;exact h3
 have hnum:∀ j (h:j<(flds (c 0)).length),numB ((flds (c 0)).flatMap fun f=>be4 (c (off f)).toNat) (4*j)=(c (off (flds (c 0))[j])).toNat:=by
  intro j hj
  have:=okB_bounds (hb _ (List.getElem_mem hj))
  exact flat_numB (fun f=>(c (off f)).toNat) (flds (c 0)) j hj (by omega)
 have hnum':∀ j (h:j<(flds (c 0)).length),((numB ((flds (c 0)).flatMap fun f=>be4 (c (off f)).toNat) (4*j):Nat):Int)=c (off (flds (c 0))[j]):=by
  intro j hj
  have:=okB_bounds (hb _ (List.getElem_mem hj))
  rw [hnum j hj];omega
 refine ⟨UInt8.ofNat (c 0).toNat,(flds (c 0)).flatMap fun f=>be4 (c (off f)).toNat,hk,by omega,by omega,?_,?_,?_,?_,?_⟩
 ·unfold encS;rw [hh,if_pos rfl];rfl
 ·rw [hfl];exact flat_len (fun f=>(c (off f)).toNat) (flds (c 0))
 ·rw [hfl]
  unfold okTo
  rw [List.all_eq_true]
  intro j hj
  have hj':=List.mem_range.1 hj
  rw [getD_lt hj',hnum' j hj']
  exact hb _ (List.getElem_mem hj')
 ·rw [hfl];exact hnum'
 ·rw [hfl];exact moreB_false h4
theorem enc_dec (c:Nat->Int) (h:encB c=true):decE (encS c)=0/\(∀ i,i<9->decC (encS c) i=c i):=by
 obtain ⟨k,t,P⟩:=enc_parts c h
 have hg:=dec_good k t P.k1 P.k16 P.len P.ok
 rw [P.eq,hg.1]
 refine ⟨hg.2,fun i hi => ?_⟩
 by_cases hm:i∈(flds k.toNat).map off
 ·obtain ⟨f,hf,rfl⟩:=List.mem_map.1 hm
  obtain ⟨j,hj,rfl⟩:=List.getElem_of_mem hf
  rw [decTo_at _ _ _ (flds_nodup _) _ nlr j hj hj]
  exact P.num j hj
 ·rw [decTo_else _ _ _ i hm _ nlr]
  unfold base
  by_cases h0:i=0
  ·rw [if_pos h0,h0];exact P.k0
  ·rw [if_neg h0]
   have:=P.more i hi
   unfold clr at this
   rw [if_neg (by simp [h0,hm])] at this
   exact this.symm
theorem enc_len (c:Nat->Int) (h:encB c=true):0<(encS c).length/\(encS c).length<=25:=by
 obtain ⟨k,t,P⟩:=enc_parts c h
 have:=flds_len k.toNat
 rw [P.eq,List.length_cons,P.len];omega
end
section
open Go.RowKit
def intCells (l:List Int):List Value:=l.map fun (z:Int)=>Value.int .i64 z
theorem own_intsIn {w:World} {base:Nat} {e:TypeId} {v:Value} {zs:List Int} {n:Nat} (h:w.ownsRow base e 1 v n (intCells zs)) (hn:n=zs.length):IntsIn w v zs:=by
 subst hn
 have hc:=h
 rcases h.2 with ⟨hv,h0⟩ | ⟨g,cap,cur,rfl,_,hg,_⟩
 ·exact .inr ⟨hv,List.eq_nil_of_length_eq_zero h0⟩
 ·refine .inl ⟨g,cap,rfl,(Array.getElem?_eq_some_iff.1 hg).1,fun i hi => ?_⟩
  have:=hc.cells (g:=g) rfl i (.int .i64 zs[i]) (by simp [intCells,hi])
  have e:((⟨g,0,none⟩:Addr).add i)=⟨g,i,none⟩:=by unfold Addr.add;split <;> simp_all
  rw [e] at this;exact this
theorem app_cell (w:World) (z:Int):∀ j u,[Value.int .i64 z][j]? = some u->(w.alloc (.cells #[.int .i64 z] 3)).cell? ((⟨w.heap.size,0,none⟩:Addr).add j)=some u:=by
 intro j u hj
 match j,hj with
 | 0,hj=>simp at hj;subst hj;simp [Addr.add]
theorem own_form {w:World} {base:Nat} {e:TypeId} {size:Nat} {v:Value} {n:Nat} {xs:List Value} (h:w.ownsRow base e size v (n+1) xs):∃ g cap,v=.slice (some ⟨g,0,none⟩) (n+1) cap:=by
 rcases h.2 with ⟨_,hn⟩ | ⟨g,cap,cur,rfl,_⟩
 ·omega
 ·exact ⟨g,cap,rfl⟩
end
section
open Go.RowKit
def replyL (e:Int) (zs:List Int):List UInt8:=[UInt8.ofNat e.toNat,UInt8.ofNat (zs.length / 256),UInt8.ofNat zs.length]++zs.flatMap fun z=>be4 z.toNat
theorem replyL_step (e:Int) (zs:List Int) (m:Nat) (h:m<zs.length):[UInt8.ofNat e.toNat,UInt8.ofNat (zs.length / 256),UInt8.ofNat zs.length]++(zs.take (m+1)).flatMap (fun z=>be4 z.toNat)=([UInt8.ofNat e.toNat,UInt8.ofNat (zs.length / 256),UInt8.ofNat zs.length]++(zs.take m).flatMap fun z=>be4 z.toNat)++be4 zs[m].toNat:=by
 rw [List.take_succ_eq_append_getElem h,List.flatMap_append]
 simp
theorem bytes3_cells (w:World) (a b:Nat) (ha:a<256) (hb:b<65536):∀ j (hj:j < [UInt8.ofNat a,UInt8.ofNat (b / 256),UInt8.ofNat b].length),(w.alloc (.cells #[.int .u8 (a:Int),.int .u8 ((b:Int) / 256),.int .u8 ((b:Int) % 256)] 5)).cell? ((⟨w.heap.size,0,none⟩:Addr).add j)=some (.int .u8 ([UInt8.ofNat a,UInt8.ofNat (b / 256),UInt8.ofNat b][j].toNat:Int)):=by
 intro j hj
 rw [addr_add,World.cell?_alloc_new]
 match j,hj with
 | 0,_ =>
  show some (Value.int .u8 (a:Int))=some (Value.int .u8 ((UInt8.ofNat a).toNat:Int))
  rw [UInt8.toNat_ofNat'];exact congrArg (fun z:Int=>some (Value.int .u8 z)) (by omega)
 | 1,_ =>
  show some (Value.int .u8 ((b:Int) / 256))=some (Value.int .u8 ((UInt8.ofNat (b / 256)).toNat:Int))
  rw [UInt8.toNat_ofNat'];exact congrArg (fun z:Int=>some (Value.int .u8 z)) (by omega)
 | 2,_ =>
  show some (Value.int .u8 ((b:Int) % 256))=some (Value.int .u8 ((UInt8.ofNat b).toNat:Int))
  rw [UInt8.toNat_ofNat'];exact congrArg (fun z:Int=>some (Value.int .u8 z)) (by omega)
 | n+3,h=>simp at h;omega
theorem ret_str {a b:List UInt8} (h:b=a):Ending.returned (.string ⟨a.toArray⟩)=.returned (.string ⟨b.toArray⟩):=by rw [h]
end
end Go.Proofs.YtalncjhldkcmaaaGreat
