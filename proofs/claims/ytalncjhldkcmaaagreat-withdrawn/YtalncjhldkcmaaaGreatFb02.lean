import Derived.Test.YtalncjhldkcmaaaGreatFb01
import Derived.Test.YtalncjhldkcmaaaGreatFb00
import Derived.BigQuiet
import Derived.BigRegion
import Derived.Deep.CutRange
import Derived.Lib.AppendZeros
import Derived.Lib.ConvBytes
namespace Go.Proofs.YtalncjhldkcmaaaGreat
open _root_.Go.Proofs.Tryz
set_option maxHeartbeats 16000000
set_option maxRecDepth 8000
section
open Go.RowKit
structure Ent where
 key:Int
 val:ByteArray
 below:Option Addr
def Ent.cells (e:Ent):List Value:=[.int .u32 e.key,.string e.val,.pointer e.below]
def EntsAt (n₀:Nat) (W:World) (v:Value) (es:List Ent):Prop :=
 ∃ g o cap,v=.slice (some ⟨g,o,none⟩) es.length cap/\es.length<=cap/\g<n₀/\n₀<=W.heap.size/\es.length<1000000 /\
  ∀ i (hi:i<es.length),W.cell? ⟨g,o+i*3,none⟩=some (.int .u32 es[i].key)/\W.cell? ⟨g,o+i*3+1,none⟩=some (.string es[i].val)/\W.cell? ⟨g,o+i*3+2,none⟩=some (.pointer es[i].below)
theorem EntsAt.below {n₀:Nat} {A B:World} {v:Value} {es:List Ent} (h:EntsAt n₀ A v es) (hb:Below n₀ A B):EntsAt n₀ B v es:=by
 obtain ⟨g,o,cap,rfl,h1,h2,h3,h4,h5⟩:=h
 refine ⟨g,o,cap,rfl,h1,h2,Nat.le_trans h3 hb.size,h4,fun i hi => ?_⟩
 obtain ⟨a,b,c⟩:=h5 i hi
 exact ⟨(hb.cell (p:=⟨g,_,none⟩) h2).trans a,(hb.cell (p:=⟨g,_,none⟩) h2).trans b,(hb.cell (p:=⟨g,_,none⟩) h2).trans c⟩
theorem EntsAt.mono {n₀ n₁:Nat} {A:World} {v:Value} {es:List Ent} (h:EntsAt n₀ A v es) (hn:n₀<=n₁) (hs:n₁<=A.heap.size):EntsAt n₁ A v es:=by
 obtain ⟨g,o,cap,rfl,h1,h2,h3,h4,h5⟩:=h
 exact ⟨g,o,cap,rfl,h1,by omega,hs,h4,h5⟩
def Rise (es:List Ent):Prop:=es.Pairwise (fun a b=>a.key<b.key)
abbrev KV:=Int×ByteArray
def Ent.kv (e:Ent):KV:=(e.key,e.val)
def NodeAt (n₀:Nat) (W:World):Nat->Nat->List KV->Prop
 | 0,b,l=>b<n₀/\∃ v es,W.cell? ⟨b,0,none⟩=some v/\EntsAt n₀ W v es/\es≠[]/\(∀ e∈es,e.below=none)/\l=es.map Ent.kv
 | h+1,b,l=>b<n₀/\∃ v es,∃ ls:List (List KV),W.cell? ⟨b,0,none⟩=some v/\EntsAt n₀ W v es/\es≠[]/\ls.length=es.length/\l=ls.flatten /\
   ∀ i (hi:i<es.length) (hj:i<ls.length),∃ c,es[i].below=some ⟨c,0,none⟩/\NodeAt n₀ W h c ls[i]/\(ls[i].head?).map Prod.fst=some es[i].key
theorem NodeAt.below {n₀:Nat} {A B:World} (hb:Below n₀ A B):∀ {h b:Nat} {l:List KV},NodeAt n₀ A h b l->NodeAt n₀ B h b l
 | 0,b,l,⟨h1,v,es,h2,h3,h4⟩=>⟨h1,v,es,(hb.cell (p:=⟨b,0,none⟩) h1).trans h2,h3.below hb,h4⟩
 | h+1,b,l,⟨h1,v,es,ls,h2,h3,h4,h5,h6,h7⟩=>⟨h1,v,es,ls,(hb.cell (p:=⟨b,0,none⟩) h1).trans h2,h3.below hb,h4,h5,h6,fun i hi hj=>by
   obtain ⟨c,c1,c2,c3⟩:=h7 i hi hj
   exact ⟨c,c1,NodeAt.below hb c2,c3⟩⟩
theorem NodeAt.mono {n₀ n₁:Nat} {A:World} (hn:n₀<=n₁) (hs:n₁<=A.heap.size):∀ {h b:Nat} {l:List KV},NodeAt n₀ A h b l->NodeAt n₁ A h b l
 | 0,b,l,⟨h1,v,es,h2,h3,h4⟩=>⟨by omega,v,es,h2,h3.mono hn hs,h4⟩
 | h+1,b,l,⟨h1,v,es,ls,h2,h3,h4,h5,h6,h7⟩=>⟨by omega,v,es,ls,h2,h3.mono hn hs,h4,h5,h6,fun i hi hj=>by
   obtain ⟨c,c1,c2,c3⟩:=h7 i hi hj
   exact ⟨c,c1,NodeAt.mono hn hs c2,c3⟩⟩
theorem NodeAt.ents {n₀:Nat} {A:World}:∀ {h b:Nat} {l:List KV},NodeAt n₀ A h b l->∃ v es,A.cell? ⟨b,0,none⟩=some v/\EntsAt n₀ A v es/\es≠[]/\(∀ i (hi:i<es.length),(es[i].below=none)=(h=0))
 | 0,b,l,⟨h1,v,es,h2,h3,h4,h5,h6⟩=>⟨v,es,h2,h3,h4,fun i hi=>by simp [h5 _ (List.getElem_mem hi)]⟩
 | h+1,b,l,⟨h1,v,es,ls,h2,h3,h4,h5,h6,h7⟩=>⟨v,es,h2,h3,h4,fun i hi=>by
   obtain ⟨c,c1,_⟩:=h7 i hi (by omega)
   simp [c1]⟩
end
section
open Go.RowKit Go.Shelf
def RecAt (w:World) (b:Nat) (c:Array Value) (t:TypeId):Prop:=w.heap[b]? = some (.cells c t (0,0))
theorem RecAt.new (w:World) (c:Array Value) (t:TypeId):RecAt (w.alloc (.cells c t)) w.heap.size c t:=World.alloc_heap_new w _
theorem RecAt.lt {w:World} {b:Nat} {c:Array Value} {t:TypeId} (h:RecAt w b c t):b<w.heap.size:=(Array.getElem?_eq_some_iff.1 h).1
theorem RecAt.on {w w':World} {b:Nat} {c:Array Value} {t:TypeId} (h:RecAt w b c t) (hb:Below w.heap.size w w'):RecAt w' b c t:=(hb.block b h.lt).trans h
theorem RecAt.cell {w:World} {b:Nat} {c:Array Value} {t:TypeId} (h:RecAt w b c t) (i:Nat):w.cell? ⟨b,i,none⟩=c[i]?:=by simp only [World.cell?,show w.heap[b]? = _ from h];simp
theorem RecAt.fz {w:World} {b:Nat} {c:Array Value} {t:TypeId} (h:RecAt w b c t) (i:Nat):w.frozen? ⟨b,i,none⟩=false:=by simp [World.frozen?,show w.heap[b]? = _ from h]
theorem RecAt.set {w:World} {b:Nat} {c:Array Value} {t:TypeId} (h:RecAt w b c t) (i:Nat) (v:Value):RecAt (w.setCell ⟨b,i,none⟩ v) b (c.set! i v) t:=heap_setCell_same w b i _ _ _ h
end
section
open Go.RowKit
theorem isNaN_any (a:Int) (w:World) :
  Calls prog 208 #[.int .u32 a] w fun e w'=>e=.returned (.bool false)/\w'=w:=by
 go_enter func208,ntmps208
 go_wp2
 go_ret
 simp
def cmpI (a b:Int):Int:=if a<b then -1 else if b<a then 1 else 0
theorem cmpI_lt {a b:Int} (h:a<b):cmpI a b = -1:=by simp [cmpI,h]
theorem cmpI_gt {a b:Int} (h:b<a):cmpI a b=1:=by
 have:¬ a<b:=by omega
 simp [cmpI,this,h]
theorem cmpI_eq {a b:Int} (h:a=b):cmpI a b=0:=by subst h;simp [cmpI]
theorem compare_any (a b:Int) (w:World) :
  Calls prog 204 #[.int .u32 a,.int .u32 b] w fun e w'=>e=.returned (.int .i64 (cmpI a b))/\w'=w:=by
 go_enter func204,ntmps204
 by_cases h1:a<b
 ·go_wp2_with (go_at_call 208;refine (isNaN_any _ _).mono ?_;rintro e w ⟨rfl,rfl⟩)
  go_ret
  exact ⟨by rw [cmpI_lt h1];rfl,rfl⟩
 ·by_cases h2:b<a
  ·go_wp2_with (go_at_call 208;refine (isNaN_any _ _).mono ?_;rintro e w ⟨rfl,rfl⟩)
   go_ret
   exact ⟨by rw [cmpI_gt h2];rfl,rfl⟩
  ·go_wp2_with (go_at_call 208;refine (isNaN_any _ _).mono ?_;rintro e w ⟨rfl,rfl⟩)
   go_ret
   exact ⟨by rw [cmpI_eq (by omega)];rfl,rfl⟩
theorem way1_any (k t:Int) (s:ByteArray) (p:Option Addr) (w:World) :
  Calls prog 203 #[.agg #[.int .u32 k,.string s,.pointer p],.int .u32 t] w fun e w'=>e=.returned (.int .i64 (cmpI k t))/\w'=w.alloc (.cells #[.int .u32 k,.string s,.pointer p] 254):=by
 go_enter func203,ntmps203
 go_wp2_with (go_at_call 204;refine (compare_any _ _ _).mono ?_;rintro e w' ⟨rfl,rfl⟩)
 go_ret
 exact ⟨rfl,rfl⟩
theorem isLeaf_any (n₀ h b:Nat) (l:List KV) (w:World) (hN:NodeAt n₀ w h b l) :
  Calls prog 205 #[.pointer (some ⟨b,0,none⟩)] w fun e w'=>e=.returned (.bool (decide (h=0)))/\w'=w:=by
 obtain ⟨v,es,hc,⟨g,o,cap,rfl,h1,h2,h3,h4,h5⟩,hne,hbe⟩:=hN.ents
 have hl:0<es.length:=List.length_pos_iff.2 hne
 have c2:=(h5 0 hl).2.2
 simp only [Nat.zero_mul,Nat.add_zero] at c2
 have hb0:=hbe 0 hl
 have hl':(0:Int)<(es.length:Int):=by omega
 clear h5 hbe hN hne
 generalize es[0].below=bl at *
 clear hl
 generalize es.length=len at *
 go_enter func205,ntmps205
 by_cases h0:h=0
 ·have:bl=none:=by rw [hb0];exact h0
  subst this
  clear hb0
  go_wp2
  go_ret
  simp [h0]
 ·obtain ⟨q,rfl⟩:∃ q,bl=some q:=by
   cases bl with
   | none=>exact absurd (hb0 ▸ rfl:h=0) h0
   | some q=>exact ⟨q,rfl⟩
  clear hb0
  go_wp2
  go_ret
  simp [h0]
end
section
open Go.RowKit
def Cut (es:List Ent) (t:Int) (i:Nat):Prop:=i<=es.length/\(∀ x (hx:x<es.length),x<i->es[x].key<t)/\(∀ x (hx:x<es.length),i<=x->t<=es[x].key)
theorem half (i j:Nat) (h:i+j<2000000):IntKind.i64.wrap (((i+j) / 2:Nat):Int)=(((i+j) / 2:Nat):Int):=wraps63 _ (by omega) (by omega)
theorem rise_lt {es:List Ent} (h:Rise es) {i j:Nat} (hi:i<es.length) (hj:j<es.length) (hij:i<j):es[i].key<es[j].key:=(List.pairwise_iff_getElem.1 h) i j hi hj hij
theorem rise_le {es:List Ent} (h:Rise es) {i j:Nat} (hi:i<es.length) (hj:j<es.length) (hij:i<=j):es[i].key<=es[j].key:=by
 rcases Nat.lt_or_eq_of_le hij with hl | rfl
 ·exact Int.le_of_lt (rise_lt h hi hj hl)
 ·exact Int.le_refl _
theorem search_any (n₀:Nat) (v:Value) (es:List Ent) (t:Int) (w:World) (hE:EntsAt n₀ w v es) (hR:Rise es) :
  Calls prog 202 #[v,.int .u32 t,.func (.func 203) #[] #[]] w fun e w'=>∃ i:Nat,e=.returned (.tuple #[.int .i64 i,.bool (decide (∃ h:i<es.length,es[i].key=t))])/\Cut es t i/\Below w.heap.size w w':=by
 have HE:=hid hE
 obtain ⟨g,o,cap,rfl,h1,h2,h3,h4,h5⟩:=hE
 have H5:=hid h5
 clear h5
 go_enter func202,ntmps202
 go_wp2_with fail
 go_loopg [9,10] es.length (fun gk i j wr=>∃ a b:Nat,i=.int .i64 a/\j=.int .i64 b/\a+gk=b/\b<=es.length/\Hid ((∀ x (hx:x<es.length),x<a->es[x].key<t)/\(∀ x (hx:x<es.length),b<=x->t<=es[x].key))/\Below w.heap.size w wr)
 case atStart=>exact ⟨0,es.length,rfl,rfl,by omega,Nat.le_refl _,hid ⟨fun x hx h=>by omega,fun x hx h=>by omega⟩,Below.refl _ _⟩
 case round =>
  obtain ⟨a,b,rfl,rfl,hab,hb,HH,hbel⟩:=hrel
  have hsz:=hbel.size
  have hgw:g<w.heap.size:=by omega
  by_cases hlt:a<b
  ·have hlt':(a:Int)<(b:Int):=by omega
   have hle:(a+b) / 2<es.length:=by omega
   have hle':((a:Int)+(b:Int)) / 2<(es.length:Int):=by omega
   have c0:=(hbel.cell (p:=⟨g,o+(a+b) / 2*3,none⟩) hgw).trans (H5.out _ hle).1
   have c1:=(hbel.cell (p:=⟨g,o+(a+b) / 2*3+1,none⟩) hgw).trans (H5.out _ hle).2.1
   have c2:=(hbel.cell (p:=⟨g,o+(a+b) / 2*3+2,none⟩) hgw).trans (H5.out _ hle).2.2
   have HK:Hid (∀ x (hx:x<es.length),(x<=(a+b) / 2->es[x].key<=(es[(a+b) / 2]'hle).key)/\((a+b) / 2<=x->(es[(a+b) / 2]'hle).key<=es[x].key)):=hid fun x hx=>⟨fun h=>rise_le hR hx hle h,fun h=>rise_le hR hle hx h⟩
   generalize (es[(a+b) / 2]'hle).key=ky at *
   generalize (es[(a+b) / 2]'hle).val=vy at *
   generalize (es[(a+b) / 2]'hle).below=py at *
   by_cases hk:ky<t
   ·have hcm:=cmpI_lt hk
    go_wp2_with (go_at_call 203;refine (way1_any _ _ _ _ _).mono ?_;rintro e w' ⟨rfl,rfl⟩;rw [hcm])
    go_roundg (b - ((a+b) / 2+1))
    case measure=>omega
    case rel=>exact ⟨(a+b) / 2+1,b,by go_num,rfl,by omega,hb,hid ⟨fun x hx h=>by have:=(HK.out x hx).1 (by omega);omega,HH.out.2⟩,hbel.alloc hsz _⟩
   ·have hcm:cmpI ky t=0\/cmpI ky t=1:=by
     by_cases he:ky=t
     ·exact .inl (cmpI_eq he)
     ·exact .inr (cmpI_gt (by omega))
    rcases hcm with hcm | hcm
    ·go_wp2_with (go_at_call 203;refine (way1_any _ _ _ _ _).mono ?_;rintro e w' ⟨rfl,rfl⟩;rw [hcm])
     go_roundg ((a+b) / 2 - a)
     case measure=>omega
     case rel=>exact ⟨a,(a+b) / 2,rfl,by go_num,by omega,by omega,hid ⟨HH.out.1,fun x hx h=>by have:=(HK.out x hx).2 (by omega);omega⟩,hbel.alloc hsz _⟩
    ·go_wp2_with (go_at_call 203;refine (way1_any _ _ _ _ _).mono ?_;rintro e w' ⟨rfl,rfl⟩;rw [hcm])
     go_roundg ((a+b) / 2 - a)
     case measure=>omega
     case rel=>exact ⟨a,(a+b) / 2,rfl,by go_num,by omega,by omega,hid ⟨HH.out.1,fun x hx h=>by have:=(HK.out x hx).2 (by omega);omega⟩,hbel.alloc hsz _⟩
  ·obtain rfl:a=b:=by omega
   have HC:Hid (Cut es t a):=hid ⟨hb,HH.out.1,HH.out.2⟩
   by_cases hle:a<es.length
   ·have hle':(a:Int)<(es.length:Int):=by omega
    have c0:=(hbel.cell (p:=⟨g,o+a*3,none⟩) hgw).trans (H5.out _ hle).1
    have c1:=(hbel.cell (p:=⟨g,o+a*3+1,none⟩) hgw).trans (H5.out _ hle).2.1
    have c2:=(hbel.cell (p:=⟨g,o+a*3+2,none⟩) hgw).trans (H5.out _ hle).2.2
    have HT:Hid (t<=(es[a]'hle).key):=hid (HH.out.2 a hle nlr)
    by_cases hk:(es[a]'hle).key=t
    ·have HD:Hid (decide (∃ h:a<es.length,es[a].key=t)=true):=hid (decide_eq_true ⟨hle,hk⟩)
     have hcm:=cmpI_eq hk
     generalize (es[a]'hle).key=ky at *
     generalize (es[a]'hle).val=vy at *
     generalize (es[a]'hle).below=py at *
     clear HT
     subst hk
     go_wp2_with (go_at_call 203;refine (way1_any _ _ _ _ _).mono ?_;rintro e w' ⟨rfl,rfl⟩;rw [hcm])
     go_ret2
     exact ⟨a,by rw [HD.out];rfl,HC.out,hbel.alloc hsz _⟩
    ·have HD:Hid (decide (∃ h:a<es.length,es[a].key=t)=false):=hid (decide_eq_false (by rintro ⟨_,h⟩;exact hk h))
     have hcm:=cmpI_gt (show t<(es[a]'hle).key by have:=HT.out;omega)
     generalize (es[a]'hle).key=ky at *
     generalize (es[a]'hle).val=vy at *
     generalize (es[a]'hle).below=py at *
     go_wp2_with (go_at_call 203;refine (way1_any _ _ _ _ _).mono ?_;rintro e w' ⟨rfl,rfl⟩;rw [hcm])
     go_ret2
     exact ⟨a,by rw [HD.out];rfl,HC.out,hbel.alloc hsz _⟩
   ·have HD:Hid (decide (∃ h:a<es.length,es[a].key=t)=false):=hid (decide_eq_false (by rintro ⟨h,_⟩;exact hle h))
    have hle':(es.length:Int)<=(a:Int):=by omega
    go_wp2_with fail
    go_ret2
    exact ⟨a,by rw [HD.out];rfl,HC.out,hbel⟩
end
section
open Go.RowKit
def wayI (h:Nat) (es:List Ent) (t:Int) (i:Nat):Prop:=i<=es.length/\((Cut es t i/\(h=0\/∃ hi:i<es.length,es[i].key=t))\/(h≠0/\∃ j,Cut es t j/\i=j - 1/\¬ ∃ hj:j<es.length,es[j].key=t))
theorem way_any (n₀ ht b:Nat) (l:List KV) (v:Value) (es:List Ent) (t:Int) (w:World) (hN:NodeAt n₀ w ht b l) (hc:w.cell? ⟨b,0,none⟩=some v) (hE:EntsAt n₀ w v es) (hR:Rise es) :
  Calls prog 180 #[.pointer (some ⟨b,0,none⟩),.int .u32 t] w fun e w'=>∃ i:Nat,e=.returned (.int .i64 i)/\wayI ht es t i/\Below w.heap.size w w':=by
 have HE:=hid hE
 have HN:=hid hN
 obtain ⟨g,o,cap,rfl,h1,h2,h3,h4,h5⟩:=hE
 clear h5 hN
 go_enter func180,ntmps180
 have hs:=search_any n₀ _ es t w HE.out hR
 go_wp2_with (first
  | (go_at_call 202;refine hs.mono ?_;clear hs;rintro e w' ⟨i,rfl,hC,hb⟩;have hi:=hC.1;by_cases hx:∃ h:i<es.length,es[i].key=t <;> (first | rw [decide_eq_true hx] | rw [decide_eq_false hx]))
  | (go_at_call 205;refine (isLeaf_any n₀ ht b l _ (HN.out.below (hb.mono h3))).mono ?_;rintro e w2 ⟨rfl,rfl⟩;rcases Nat.eq_zero_or_pos ht with h0 | h0;have hd:decide (ht=0)=true:=by simpa using h0))
 all_goals go_ret
 all_goals first
  | exact ⟨i,rfl,⟨hi,.inl ⟨hC,.inr hx⟩⟩,hb⟩
  | exact ⟨i,rfl,⟨hi,.inl ⟨hC,.inl h0⟩⟩,hb⟩
  | exact ⟨0,rfl,⟨by omega,.inr ⟨by omega,i,hC,by omega,hx⟩⟩,hb⟩
  | exact ⟨i - 1,by rw [show ((i - 1:Nat):Int)=(i:Int) - 1 by omega];rfl,⟨by omega,.inr ⟨by omega,i,hC,rfl,hx⟩⟩,hb⟩
theorem cut_exists (t:Int):∀ (es:List Ent),Rise es->∃ i,Cut es t i
 | [],_=>⟨0,by simp,by simp,by simp⟩
 | a::r,hR=>by
  obtain ⟨h1,h2⟩:=List.pairwise_cons.1 hR
  by_cases ha:a.key<t
  ·obtain ⟨i,hi,hlo,hup⟩:=cut_exists t r h2
   refine ⟨i+1,by simpa using hi,fun x hx h => ?_,fun x hx h => ?_⟩
   ·cases x with
    | zero=>exact ha
    | succ x=>exact hlo x (by simpa using hx) (by omega)
   ·cases x with
    | zero=>omega
    | succ x=>exact hup x (by simpa using hx) (by omega)
  ·refine ⟨0,by simp,fun x hx h=>by omega,fun x hx h => ?_⟩
   cases x with
   | zero=>exact Int.not_lt.1 ha
   | succ x =>
    have hx':x<r.length:=by simpa using hx
    have:=h1 _ (List.getElem_mem hx')
    show t<=(r[x]'hx').key
    omega
theorem cut_one {es:List Ent} {t:Int} {i j:Nat} (h:Cut es t i) (k:Cut es t j):i=j:=by
 obtain ⟨a1,a2,a3⟩:=h
 obtain ⟨b1,b2,b3⟩:=k
 rcases Nat.lt_trichotomy i j with hl | he | hg
 ·have:=a3 i (by omega) nlr;have:=b2 i (by omega) hl;omega
 ·exact he
 ·have:=b3 j (by omega) nlr;have:=a2 j (by omega) hg;omega
theorem way_exists (ht:Nat) {es:List Ent} (hR:Rise es) (t:Int):∃ i,wayI ht es t i:=by
 obtain ⟨i,hi⟩:=cut_exists t es hR
 by_cases hx:∃ h:i<es.length,es[i].key=t
 ·exact ⟨i,hi.1,.inl ⟨hi,.inr hx⟩⟩
 ·by_cases h0:ht=0
  ·exact ⟨i,hi.1,.inl ⟨hi,.inl h0⟩⟩
  ·exact ⟨i - 1,by have:=hi.1;omega,.inr ⟨h0,i,hi,rfl,hx⟩⟩
theorem way_one {ht:Nat} {es:List Ent} {t:Int} {i j:Nat} (h:wayI ht es t i) (k:wayI ht es t j):i=j:=by
 obtain ⟨_,⟨c1,o1⟩ | ⟨z1,m1,c1,e1,n1⟩⟩:=h <;> obtain ⟨_,⟨c2,o2⟩ | ⟨z2,m2,c2,e2,n2⟩⟩:=k
 ·exact cut_one c1 c2
 ·rcases o1 with h | h
  ·exact absurd h z2
  ·have:=cut_one c1 c2;subst this;exact absurd h n2
 ·rcases o2 with h | h
  ·exact absurd h z1
  ·have:=cut_one c1 c2;subst this;exact absurd h n1
 ·have:=cut_one c1 c2;omega
theorem way_inner {ht:Nat} {es:List Ent} {t:Int} {i:Nat} (h:wayI ht es t i) (h0:ht≠0) (hne:es≠[]):i<es.length:=by
 have hl:=List.length_pos_iff.2 hne
 obtain ⟨_,⟨c1,o1⟩ | ⟨z1,m1,c1,e1,n1⟩⟩:=h
 ·rcases o1 with h | ⟨h,_⟩
  ·exact absurd h h0
  ·exact h
 ·have:=c1.1;omega
theorem way_at (n₀ ht b:Nat) (l:List KV) (v:Value) (es:List Ent) (t:Int) (w:World) (hN:NodeAt n₀ w ht b l) (hc:w.cell? ⟨b,0,none⟩=some v) (hE:EntsAt n₀ w v es) (hR:Rise es) (i:Nat) (hi:wayI ht es t i) :
  Calls prog 180 #[.pointer (some ⟨b,0,none⟩),.int .u32 t] w fun e w'=>e=.returned (.int .i64 i)/\Below w.heap.size w w' :=
 (way_any n₀ ht b l v es t w hN hc hE hR).mono fun e w' ⟨j,he,hj,hb⟩=>⟨by rw [way_one hi hj];exact he,hb⟩
end
section
def RiseK (l:List KV):Prop:=l.Pairwise (fun a b=>a.1<b.1)
def sel (fr tt:Int) (l:List KV):List KV:=l.filter fun x=>decide (fr<=x.1/\x.1<=tt)
theorem sel_append (fr tt:Int) (a b:List KV):sel fr tt (a++b)=sel fr tt a++sel fr tt b:=by simp [sel]
theorem sel_none {fr tt:Int} {l:List KV} (h:∀ x∈l,x.1<fr\/tt<x.1):sel fr tt l=[]:=by
 unfold sel;rw [List.filter_eq_nil_iff];intro x hx;have:=h x hx;simp;omega
theorem sel_one {fr tt:Int} {x:KV} (h1:fr<=x.1) (h2:x.1<=tt):sel fr tt [x]=[x]:=by simp [sel,h1,h2]
structure Parts (es:List Ent) (ls:List (List KV)) (l:List KV):Prop where
 len:ls.length=es.length
 flat:l=ls.flatten
 head:∀ i (hi:i<es.length) (hj:i<ls.length),(ls[i].head?).map Prod.fst=some es[i].key
 rise:RiseK l
theorem flat_take {α:Type} (ls:List (List α)) (i:Nat) (hi:i<ls.length):(ls.take (i+1)).flatten=(ls.take i).flatten++ls[i]:=by
 rw [<- List.take_append_getElem hi,List.flatten_append];simp
theorem flat_split {α:Type} (ls:List (List α)) (i:Nat):ls.flatten=(ls.take i).flatten++(ls.drop i).flatten:=by
 rw [<- List.flatten_append,List.take_append_drop]
theorem mem_take_flat {α:Type} {ls:List (List α)} {i:Nat} {x:α} (h:x∈(ls.take i).flatten):∃ j,∃ hj:j<ls.length,j<i/\x∈ls[j]:=by
 rw [List.mem_flatten] at h
 obtain ⟨p,hp,hx⟩:=h
 obtain ⟨j,hj,rfl⟩:=List.mem_iff_getElem.1 hp
 rw [List.length_take] at hj
 exact ⟨j,by omega,by omega,by simpa using hx⟩
theorem mem_drop_flat {α:Type} {ls:List (List α)} {i:Nat} {x:α} (h:x∈(ls.drop i).flatten):∃ j,∃ hj:j<ls.length,i<=j/\x∈ls[j]:=by
 rw [List.mem_flatten] at h
 obtain ⟨p,hp,hx⟩:=h
 obtain ⟨j,hj,rfl⟩:=List.mem_iff_getElem.1 hp
 rw [List.length_drop] at hj
 exact ⟨i+j,by omega,by omega,by simpa using hx⟩
namespace Parts
variable {es:List Ent} {ls:List (List KV)} {l:List KV}
theorem cross (h:Parts es ls l) {i j:Nat} (hi:i<ls.length) (hj:j<ls.length) (hij:i<j) {x y:KV} (hx:x∈ls[i]) (hy:y∈ls[j]):x.1<y.1:=by
 have:=h.rise
 rw [h.flat,RiseK,List.pairwise_flatten] at this
 exact (List.pairwise_iff_getElem.1 this.2) i j hi hj hij x hx y hy
theorem part (h:Parts es ls l) {i:Nat} (hi:i<ls.length):RiseK ls[i]:=by
 have:=h.rise
 rw [h.flat,RiseK,List.pairwise_flatten] at this
 exact this.1 _ (List.getElem_mem hi)
theorem headKv (h:Parts es ls l) {i:Nat} (hi:i<es.length) (hj:i<ls.length):∃ x,x∈ls[i]/\x.1=es[i].key/\ls[i].head? = some x:=by
 have hh:=h.head i hi hj
 cases hp:ls[i] with
 | nil=>rw [hp] at hh;simp at hh
 | cons x r=>rw [hp] at hh;exact ⟨x,by simp,by simpa using hh,rfl⟩
theorem least (h:Parts es ls l) {i:Nat} (hi:i<es.length) (hj:i<ls.length) {y:KV} (hy:y∈ls[i]):es[i].key<=y.1:=by
 obtain ⟨x,hx,hk,hd⟩:=h.headKv hi hj
 have hr:=h.part hj
 cases hp:ls[i] with
 | nil=>rw [hp] at hx;simp at hx
 | cons z r =>
  rw [hp] at hd hr hy
  simp at hd;subst hd
  rcases List.mem_cons.1 hy with rfl | hm
  ·omega
  ·have:=List.rel_of_pairwise_cons hr hm;omega
theorem riseE (h:Parts es ls l):Rise es:=by
 refine List.pairwise_iff_getElem.2 fun i j hi hj hij => ?_
 obtain ⟨x,hx,hk,_⟩:=h.headKv hi (by rw [h.len];exact hi)
 obtain ⟨y,hy,hk',_⟩:=h.headKv hj (by rw [h.len];exact hj)
 have:=h.cross _ _ hij hx hy
 omega
theorem above (h:Parts es ls l) {i:Nat} (hi:i<es.length) {tt:Int} (hk:tt<es[i].key) (fr:Int):sel fr tt l=sel fr tt (ls.take i).flatten:=by
 rw [h.flat,flat_split ls i,sel_append,sel_none (l:=(ls.drop i).flatten),List.append_nil]
 ·intro x hx
  obtain ⟨j,hj,hij,hm⟩:=mem_drop_flat hx
  right
  have hl:=h.least (by rw [<- h.len];exact hj) hj hm
  rcases Nat.lt_or_eq_of_le hij with hlt | rfl
  ·have:=rise_lt h.riseE hi (by rw [<- h.len];exact hj) hlt;omega
  ·omega
theorem aboveIn (h:Parts es ls l) {i:Nat} (hj:i<ls.length) {tt:Int} (hx:∃ x∈ls[i],tt<x.1) (fr:Int):sel fr tt l=sel fr tt (ls.take (i+1)).flatten:=by
 obtain ⟨x,hx,hk⟩:=hx
 rw [h.flat,flat_split ls (i+1),sel_append,sel_none (l:=(ls.drop (i+1)).flatten),List.append_nil]
 intro y hy
 obtain ⟨j,hj',hij,hm⟩:=mem_drop_flat hy
 have:=h.cross hj hj' (by omega) hx hm
 right;omega
theorem start (h:Parts es ls l) {ht i:Nat} {fr:Int} (hw:wayI ht es fr i) (h0:ht=0->∀ j (hj:j<es.length) (hl:j<ls.length),ls[j]=[es[j].kv]) (tt:Int):sel fr tt (ls.take i).flatten=[]:=by
 refine sel_none fun x hx=>.inl ?_
 obtain ⟨j,hj,hij,hm⟩:=mem_take_flat hx
 have hje:j<es.length:=by rw [<- h.len];exact hj
 have key:(hi:i<es.length)->es[i].key<=fr->x.1<fr:=fun hi hk=>by
  obtain ⟨y,hy,hky,_⟩:=h.headKv hi (by rw [h.len];exact hi)
  have:=h.cross hj _ hij hm hy;omega
 obtain ⟨hle,⟨⟨_,hc,_⟩,hor⟩ | ⟨h1,k,⟨hk0,hk1,hk2⟩,rfl,hno⟩⟩:=hw
 ·rcases hor with hz | ⟨hi,hk⟩
  ·rw [h0 hz j hje hj] at hm
   simp at hm;subst hm
   exact hc j hje hij
  ·exact key hi (by omega)
 ·have hi:k - 1<es.length:=by omega
  exact key hi (by have:=hk1 (k - 1) hi (by omega);omega)
theorem startLeaf {ht i:Nat} {fr:Int} (hw:wayI ht es fr i) (hz:ht=0) {j:Nat} (hj:j<es.length) (hij:i<=j):fr<=es[j].key:=by
 obtain ⟨hle,⟨⟨_,_,hc⟩,_⟩ | ⟨h1,_⟩⟩:=hw
 ·exact hc j hj hij
 ·omega
end Parts
theorem NodeAt.parts {n₀:Nat} {A:World}:∀ {h b:Nat} {l:List KV},NodeAt n₀ A h b l->RiseK l->b<n₀/\∃ v es ls,A.cell? ⟨b,0,none⟩=some v/\EntsAt n₀ A v es/\es≠[]/\Parts es ls l /\
  (h=0->∀ j (hj:j<es.length) (hl:j<ls.length),ls[j]=[es[j].kv]/\es[j].below=none)/\(∀ h',h=h'+1->∀ j (hj:j<es.length) (hl:j<ls.length),∃ c,es[j].below=some ⟨c,0,none⟩/\NodeAt n₀ A h' c ls[j])
 | 0,b,l,⟨h1,v,es,h2,h3,h4,h5,h6⟩,hr=>⟨h1,v,es,es.map (fun e=>[e.kv]),h2,h3,h4,⟨by simp,by rw [h6];clear h6 h5 h4 h3;induction es with | nil=>rfl | cons a r ih=>simp [ih],fun i hi hj=>by simp [Ent.kv],hr⟩,fun _ j hj hl=>⟨by simp,h5 _ (List.getElem_mem hj)⟩,fun h' e=>by omega⟩
 | h+1,b,l,⟨h1,v,es,ls,h2,h3,h4,h5,h6,h7⟩,hr=>⟨h1,v,es,ls,h2,h3,h4,⟨h5,h6,fun i hi hj=>by obtain ⟨c,_,_,c3⟩:=h7 i hi hj;exact c3,hr⟩,fun e=>by omega,fun h' e j hj hl=>by
   obtain rfl:h=h':=by omega
   obtain ⟨c,c1,c2,_⟩:=h7 j hj hl;exact ⟨c,c1,c2⟩⟩
end
section
open Go.RowKit Go.Shelf
theorem below_grown {w w':World} (h:Below w.heap.size w w'):w.grownBy w' none:=⟨h.os,h.tape,h.output,h.size,fun k hk _=>h.block k hk⟩
def encKV (x:KV):Array Value:=#[.int .u32 x.1,.string x.2]
def Rounds (y n₀:Nat) (xs:List KV) (J Jx:List KV->World->Prop):Prop :=
 ∀ q x W1,(q++[x]) <+: xs->J q W1->YieldAt Fence.wide 0 prog y (encKV x) W1 fun e W' =>
  (e=.returned (.bool true)/\J (q++[x]) W'/\Below n₀ W1 W')\/(e=.returned (.bool false)/\Jx (q++[x]) W')
def WalkEnds (n₀:Nat) (fr tt:Int) (l pre:List KV) (J Jx:List KV->World->Prop) (W:World) (e:Ending) (W':World):Prop :=
 (e=.returned (.bool true)/\J (pre++sel fr tt l) W'/\Below n₀ W W') \/
 (e=.returned (.bool false)/\J (pre++sel fr tt l) W'/\Below n₀ W W'/\∃ x∈l,tt<x.1) \/
 (e=.returned (.bool false)/\∃ q,q <+: sel fr tt l/\Jx (pre++q) W')
theorem walk_leaf (y n₀ B:Nat) (fr tt:Int) (xs:List KV) (J Jx:List KV->World->Prop) (hJ:OwnFrom B J) (hY:Rounds y n₀ xs J Jx)
  (b:Nat) (l pre:List KV) (W:World) (hN:NodeAt n₀ W 0 b l) (hR:RiseK l) (hp:(pre++sel fr tt l) <+: xs) (h0:J pre W) :
   Calls prog 129 #[.pointer (some ⟨b,0,none⟩),.int .u32 fr,.int .u32 tt,.func (.yield y) #[] #[]] W (WalkEnds n₀ fr tt l pre J Jx W):=by
 obtain ⟨hb,v,es,ls,hc,hE,hne,hP,hz,_⟩:=hN.parts hR
 have hdr:Below n₀ W W.drew:=(Below.refl n₀ W).drew
 obtain ⟨i0,hi0⟩:=way_exists 0 hP.riseE fr
 have hw:=way_at n₀ _ b l v es fr W.drew (hN.below hdr) hc (hE.below hdr) hP.riseE i0 hi0
 have hil:=hi0.1
 have hst:=hP.start hi0 (fun _ j hj hl=>(hz rfl j hj hl).1) tt
 have HW:=hid (fun (j:Nat) (hj:j<es.length) (hij:i0<=j)=>Parts.startLeaf hi0 rfl hj hij)
 clear hdr hi0
 have HE:=hid hE
 have HP:=hid hP
 have HZ:=hid (hz rfl)
 obtain ⟨g,o,cap,rfl,h1,h2,h3,h4,h5⟩:=hE
 have H5:=hid h5
 have HY:=hid hY
 clear h5 hP hz hY hN
 go_enter func129,ntmps129
 go_upto_region 1 with fail
 go_cut [18,19,20] from 11 to 20 (fun s n i wx=>∃ ob:Nat,s=.slice (some ⟨g,ob,none⟩) (es.length - i0) (cap - i0)/\(i0<es.length->ob=o+i0*3)/\n=.int .i64 ((es.length - i0:Nat):Int)/\i=.int .i64 0/\Below W.heap.size W wx)
 case first =>
  have hbw:b<W.drew.heap.size:=by show b<W.heap.size;omega
  rcases Nat.lt_or_eq_of_le (show i0<=cap by omega) with hcc | hcc
  ·go_region_with (go_at_call 180;refine hw.mono ?_;clear hw;rintro e w' ⟨rfl,hbel⟩;have hc2:=(hbel.cell (p:=⟨b,0,none⟩) hbw).trans hc)
   all_goals (go_wp2_with fail;go_meet;exact ⟨_,rfl,fun _=>rfl,rfl,rfl,((Below.refl W.heap.size W).drew).trans hbel⟩)
  ·have hce:es.length=cap:=by omega
   have HNo:Hid (i0<es.length->False):=hid (fun h=>by omega)
   subst hcc
   clear h1
   go_region_with (go_at_call 180;refine hw.mono ?_;clear hw;rintro e w' ⟨rfl,hbel⟩;have hc2:=(hbel.cell (p:=⟨b,0,none⟩) hbw).trans hc)
   all_goals (go_wp2_with fail;go_meet;exact ⟨o,by simp [hce],fun h=>(HNo.out h).elim,by simp [hce],rfl,((Below.refl W.heap.size W).drew).trans hbel⟩)
 case rest =>
  obtain ⟨ob,rfl,hob,rfl,rfl,hbel⟩:=hcut
  clear hc hw
  have hWc:Below n₀ W wc:=(show Below W.heap.size W wc from hbel).mono h3
  have hJc:J (pre++sel fr tt (ls.take (i0+0)).flatten) wc:=by
   rw [Nat.add_zero,hst,List.append_nil]
   exact hJ pre W wc none h0 (below_grown hbel) (fun r e=>by cases e)
  clear hbel h0
  go_wp2_with fail
  go_loopg [20] (es.length - i0) (fun gk i wr=>∃ m:Nat,m+gk=es.length - i0/\i=.int .i64 m/\J (pre++sel fr tt (ls.take (i0+m)).flatten) wr/\Below n₀ W wr)
  case atStart=>exact ⟨0,by omega,rfl,hJc,hWc⟩
  case round =>
   clear hJc hWc
   obtain ⟨m,hm,rfl,hJm,hbr⟩:=hrel
   have HM:=hid hm
   clear hm
   have hsr:=hbr.size
   by_cases hlt:m<es.length - i0
   ·have hk:i0+m<es.length:=by omega
    have hkl:i0+m<ls.length:=by rw [HP.out.len];exact hk
    obtain rfl:=hob (by omega)
    have eo:o+i0*3+m*3=o+(i0+m)*3:=by omega
    have c0:=(hbr.cell (p:=⟨g,o+(i0+m)*3,none⟩) h2).trans (H5.out _ hk).1
    have c1:=(hbr.cell (p:=⟨g,o+(i0+m)*3+1,none⟩) h2).trans (H5.out _ hk).2.1
    have c2:=(hbr.cell (p:=⟨g,o+(i0+m)*3+2,none⟩) h2).trans (H5.out _ hk).2.2
    rw [<- eo] at c0 c1 c2
    clear eo hob
    have hlt':(m:Int)<((es.length - i0:Nat):Int):=by omega
    have HA:=hid (fun (q:tt<(es[i0+m]'hk).key)=>HP.out.above hk q fr)
    have HF:=hid (flat_take ls (i0+m) hkl)
    have HX:=hid (HP.out.headKv hk hkl)
    have HL:=hid (HW.out (i0+m) hk (by omega))
    have HO:=hid (show ls[i0+m]=[((es[i0+m]'hk).key,(es[i0+m]'hk).val)] from (HZ.out _ hk hkl).1)
    rw [(HZ.out _ hk hkl).2] at c2
    generalize (es[i0+m]'hk).key=ky at *
    generalize (es[i0+m]'hk).val=vy at *
    by_cases hgt:tt<ky
    ·go_wp2_with fail
     go_ret
     obtain ⟨x,hx,hxk,_⟩:=HX.out
     refine .inr (.inl ⟨rfl,?_,hbr.alloc (by omega) _,x,?_,by omega⟩)
     ·rw [HA.out hgt];exact hJ.alloc _ hJm
     ·rw [HP.out.flat];exact List.mem_flatten_of_mem (List.getElem_mem hkl) hx
    ·have hle:ky<=tt:=by omega
     have hbn:Below n₀ W (wr.alloc (.cells #[.int .u32 ky,.string vy,.pointer none] 254)):=hbr.alloc (by omega) _
     have HS:Hid (sel fr tt ls[i0+m]=[(ky,vy)]):=hid (by rw [HO.out];exact sel_one HL.out hle)
     have HQ:Hid (pre++sel fr tt (ls.take (i0+m)).flatten++[(ky,vy)] <+: xs):=hid (by
      rw [<- HS.out,List.append_assoc,<- sel_append,<- HF.out];refine (List.prefix_append_right_inj pre).2 ?_ |>.trans hp;rw [HP.out.flat,flat_split ls (i0+m+1),sel_append];exact List.prefix_append _ _)
     obtain ⟨fn,tmps,assign,body,hy,hR2⟩:=HY.out _ (ky,vy) _ HQ.out (hJ.alloc (.cells #[.int .u32 ky,.string vy,.pointer none] 254) hJm)
     simp only [encKV] at hy
     go_upto_region 9 with fail
     refine (wpIn_wide (n:=0)).1 ?_
     gi_wp2
     refine ⟨rfl,hR2.mono ?_⟩
     clear hR2 hy
     rintro e w2 (⟨rfl,hJ2,hb2⟩ | ⟨rfl,hx2⟩)
     ·gi_wp2
      go_wp2_with fail
      go_roundg (es.length - i0 - (m+1))
      case measure=>have:=HM.out;omega
      case rel=>exact ⟨m+1,by have:=HM.out;omega,by go_num,by rw [<- Nat.add_assoc,HF.out,sel_append,<- List.append_assoc,HS.out];exact hJ2,hbn.trans hb2⟩
     ·gi_wp2
      go_wp2_with fail
      go_ret
      refine .inr (.inr ⟨rfl,sel fr tt (ls.take (i0+m)).flatten++[(ky,vy)],?_,by rw [<- List.append_assoc];exact hx2⟩)
      rw [HP.out.flat,flat_split ls (i0+m+1),sel_append,HF.out,sel_append,HS.out]
      exact List.prefix_append _ _
   ·have hme:i0+m=ls.length:=by rw [HP.out.len];have:=HM.out;omega
    have HL:=hid (show l=(ls.take (i0+m)).flatten by rw [hme,List.take_length,HP.out.flat])
    have hlt':((es.length - i0:Nat):Int)<=(m:Int):=by omega
    clear hme hob
    go_wp2_with fail
    go_ret
    exact .inl ⟨rfl,by rw [HL.out];exact hJm,hbr⟩
end
section
open Go.RowKit Go.Shelf
theorem walk_any (y n₀ B:Nat) (fr tt:Int) (xs:List KV) (J Jx:List KV->World->Prop) (hJ:OwnFrom B J) (hY:Rounds y n₀ xs J Jx) (ht:Nat) :
  ∀ (b:Nat) (l pre:List KV) (W:World),NodeAt n₀ W ht b l->n₀<=W.heap.size->RiseK l->(pre++sel fr tt l) <+: xs->J pre W ->
   Calls prog 129 #[.pointer (some ⟨b,0,none⟩),.int .u32 fr,.int .u32 tt,.func (.yield y) #[] #[]] W (WalkEnds n₀ fr tt l pre J Jx W):=by
 induction ht with
 | zero=>intro b l pre W hN _ hR hp h0;exact walk_leaf y n₀ B fr tt xs J Jx hJ hY b l pre W hN hR hp h0
 | succ h ih =>
  intro b l pre W hN hn hR hp h0
  obtain ⟨hb,v,es,ls,hc,hE,hne,hP,hz,hs⟩:=hN.parts hR
  have hdr:Below n₀ W W.drew:=(Below.refl n₀ W).drew
  obtain ⟨i0,hi0⟩:=way_exists (h+1) hP.riseE fr
  have hw:=way_at n₀ _ b l v es fr W.drew (hN.below hdr) hc (hE.below hdr) hP.riseE i0 hi0
  have hil:=way_inner hi0 (by omega) hne
  have hst:=hP.start hi0 (by omega) tt
  clear hdr
  have HE:=hid hE
  have HP:=hid hP
  have HS:=hid hs
  obtain ⟨g,o,cap,rfl,h1,h2,h3,h4,h5⟩:=hE
  have H5:=hid h5
  have HY:=hid hY
  have HI:=hid ih
  clear h5 hP hs hz hY ih hN
  go_enter func129,ntmps129
  go_upto_region 1 with fail
  go_cut [18,19,20] from 11 to 20 (fun s n i wx=>s=.slice (some ⟨g,o+i0*3,none⟩) (es.length - i0) (cap - i0)/\n=.int .i64 ((es.length - i0:Nat):Int)/\i=.int .i64 0/\Below W.heap.size W wx)
  case first =>
   have hcc:i0<cap:=by omega
   have hbw:b<W.drew.heap.size:=by show b<W.heap.size;omega
   go_region_with (go_at_call 180;refine hw.mono ?_;clear hw;rintro e w' ⟨rfl,hbel⟩;have hc2:=(hbel.cell (p:=⟨b,0,none⟩) hbw).trans hc)
   all_goals (go_wp2_with fail;go_meet;exact ⟨rfl,rfl,rfl,((Below.refl W.heap.size W).drew).trans hbel⟩)
  case rest =>
   obtain ⟨rfl,rfl,rfl,hbel⟩:=hcut
   clear hc hw
   have hWc:Below n₀ W wc:=(show Below W.heap.size W wc from hbel).mono h3
   have hJc:J (pre++sel fr tt (ls.take (i0+0)).flatten) wc:=by
    rw [Nat.add_zero,hst,List.append_nil]
    exact hJ pre W wc none h0 (below_grown hbel) (fun r e=>by cases e)
   clear hbel h0
   go_wp2_with fail
   go_loopg [20] (es.length - i0) (fun gk i wr=>∃ m:Nat,m+gk=es.length - i0/\i=.int .i64 m/\J (pre++sel fr tt (ls.take (i0+m)).flatten) wr/\Below n₀ W wr)
   case atStart=>exact ⟨0,by omega,rfl,hJc,hWc⟩
   case round =>
    clear hJc hWc
    obtain ⟨m,hm,rfl,hJm,hbr⟩:=hrel
    have HM:=hid hm
    clear hm
    have hsr:=hbr.size
    by_cases hlt:m<es.length - i0
    ·have hk:i0+m<es.length:=by omega
     have hkl:i0+m<ls.length:=by rw [HP.out.len];exact hk
     have hgw:g<n₀:=h2
     have eo:o+i0*3+m*3=o+(i0+m)*3:=by omega
     have c0:=(hbr.cell (p:=⟨g,o+(i0+m)*3,none⟩) hgw).trans (H5.out _ hk).1
     have c1:=(hbr.cell (p:=⟨g,o+(i0+m)*3+1,none⟩) hgw).trans (H5.out _ hk).2.1
     have c2:=(hbr.cell (p:=⟨g,o+(i0+m)*3+2,none⟩) hgw).trans (H5.out _ hk).2.2
     rw [<- eo] at c0 c1 c2
     clear eo
     have hlt':(m:Int)<((es.length - i0:Nat):Int):=by omega
     obtain ⟨c,hcb,hcn⟩:=HS.out h rfl _ hk hkl
     rw [hcb] at c2
     have HA:=hid (fun (q:tt<(es[i0+m]'hk).key)=>HP.out.above hk q fr)
     have HN:=hid (hcn.below hbr)
     have HF:=hid (flat_take ls (i0+m) hkl)
     have HX:=hid (HP.out.headKv hk hkl)
     clear hcb hcn
     generalize (es[i0+m]'hk).key=ky at *
     generalize (es[i0+m]'hk).val=vy at *
     by_cases hgt:tt<ky
     ·go_wp2_with fail
      go_ret
      obtain ⟨x,hx,hxk,_⟩:=HX.out
      refine .inr (.inl ⟨rfl,?_,hbr.alloc (by omega) _,x,?_,by omega⟩)
      ·rw [HA.out hgt];exact hJ.alloc _ hJm
      ·rw [HP.out.flat];exact List.mem_flatten_of_mem (List.getElem_mem hkl) hx
     ·have hle:ky<=tt:=by omega
      have hbn:Below n₀ W (wr.alloc (.cells #[.int .u32 ky,.string vy,.pointer (some ⟨c,0,none⟩)] 254)):=hbr.alloc (by omega) _
      have HC:=hid (HI.out c (ls[i0+m]'hkl) (pre++sel fr tt (ls.take (i0+m)).flatten) (wr.alloc (.cells #[.int .u32 ky,.string vy,.pointer (some ⟨c,0,none⟩)] 254))
       (HN.out.below ((Below.refl n₀ wr).alloc (by omega) _)) (by simp;omega) (HP.out.part hkl)
       (by rw [List.append_assoc,<- sel_append,<- HF.out];refine (List.prefix_append_right_inj pre).2 ?_ |>.trans hp;rw [HP.out.flat,flat_split ls (i0+m+1),sel_append];exact List.prefix_append _ _) (hJ.alloc _ hJm))
      go_wp2_with (go_at_call 129;refine HC.out.mono ?_;clear HC;rintro e w2 (⟨rfl,hJ2,hb2⟩ | ⟨rfl,hJ2,hb2,hx2⟩ | ⟨rfl,q,hq,hx2⟩))
      ·go_roundg (es.length - i0 - (m+1))
       case measure=>have:=HM.out;omega
       case rel=>exact ⟨m+1,by have:=HM.out;omega,by go_num,by rw [<- Nat.add_assoc,HF.out,sel_append,<- List.append_assoc];exact hJ2,hbn.trans hb2⟩
      ·go_ret
       refine .inr (.inl ⟨rfl,by rw [HP.out.aboveIn hkl hx2 fr,HF.out,sel_append,<- List.append_assoc];exact hJ2,hbn.trans hb2,?_⟩)
       obtain ⟨x,hx,hxk⟩:=hx2
       exact ⟨x,by rw [HP.out.flat];exact List.mem_flatten_of_mem (List.getElem_mem hkl) hx,hxk⟩
      ·go_ret
       refine .inr (.inr ⟨rfl,sel fr tt (ls.take (i0+m)).flatten++q,?_,by rw [<- List.append_assoc];exact hx2⟩)
       rw [HP.out.flat,flat_split ls (i0+m+1),sel_append,HF.out,sel_append,List.append_assoc]
       exact (List.prefix_append_right_inj _).2 (hq.trans (List.prefix_append _ _))
    ·have hme:i0+m=ls.length:=by rw [HP.out.len];have:=HM.out;omega
     have HL:=hid (show l=(ls.take (i0+m)).flatten by rw [hme,List.take_length,HP.out.flat])
     have hlt':((es.length - i0:Nat):Int)<=(m:Int):=by omega
     clear hme
     go_wp2_with fail
     go_ret
     exact .inl ⟨rfl,by rw [HL.out];exact hJm,hbr⟩
end
section
open Go.RowKit Go.Shelf
attribute [local go_sem] Oper.semAt_some
def TreeIs (n₀:Nat) (W:World) (root:Option Addr) (l:List KV):Prop :=
 RiseK l/\n₀<=W.heap.size/\((root=none/\l=[])\/∃ ht b,root=some ⟨b,0,none⟩/\NodeAt n₀ W ht b l)
theorem TreeIs.below {n₀:Nat} {A B:World} {r:Option Addr} {l:List KV} (h:TreeIs n₀ A r l) (hb:Below n₀ A B):TreeIs n₀ B r l :=
 ⟨h.1,Nat.le_trans h.2.1 hb.size,h.2.2.imp id fun ⟨ht,b,e,hn⟩=>⟨ht,b,e,hn.below hb⟩⟩
theorem TreeIs.mono {n₀ n₁:Nat} {A:World} {r:Option Addr} {l:List KV} (h:TreeIs n₀ A r l) (hn:n₀<=n₁) (hs:n₁<=A.heap.size):TreeIs n₁ A r l :=
 ⟨h.1,hs,h.2.2.imp id fun ⟨ht,b,e,hN⟩=>⟨ht,b,e,hN.mono hn hs⟩⟩
theorem range_any (root:Option Addr) (n fr tt:Int) (w:World) :
  Calls prog 78 #[.agg #[.pointer root,.int .i64 n],.int .u32 fr,.int .u32 tt] w fun e w' =>
   e=.returned (.func (.func 128) #[] #[.pointer (some ⟨w.heap.size,0,none⟩),.pointer (some ⟨w.heap.size+1,0,none⟩),.pointer (some ⟨w.heap.size+2,0,none⟩)]) /\
   w'=((w.alloc (.cells #[.pointer root,.int .i64 n] 109)).alloc (.cells #[.int .u32 fr] 141)).alloc (.cells #[.int .u32 tt] 141):=by
 have hmf:∀ (fn:Fn) (first cap:Array Value) (w:World),(Instr.makeFunc fn first cap).run prog w=.ok (.func fn first cap) w:=fun _ _ _ _=>rfl
 go_enter func78,ntmps78
 go_wp2
 go_ret
 exact ⟨rfl,rfl⟩
theorem range1_gives (n₀ bt bf bo:Nat) (root:Option Addr) (fr tt:Int) (l:List KV) (w:World) (hT:TreeIs n₀ w root l)
  (h1:bt<w.heap.size) (h2:bf<w.heap.size) (h3:bo<w.heap.size) (c1:w.cell? ⟨bt,0,none⟩=some (.pointer root)) (c2:w.cell? ⟨bf,0,none⟩=some (.int .u32 fr)) (c3:w.cell? ⟨bo,0,none⟩=some (.int .u32 tt)) :
  Gives prog 128 #[.pointer (some ⟨bt,0,none⟩),.pointer (some ⟨bf,0,none⟩),.pointer (some ⟨bo,0,none⟩)] encKV n₀ (sel fr tt l) w:=by
 intro y J Jx W hW hy hJ hJx hY h0
 have hT':=hT.below (hW.mono hT.2.1)
 have c1':=(hW.cell (p:=⟨bt,0,none⟩) h1).trans c1
 have c2':=(hW.cell (p:=⟨bf,0,none⟩) h2).trans c2
 have c3':=(hW.cell (p:=⟨bo,0,none⟩) h3).trans c3
 have hR:Rounds y n₀ (sel fr tt l) J Jx:=fun q x W1 hq hj=>YieldAt.mono (hY q x W1 hq hj) fun e W' h=>h.imp (fun ⟨a,b,c,_⟩=>⟨a,b,c⟩) (fun ⟨a,b,_⟩=>⟨a,b⟩)
 clear c1 c2 c3 hT
 obtain ⟨hrk,hns,(⟨rfl,rfl⟩ | ⟨ht,b,rfl,hN⟩)⟩:=hT'
 ·go_enter func128,ntmps128
  go_wp2
  go_end0
  exact ⟨⟨_,rfl⟩,.inl h0⟩
 ·have hw:=walk_any y n₀ _ fr tt _ J Jx hJ hR ht b l [] W hN hns hrk (List.prefix_refl _) h0
  clear hR hY hN
  go_enter func128,ntmps128
  go_wp2_with (go_at_call 129;refine hw.mono ?_;clear hw;rintro e w2 (⟨rfl,hJ2,_⟩ | ⟨rfl,hJ2,_⟩ | ⟨rfl,q,hq,hx⟩))
  ·go_end0
   exact ⟨⟨_,rfl⟩,.inl hJ2⟩
  ·go_end0
   exact ⟨⟨_,rfl⟩,.inl hJ2⟩
  ·go_end0
   exact ⟨⟨_,rfl⟩,.inr ⟨q,hq,hx⟩⟩
end
section
open Go.RowKit Go.Shelf
attribute [local go_sem] Oper.semAt_some
theorem range_gives (n₀:Nat) (root:Option Addr) (n fr tt:Int) (l:List KV) (w:World) (hT:TreeIs n₀ w root l) :
  Calls prog 78 #[.agg #[.pointer root,.int .i64 n],.int .u32 fr,.int .u32 tt] w fun e w' =>
   ∃ lb,e=.returned (.func (.func 128) #[] lb)/\Gives prog 128 lb encKV n₀ (sel fr tt l) w'/\Below w.heap.size w w':=by
 refine (range_any root n fr tt w).mono ?_
 rintro e w' ⟨rfl,rfl⟩
 have hb:Below w.heap.size w (((w.alloc (.cells #[.pointer root,.int .i64 n] 109)).alloc (.cells #[.int .u32 fr] 141)).alloc (.cells #[.int .u32 tt] 141)):=(((Below.refl _ w).alloc nlr _).alloc (by simp) _).alloc (by simp;omega) _
 refine ⟨_,rfl,range1_gives n₀ _ _ _ root fr tt l _ (hT.below (hb.mono hT.2.1)) (by simp;omega) (by simp) (by simp) ?_ ?_ ?_,hb⟩
 ·have:=(Below.heap_alloc _ (.cells #[.int .u32 tt] 141) w.heap.size (by simp;omega)).trans ((Below.heap_alloc _ (.cells #[.int .u32 fr] 141) w.heap.size (by simp)).trans (World.alloc_heap_new w (.cells #[.pointer root,.int .i64 n] 109)))
  simp only [World.cell?,this];rfl
 ·have:=(Boxed.new (w.alloc (.cells #[.pointer root,.int .i64 n] 109)) 141 (.int .u32 fr)).alloc (.cells #[.int .u32 tt] 141)
  simpa using this.cell
 ·have:=(Boxed.new ((w.alloc (.cells #[.pointer root,.int .i64 n] 109)).alloc (.cells #[.int .u32 fr] 141)) 141 (.int .u32 tt))
  simpa using this.cell
def getK (l:List KV) (k:Int):Option ByteArray:=((sel k k l).head?).map Prod.snd
theorem own_boxed {W W':World} {row:Option Nat} {B B':Nat} {t:TypeId} {v:Value} (h:Boxed W B t v) (hg:W.grownBy W' row) (hr:∀ r,row=some r->B'<=r/\∃ o:Obj,W.heap[r]? = some o/\o.isCells=false):Boxed W' B t v :=
 boxed_own B t (fun _:Unit=>v) () W W' row h hg (fun r e=>(hr r e).2)
theorem own_below {W W' w₀:World} {row:Option Nat} {n B':Nat} (h:Below n w₀ W) (hn:n<=w₀.heap.size) (hB:n<=B') (hg:W.grownBy W' row) (hr:∀ r,row=some r->B'<=r/\∃ o:Obj,W.heap[r]? = some o/\o.isCells=false):Below n w₀ W' :=
 ownFrom_below (β:=Unit) hn hB () W W' row h hg hr
theorem boxed_below {W W':World} {B:Nat} {t:TypeId} {v:Value} (h:Boxed W B t v) (hb:Below W.heap.size W W'):Boxed W' B t v:=(hb.block B h.lt).trans h
theorem below_putDeferred {n:Nat} {w W:World} {D:Nat} {o:Obj} (h:Below n w W) (hn:n<=D) (hD:W.heap[D]? = some o) (o':Obj):Below n w (W.putObj D o') :=
 h.trans ((Below.refl n W).grown (grownBy_putObj' W D o') (by have:=(Array.getElem?_eq_some_iff.1 hD).1;omega) (fun k e=>by cases e;omega))
theorem boxed_put {W:World} {B D:Nat} {t:TypeId} {v:Value} {o:Obj} (h:Boxed W B t v) (hD:W.heap[D]? = some o) (ho:o.isCells=false) (o':Obj):Boxed (W.putObj D o') B t v :=
 (World.putObj_heap_other (by rintro rfl;rw [show W.heap[B]? = _ from h] at hD;cases hD;cases ho)).trans h
theorem results_two {fn:Func} {p q:Tmp} {tmps:Array Value} {a b:Nat} {w:World} {v1 v2:Value} (h:fn.results=#[.cell p 9,.cell q 4]) (ha:tmps[p]?.getD undef=.pointer (some ⟨a,0,none⟩)) (hb:tmps[q]?.getD undef=.pointer (some ⟨b,0,none⟩))
  (h1:w.cell? ⟨a,0,none⟩=some v1) (h2:w.cell? ⟨b,0,none⟩=some v2):(results fn tmps).run prog w=.ok (.tuple #[v1,v2]) w:=by
 simp only [results,h]
 simp [Sem.run_bind,Result.andThen,ha,hb,h1,h2,go_sem]
theorem get_any (n₀:Nat) (root:Option Addr) (n k:Int) (l:List KV) (w:World) (hT:TreeIs n₀ w root l) :
  Calls prog 186 #[.agg #[.pointer root,.int .i64 n],.int .u32 k] w fun e w' =>
   e=.returned (.tuple #[.string ((getK l k).getD ⟨#[]⟩),.bool (getK l k).isSome])/\Below w.heap.size w w':=by
 obtain ⟨w1,hw1⟩:∃ w1,(((w.alloc (.cells #[.pointer root,.int .i64 n] 109)).alloc (.cells #[.string { data:=#[] }] 9)).alloc (.cells #[.bool false] 4))=w1:=⟨_,rfl⟩
 have hb1:Below w.heap.size w w1:=by rw [<- hw1];exact (((Below.refl _ w).alloc nlr _).alloc (by simp) _).alloc (by simp;omega) _
 have hB1:Boxed w1 (w.heap.size+1) 9 (.string { data:=#[] }):=by
  rw [<- hw1];have:=(Boxed.new (w.alloc (.cells #[.pointer root,.int .i64 n] 109)) 9 (.string { data:=#[] })).alloc (.cells #[.bool false] 4);simpa using this
 have hB2:Boxed w1 (w.heap.size+1+1) 4 (.bool false):=by
  rw [<- hw1];have:=Boxed.new ((w.alloc (.cells #[.pointer root,.int .i64 n] 109)).alloc (.cells #[.string { data:=#[] }] 9)) 4 (.bool false);simpa using this
 have hs1:w1.heap.size=w.heap.size+3:=by rw [<- hw1];simp
 have hr:=range_gives n₀ root n k k l w1 (hT.below (hb1.mono hT.2.1))
 have HW1:=hid hw1
 have HS1:=hid hs1
 have HB:=hid (And.intro hB1 hB2)
 have HT:=hid hT
 have HB1:=hid hb1
 clear hT hs1 hB1 hB2 hb1 hw1
 refine calls_marks func186 rfl ?_
 simp only [ntmps186,List.size_toArray,List.length_cons,List.length_nil,Nat.reduceAdd,Nat.reduceSub,Array.replicate_succ,Array.replicate_zero,List.push_toArray,List.append_toArray,List.nil_append,List.cons_append]
 go_wp2_with (go_at_call 78;rw [HW1.out];refine hr.mono ?_;clear hr;rintro e w' ⟨lb,rfl,hG,hb⟩)
 have hs1:=HS1.out
 have hn0:=HT.out.2.1
 have hbw:=HB1.out.trans (hb.mono (by omega))
 have hsz:=hb.size
 refine (wpIn_wide (n:=0)).1 ?_
 refine range_law (gf:=128) (lb:=lb) rfl (enters_of func128 (by kernel_rfl) rfl) hG (Below.refl _ _) (by omega) (fun _=>rfl)
  (fun pre W=>pre=[]/\Boxed W (w.heap.size+1) 9 (.string { data:=#[] })/\Boxed W (w.heap.size+1+1) 4 (.bool false)/\Below w.heap.size w W)
  (fun c pre W=>c=.ret/\∃ x,pre=[x]/\Boxed W (w.heap.size+1) 9 (.string x.2)/\Boxed W (w.heap.size+1+1) 4 (.bool true)/\Below w.heap.size w W)
  (fun s A B row hs hg hr=>⟨hs.1,own_boxed hs.2.1 hg hr,own_boxed hs.2.2.1 hg hr,own_below hs.2.2.2 nlr (by omega) hg hr⟩)
  (fun c s A B row hs hg hr=>by obtain ⟨h1,x,h2,h3,h4,h5⟩:=hs;exact ⟨h1,x,h2,own_boxed h3 hg hr,own_boxed h4 hg hr,own_below h5 nlr (by omega) hg hr⟩)
  ⟨rfl,boxed_below HB.out.1 hb,boxed_below HB.out.2 hb,hbw⟩
  (fun x a' _=>a'={ tmps:=#[.agg #[.pointer root,.int .i64 n],.int .u32 k,.pointer (some ⟨w.heap.size,0,none⟩),undef,.pointer (some ⟨w.heap.size+1,0,none⟩),.pointer (some ⟨w.heap.size+1+1,0,none⟩),undef,.string x.2,.agg #[.pointer root,.int .i64 n],.int .u32 k,.int .u32 k,.func (.func 128) #[] lb,.int .u32 x.1,.string x.2,undef],defers:=[] })
  (fun _ _ _ _ _ _ hs _ _=>hs) ?assign ?body ?done ?stop
 case assign =>
  intro y pre x W K _ hi hK
  simp only [encKV]
  gi_wp2
  exact hK _ _ (KeepsFrom.refl _ _) (Below.refl _ _) hi rfl
 case body =>
  rintro y pre x a' W hy1 hy2 hp ⟨rfl,hc1,hc2,hbW⟩ rfl
  have d1:=hc1.cell
  have d2:=hc2.cell
  have f1:=hc1.frozen
  have f2:=hc2.frozen
  gi_wp2
  refine ⟨((KeepsOthers.setCell _ _ _).trans (KeepsOthers.setCell _ _ _)).from _,rfl,x,rfl,(hc1.set _).other (by omega) _,(hc2.other (by omega) _).set _,(hbW.setCell (p:=⟨w.heap.size+1,0,none⟩) (by simp) _).setCell (p:=⟨w.heap.size+1+1,0,none⟩) (by simp;omega) _⟩
 case done =>
  rintro W ⟨he,hc1,hc2,hbW⟩ hD
  have d1:=hc1.cell
  have d2:=hc2.cell
  have f1:=hc1.frozen
  have f2:=hc2.frozen
  have HE:=hid he
  clear he
  go_wp2_with fail
  have e1:=((hc1.set (.string { data:=#[] })).other (show w.heap.size+1≠w.heap.size+1+1 by omega) (.bool false))
  have e2:=((hc2.other (show w.heap.size+1+1≠w.heap.size+1 by omega) (.string { data:=#[] })).set (.bool false))
  have e3:=(hbW.setCell (p:=⟨w.heap.size+1,0,none⟩) (by simp) (.string { data:=#[] })).setCell (p:=⟨w.heap.size+1+1,0,none⟩) (by simp;omega) (.bool false)
  have e4:=((KeepsOthers.setCell W ⟨w.heap.size+1,0,none⟩ (.string { data:=#[] })).trans (KeepsOthers.setCell _ ⟨w.heap.size+1+1,0,none⟩ (.bool false))).same w'.heap.size _ hD rfl
  generalize (W.setCell ⟨w.heap.size+1,0,none⟩ (.string { data:=#[] })).setCell ⟨w.heap.size+1+1,0,none⟩ (.bool false)=W2 at *
  refine ⟨by simp,.inl ⟨_,_,rfl,run_takeDeferred e4,?_⟩⟩
  have g1:=(boxed_put e1 e4 rfl (.deferred none)).cell
  have g2:=(boxed_put e2 e4 rfl (.deferred none)).cell
  refine ⟨_,results_two rfl rfl rfl g1 g2,?_,below_putDeferred e3 (by omega) e4 _⟩
  simp [getK,HE.out]
 case stop =>
  rintro c pre W hp ⟨rfl,x,rfl,hc1,hc2,hbW⟩ hD
  refine (wpIn_wide (n:=0)).2 ?_
  go_wp2_with fail
  refine ⟨by simp,.inl ⟨_,_,rfl,run_takeDeferred hD,?_⟩⟩
  have g1:=(boxed_put hc1 hD rfl (.deferred none)).cell
  have g2:=(boxed_put hc2 hD rfl (.deferred none)).cell
  refine ⟨_,results_two rfl rfl rfl g1 g2,?_,below_putDeferred hbW (by omega) hD _⟩
  obtain ⟨r,hr⟩:=hp
  simp [getK,<- hr]
end
section
open Go.RowKit Go.Shelf
theorem Tryz.infoEntry:(prog.info? 254).map (fun i=>(i.zero,i.size,i.bytes))=some (some (.agg #[.int .u32 0,.string { data:=#[] },.pointer none]),3,32):=by kernel_rfl
def entCells (es:List Ent):List Value:=es.flatMap Ent.cells
theorem entCells_len (es:List Ent):(entCells es).length=es.length*3:=by
 induction es with
 | nil=>rfl
 | cons a r ih=>simp [entCells,Ent.cells] at *;omega
theorem entCells_append (a b:List Ent):entCells (a++b)=entCells a++entCells b:=by simp [entCells]
theorem entCells_at:∀ (es:List Ent) (i f:Nat) (hi:i<es.length),f<3->(entCells es)[i*3+f]? = (es[i].cells)[f]?
 | a::r,0,f,_,hf=>by
  have:entCells (a::r)=a.cells++entCells r:=by simp [entCells]
  rw [this,List.getElem?_append_left (by simp [Ent.cells];omega)]
  simp
 | a::r,i+1,f,hi,hf=>by
  have:entCells (a::r)=a.cells++entCells r:=by simp [entCells]
  rw [this,List.getElem?_append_right (by simp [Ent.cells];omega)]
  have e:(i+1)*3+f - a.cells.length=i*3+f:=by simp [Ent.cells];omega
  rw [e,entCells_at r i f (by simpa using hi) hf]
  simp
theorem entCells_one (es:List Ent):∀ u∈entCells es,u.oneCell'=true:=by
 intro u hu
 simp only [entCells,List.mem_flatMap] at hu
 obtain ⟨e,_,he⟩:=hu
 simp only [Ent.cells,List.mem_cons,List.not_mem_nil,or_false] at he
 rcases he with rfl | rfl | rfl <;> rfl
theorem addr_add_o (g o j:Nat):((⟨g,o,none⟩:Addr).add j)=⟨g,o+j,none⟩:=by unfold Addr.add;split <;> simp_all
theorem EntsAt.cells {n₀:Nat} {W:World} {g o len cap:Nat} {es:List Ent} (h:EntsAt n₀ W (.slice (some ⟨g,o,none⟩) len cap) es):∀ j u,(entCells es)[j]? = some u->W.cell? ((⟨g,o,none⟩:Addr).add j)=some u:=by
 intro j u hu
 obtain ⟨g',o',cap',e,h1,h2,h3,h4,h5⟩:=h
 injection e with e1 e2 e3
 injection e1 with e1
 injection e1 with e4 e5
 subst e4;subst e5
 have hj:j<es.length*3:=by rw [<- entCells_len];exact (List.getElem?_eq_some_iff.1 hu).1
 have hi:j / 3<es.length:=by omega
 have hf:j % 3<3:=Nat.mod_lt _ (by omega)
 have ej:j=j / 3*3+j % 3:=by omega
 rw [addr_add_o]
 rw [ej,entCells_at es _ _ hi hf] at hu
 obtain ⟨a,b,c⟩:=h5 (j / 3) hi
 have:j % 3=0\/j % 3=1\/j % 3=2:=by omega
 rcases this with h0 | h0 | h0 <;> rw [h0] at hu <;> simp [Ent.cells] at hu
 ·rw [show o+j=o+j / 3*3 by omega,a,<- hu]
 ·rw [show o+j=o+j / 3*3+1 by omega,b,<- hu]
 ·rw [show o+j=o+j / 3*3+2 by omega,c,<- hu]
theorem own_ents {w:World} {base:Nat} {v:Value} {es:List Ent} (h:w.ownsRow base 254 3 v es.length (entCells es)) (hv:v≠.slice none 0 0) (hl:es.length<1000000):EntsAt w.heap.size w v es:=by
 have hc:=h
 rcases h.2 with ⟨h1,_⟩ | ⟨g,cap,cur,rfl,h1,hg,hle,_⟩
 ·exact absurd h1 hv
 ·refine ⟨g,0,cap,rfl,hle,(Array.getElem?_eq_some_iff.1 hg).1,Nat.le_refl _,hl,fun i hi => ?_⟩
  have c:=fun f (hf:f<3) (u:Value) (hu:(es[i].cells)[f]? = some u)=>hc.cells (g:=g) rfl (i*3+f) u (by rw [entCells_at es i f hi hf];exact hu)
  have a0:=c 0 (by omega) _ rfl
  have a1:=c 1 (by omega) _ rfl
  have a2:=c 2 (by omega) _ rfl
  rw [addr_add] at a0 a1 a2
  refine ⟨?_,?_,?_⟩
  ·rw [Nat.zero_add];exact a0
  ·rw [Nat.zero_add];exact a1
  ·rw [Nat.zero_add];exact a2
theorem grow_any (n:Nat) (w:World) (h0:0<n) (h1:n<1000000) :
  Calls prog 210 #[.slice none 0 0,.int .i64 n] w fun e w'=>∃ v,e=.returned v/\w'.ownsRow w.heap.size 254 3 v 0 []/\v≠.slice none 0 0/\Below w.heap.size w w':=by
 obtain ⟨i0,hi,hz0,hz1,hz2⟩:=info_parts Tryz.infoEntry
 have hr:=fun ty=>Lib.run_append_nil_zeros w 250 3 ty 254 i0 _ .i64 .i64 underlying250 underlying3 hi hz0 n h0 (by omega) (by omega) (by rw [hz2];omega)
 have hg1:=grownCap_ge w n 0 254
 have hg2:=grownCap_le_maxLen w n 0 254 (by unfold maxLen;omega)
 have h0':(0:Int)<n:=by omega
 go_enter func210,ntmps210
 go_wp2_with (at_builtin;refine Lib.wpList_append_run _ rfl _ _ _ _ rfl _ _ rfl rfl _ _ (hr _) ?_)
 go_ret
 refine ⟨_,rfl,⟨rfl,.inr ⟨w.heap.size,_,_,rfl,Nat.le_refl _,World.alloc_heap_new w _,by omega,hg2,?_,by simp⟩⟩,by simp,((Below.refl _ w).alloc nlr _).drew⟩
 rw [Array.size_append,size_zeroCells,size_zeroCells]
 show n*3+(grownCap w n 0 254 - n)*3=grownCap w n 0 254*3
 omega
structure ManyAt (w:World) (gb:Nat) (vs:List (Value×List Ent)):Prop where
 lt:gb<w.heap.size
 cell:∀ i (hi:i<vs.length),w.cell? ⟨gb,i,none⟩=some vs[i].1
 ents:∀ i (hi:i<vs.length),EntsAt w.heap.size w vs[i].1 vs[i].2
 few:vs.length<100
 sum:((vs.map Prod.snd).flatten).length<100000
def upTo (vs:List (Value×List Ent)) (m:Nat):List Ent:=((vs.take m).map Prod.snd).flatten
theorem upTo_step (vs:List (Value×List Ent)) (m:Nat) (hm:m<vs.length):upTo vs (m+1)=upTo vs m++vs[m].2:=by
 unfold upTo;rw [<- List.take_append_getElem hm];simp only [List.map_append,List.flatten_append,List.map_cons,List.map_nil,List.flatten_cons,List.flatten_nil,List.append_nil]
theorem upTo_len (vs:List (Value×List Ent)) (m:Nat):(upTo vs m).length<=((vs.map Prod.snd).flatten).length:=by
 have:((vs.map Prod.snd).flatten)=upTo vs m++((vs.drop m).map Prod.snd).flatten:=by
  unfold upTo;rw [<- List.flatten_append,<- List.map_append,List.take_append_drop]
 rw [this];simp
theorem upTo_all (vs:List (Value×List Ent)):upTo vs vs.length=(vs.map Prod.snd).flatten:=by unfold upTo;rw [List.take_length]
end
section
open Go.RowKit Go.Shelf
theorem concat_any (gb:Nat) (vs:List (Value×List Ent)) (w:World) (es:List Ent) (hM:ManyAt w gb vs) (hes:(vs.map Prod.snd).flatten=es) (hpos:0<es.length) :
  Calls prog 207 #[.slice (some ⟨gb,0,none⟩) vs.length vs.length] w fun e w'=>∃ v,e=.returned v/\EntsAt w'.heap.size w' v es/\Below w.heap.size w w':=by
 have HM:=hid hM
 have hfew:=hM.few
 have hglt:=hM.lt
 obtain ⟨i0,hi,hz0,hz1,hz2⟩:=info_parts Tryz.infoEntry
 have HP:=hid hpos
 have hsum:=hM.sum
 rw [hes] at hsum
 have HES:=hid hes
 have HS:=hid hsum
 have HU:=hid (fun m=>hes ▸ upTo_len vs m)
 have HA:=hid (hes ▸ upTo_all vs)
 clear hM hpos hsum hes
 go_enter func207,ntmps207
 go_wp2_with fail
 go_loopg [3,11] vs.length (fun gk s i wr=>∃ m:Nat,m+gk=vs.length/\i=.int .i64 m/\s=.int .i64 (upTo vs m).length/\wr=w)
 case atStart=>exact ⟨0,by omega,rfl,rfl,rfl⟩
 case round =>
  obtain ⟨m,hm,rfl,rfl,hw⟩:=hrel
  have hw':=hw.symm
  clear hw
  subst hw'
  have HMm:=hid hm
  clear hm
  by_cases hlt:m<vs.length
  ·have hlt':(m:Int)<(vs.length:Int):=by omega
   have hc:=HM.out.cell m hlt
   obtain ⟨g,o,cap,hv,h1,h2,h3,h4,h5⟩:=HM.out.ents m hlt
   rw [hv] at hc
   have hul:=HU.out m
   have hul2:=HU.out (m+1)
   have hst:=upTo_step vs m hlt
   have hsl:(upTo vs (m+1)).length=(upTo vs m).length+(vs[m].2).length:=by rw [hst];simp
   have hs5:=HS.out
   have HSL:=hid hsl
   have hb:(upTo vs m).length+(vs[m].2).length<100000:=by omega
   clear h5 hst hul hul2 hsl hs5 hv
   generalize (vs[m]'hlt).2.length=k at *
   generalize (upTo vs m).length=q at *
   go_wp2_with fail
   go_roundg (vs.length - (m+1))
   case measure=>have:=HMm.out;omega
   case rel=>exact ⟨m+1,by have:=HMm.out;omega,by go_num,by rw [HSL.out];go_num,rfl⟩
  ·have hme:m=vs.length:=by have:=HMm.out;omega
   have hlt':(vs.length:Int)<=(m:Int):=by omega
   have hq:(upTo vs m).length=es.length:=by rw [hme,HA.out]
   rw [hq]
   have hq1:=HP.out
   have hq2:=HS.out
   clear hq
   go_wp2_with (go_at_call 210;refine (grow_any _ _ HP.out (by have:=HS.out;omega)).mono ?_;rintro e w2 ⟨v,rfl,hown,hvn,hbel⟩)
   have HB:=hid (show upTo vs 0=[] from rfl)
   have hvn':=hvn
   go_loopg [6,27] vs.length (fun gk v i wr=>∃ m:Nat,m+gk=vs.length/\i=.int .i64 m/\wr.ownsRow w.heap.size 254 3 v (upTo vs m).length (entCells (upTo vs m))/\v≠.slice none 0 0/\Below w.heap.size w wr)
   case atStart=>exact ⟨0,by omega,rfl,by rw [HB.out];exact hown,hvn,hbel⟩
   case round =>
    clear hown hvn hbel hvn' hlt' hme hlt HMm
    obtain ⟨m2,hm,rfl,hown,hvn,hbel⟩:=hrel
    have HMm:=hid hm
    clear hm
    have hsz:=hbel.size
    by_cases hlt:m2<vs.length
    ·have hlt':(m2:Int)<(vs.length:Int):=by omega
     have hc:=(hbel.cell (p:=⟨gb,m2,none⟩) hglt).trans (HM.out.cell m2 hlt)
     have hE:=(HM.out.ents m2 hlt).below hbel
     have hE':=hE
     obtain ⟨g,o,cap,hv,h1,h2,h3,h4,h5⟩:=hE'
     clear h5 h3
     rw [hv] at hc hE
     have HC:=hid hE.cells
     have hul2:=HU.out (m2+1)
     have hst:=upTo_step vs m2 hlt
     have hsl:(upTo vs (m2+1)).length=(upTo vs m2).length+(vs[m2].2).length:=by rw [hst];simp
     have hb:(upTo vs m2).length+(vs[m2].2).length<100000:=by omega
     have HST:=hid hst
     clear hst hul2 hsl hv hE
     generalize (vs[m2]'hlt).2=ei at *
     generalize upTo vs m2=ej at *
     go_wp2_with (at_builtin;refine wpList_append_own _ rfl _ _ 250 rfl w.heap.size 254 i0 _ 3 32 underlying250 hi hz0 hz1 hz2 rfl (by decide) _ _ _ rfl hown ⟨g,o,none⟩ ei.length cap (entCells ei) rfl (entCells_len ei) HC.out (entCells_one ei) (by unfold maxLen;omega) (by omega) hsz ?_;intro v' w3 hown' hgrow' hnil')
     go_roundg (vs.length - (m2+1))
     case measure=>have:=HMm.out;omega
     case rel =>
      refine ⟨m2+1,by have:=HMm.out;omega,by go_num,?_,fun h=>hvn (hnil'.1 h).1,hbel.grown hgrow' (by omega) (fun k hk=>(hown.lt k hk).1)⟩
      rw [HST.out,List.length_append,entCells_append]
      exact hown'
    ·have hme:m2=vs.length:=by have:=HMm.out;omega
     have hlt':(vs.length:Int)<=(m2:Int):=by omega
     have hown2:=hown
     rw [hme,HA.out] at hown2
     clear hown
     have HO:=hid hown2
     clear hown2 hme
     go_wp2_with fail
     go_ret
     exact ⟨_,rfl,own_ents HO.out hvn (by omega),hbel⟩
end
section
open Go.RowKit Go.Shelf
def askI (r e:Int) (h:Bool):Int:=if h=true/\(r=0\/e<r) then e else r
theorem ask_any (r:Nat) (x e:Int) (h:Bool) (w:World) (hR:Boxed w r 187 (.int .i64 x)) :
  Calls prog 144 #[.pointer (some ⟨r,0,none⟩),.int .i64 e,.bool h] w fun o w'=>o=.returned (.tuple #[])/\Boxed w' r 187 (.int .i64 (askI x e h))/\Keeps (fun k=>k=r) w w':=by
 have hc:=hR.cell
 have hf:=hR.frozen
 cases h with
 | false =>
  go_enter func144,ntmps144
  go_wp2
  go_end0
  exact ⟨rfl,by simpa [askI] using hR,Keeps.refl _ _⟩
 | true =>
  by_cases h0:x=0
  ·subst h0
   go_enter func144,ntmps144
   go_wp2
   go_end0
   exact ⟨rfl,by simpa [askI] using hR.set (.int .i64 e),(Keeps.refl (fun k=>k=r) w).setCell (p:=⟨r,0,none⟩) (.inl rfl) _⟩
  ·by_cases h1:e<x
   ·go_enter func144,ntmps144
    go_wp2
    go_end0
    exact ⟨rfl,by simpa [askI,h1] using hR.set (.int .i64 e),(Keeps.refl (fun k=>k=r) w).setCell (p:=⟨r,0,none⟩) (.inl rfl) _⟩
   ·have HA:=hid (show askI x e true=x by simp [askI,h0,h1])
    go_enter func144,ntmps144
    go_wp2
    go_end0
    exact ⟨rfl,by rw [HA.out];exact hR,Keeps.refl _ _⟩
end
section
open Go.RowKit Go.Shelf
theorem bytesWorld_below (w:World) (e:TypeId) (s:ByteArray):Below w.heap.size w (Lib.bytesWorld w e s):=by
 exact ⟨rfl,rfl,rfl,by rw [Lib.bytesWorld_size];omega,fun k hk=>Lib.bytesWorld_at_old w e s k hk⟩
theorem conv_bytes (s:ByteArray) (w:World):(convert 9 51 (.string s)).run prog w=.ok (.slice (some ⟨w.heap.size,0,none⟩) s.size (grownCap w s.size 0 5)) (Lib.bytesWorld w 5 s) :=
 Lib.run_convert_string_bytes w 9 51 5 s (u:=.string) (by kernel_rfl) (by kernel_rfl) (by kernel_rfl)
theorem wrapU (n:Nat):IntKind.u64.wrap (n:Int)=((n % 18446744073709551616:Nat):Int):=by
 simp only [IntKind.wrap,IntKind.bits,IntKind.signed];simp
theorem sum_step (S b:Nat):IntKind.u64.wrap (IntKind.u64.wrap (IntKind.u64.wrap ((S:Int)+IntKind.u64.wrap (b:Int))+1)*1099511628211)=(((S+b+1)*1099511628211 % 18446744073709551616:Nat):Int):=by
 have e1:(S:Int)+IntKind.u64.wrap (b:Int)=((S+b % 18446744073709551616:Nat):Int):=by rw [wrapU];omega
 rw [e1,wrapU]
 have e2:(((S+b % 18446744073709551616) % 18446744073709551616:Nat):Int)+1=(((S+b % 18446744073709551616) % 18446744073709551616+1:Nat):Int):=by omega
 rw [e2,wrapU]
 have e3:((((S+b % 18446744073709551616) % 18446744073709551616+1) % 18446744073709551616:Nat):Int)*1099511628211=((((S+b % 18446744073709551616) % 18446744073709551616+1) % 18446744073709551616*1099511628211:Nat):Int):=by omega
 rw [e3,wrapU]
 refine congrArg (fun x:Nat=>(x:Int)) ?_
 have e4:((S+b % 18446744073709551616) % 18446744073709551616+1) % 18446744073709551616=(S+b+1) % 18446744073709551616:=by omega
 rw [e4,Nat.mod_mul_mod]
theorem sum_step' (S:Nat) (b:UInt8):IntKind.u64.wrap (IntKind.u64.wrap (IntKind.u64.wrap ((S:Int)+IntKind.u64.wrap (b.toNat:Int))+1)*1099511628211)=((sumS S b:Nat):Int):=by
 rw [sum_step,sumS]
theorem fold_succ {α β:Type} (f:β->α->β) (a:β) (l:List α) (k:Nat) (h:k<l.length):(l.take (k+1)).foldl f a=f ((l.take k).foldl f a) l[k]:=by
 rw [List.take_succ_eq_append_getElem h];simp only [List.foldl_append,List.foldl_cons,List.foldl_nil]
theorem sumN_succ (l:List UInt8) (k:Nat) (h:k<l.length):sumN (l.take (k+1))=sumS (sumN (l.take k)) l[k]:=fold_succ sumS 0 l k h
theorem sumOf_any (s:ByteArray) (hs:s.size<=100000) (w:World) :
  Calls prog 76 #[.string s] w fun e w'=>e=.returned (.int .u64 (sumN s.data.toList))/\Below w.heap.size w w':=by
 have hc:=conv_bytes s w
 have hb:=bytesWorld_below w 5 s
 have hcell:=fun j hj=>Lib.bytesWorld_cell w 5 s j hj
 have HB:=hid hb
 have HC:=hid hcell
 clear hb hcell
 generalize Lib.bytesWorld w 5 s=W at *
 generalize grownCap w s.size 0 5=cp at *
 go_enter func76,ntmps76
 go_wp2_with fail
 go_loopg [3,5,9] s.size (fun gk v b i wr=>∃ k:Nat,i=.int .i64 k/\k<=s.size/\gk=s.size - k/\v=.int .u64 (sumN (s.data.toList.take k):Nat)/\wr=W)
 case atStart=>exact ⟨0,rfl,Nat.zero_le _,rfl,rfl,rfl⟩
 case round =>
  obtain ⟨k,rfl,hk,rfl,rfl,rfl⟩:=hrel
  by_cases hlt:k<s.size
  ·have c1:=HC.out k hlt
   have hltI:(k:Int)<(s.size:Int):=by omega
   have HS:=hid (sumN_succ s.data.toList k (by simpa using hlt))
   generalize sumN (s.data.toList.take k)=S at *
   go_wp2
   go_roundg (s.size - (k+1))
   case measure=>omega
   case rel =>
    refine ⟨k+1,rfl,by omega,rfl,?_,rfl⟩
    rw [sum_step',HS.out,Array.getElem_toList]
  ·have hke:k=s.size:=by omega
   subst hke
   go_wp2
   go_ret
   refine ⟨?_,HB.out⟩
   rw [List.take_of_length_le (by simp)]
   simp only [Array.getD_eq_getD_getElem?]
   simp
def rdk (l:List UInt8) (k:Nat):Nat:=(l.take k).foldl (fun n b=>n*256+b.toNat) 0
theorem rdk_succ (l:List UInt8) (k:Nat) (h:k<l.length):rdk l (k+1)=rdk l k*256+l[k].toNat:=fold_succ (fun (n:Nat) (b:UInt8)=>n*256+b.toNat) 0 l k h
theorem rd_step (S:Nat) (b:UInt8) (hS:S<72057594037927936):bits BinOp.or IntKind.u64 (IntKind.u64.wrap ((S:Int)*256)) (IntKind.u64.wrap (b.toNat:Int))=((S*256+b.toNat:Nat):Int):=by
 have hb:=b.toNat_lt
 have e1:(S:Int)*256=((S*256:Nat):Int):=by omega
 have w64:∀ n:Int,0<=n->n<2 ^ 64->IntKind.u64.wrap n=n:=fun n h0 h1=>by
  simp only [IntKind.wrap,IntKind.bits,IntKind.signed];simp;omega
 rw [e1,w64 _ (by omega) (by omega),w64 _ (by omega) (by omega)]
 rw [bits_join .u64 64 (by decide) w64 8 _ _ (by omega) (by omega) (by omega) (by omega) (by omega) (by omega)]
 omega
theorem rdk_lt (l:List UInt8) (k:Nat) (hk:k<8):rdk l k<72057594037927936:=by
 have key:∀ (k:Nat) (l:List UInt8),l.length<=k->∀ a:Nat,l.foldl (fun n b=>n*256+b.toNat) a<(a+1)*256 ^ k:=by
  intro k
  induction k with
  | zero=>intro l hl a;cases l with
   | nil=>simp
   | cons b l=>simp at hl
  | succ k ih =>
   intro l hl a
   cases l with
   | nil =>
    simp only [List.foldl_nil]
    have:1<=256 ^ (k+1):=Nat.pos_of_ne_zero (by simp)
    calc a<a+1:=by omega
     _=(a+1)*1:=by omega
     _<=(a+1)*256 ^ (k+1):=Nat.mul_le_mul_left _ this
   | cons b l =>
    simp only [List.foldl_cons]
    have h1:=ih l (by simpa using hl) (a*256+b.toNat)
    have h2:b.toNat<256:=b.toNat_lt
    refine Nat.lt_of_lt_of_le h1 ?_
    rw [Nat.pow_succ,<- Nat.mul_assoc,Nat.mul_right_comm]
    exact Nat.mul_le_mul_right _ (by omega)
 have:=key 7 (l.take k) (by simp;omega) 0
 simpa [rdk] using this
theorem readNumber_any (s:ByteArray) (hs:8<=s.size) (w:World) :
  Calls prog 132 #[.string s] w fun e w'=>e=.returned (.int .u64 (rd8 s.data.toList))/\Below w.heap.size w w':=by
 have hsI:(8:Int)<=(s.size:Int):=by omega
 have hz:(s.extract 0 8).size=8:=by simp;omega
 have hc:=conv_bytes (s.extract 0 8) w
 have hb:=bytesWorld_below w 5 (s.extract 0 8)
 have hcell:=fun j hj=>Lib.bytesWorld_cell w 5 (s.extract 0 8) j hj
 have HB:=hid hb
 have HC:=hid hcell
 clear hb hcell
 rw [hz] at hc
 have hl:(s.extract 0 8).data.toList=s.data.toList.take 8:=by simp
 have HL:=hid hl
 have Hz:=hid hz
 clear hl
 generalize Lib.bytesWorld w 5 (s.extract 0 8)=W at *
 generalize grownCap w 8 0 5=cp at *
 go_enter func132,ntmps132
 go_wp2_with fail
 go_loopg [3,5,10] 8 (fun gk v b i wr=>∃ k:Nat,i=.int .i64 k/\k<=8/\gk=8 - k/\v=.int .u64 (rdk (s.data.toList.take 8) k:Nat)/\wr=W)
 case atStart=>exact ⟨0,rfl,Nat.zero_le _,rfl,rfl,rfl⟩
 case round =>
  obtain ⟨k,rfl,hk,rfl,rfl,rfl⟩:=hrel
  by_cases hlt:k<8
  ·have c1:=HC.out k (by rw [hz];omega)
   rw [HL.out] at c1
   have HS:=hid (rdk_succ (s.data.toList.take 8) k (by simp;omega))
   have HR:=hid (rdk_lt (s.data.toList.take 8) k (by omega))
   have hltI:(k:Int)<8:=by omega
   have hgd:(s.data.toList.take 8).getD k 0=(s.data.toList.take 8)[k]'(by simp;omega):=by rw [List.getD_eq_getElem?_getD,List.getElem?_eq_getElem (by simp;omega),Option.getD_some]
   rw [hgd] at c1
   clear hgd
   generalize rdk (s.data.toList.take 8) k=S at *
   generalize (s.data.toList.take 8)[k]'(by simp;omega)=b at *
   clear hz
   go_wp2
   go_roundg (8 - (k+1))
   case measure=>omega
   case rel =>
    refine ⟨k+1,rfl,by omega,rfl,?_,rfl⟩
    rw [HS.out,rd_step S b HR.out]
  ·have hke:k=8:=by omega
   subst hke
   go_wp2
   go_ret
   refine ⟨?_,HB.out⟩
   simp only [Array.getD_eq_getD_getElem?]
   simp [rdk,rd8,List.take_take]
end
end Go.Proofs.YtalncjhldkcmaaaGreat
