import Derived.Test.YtalncjhldkcmaaaGreatFb28
import Derived.Deep.RegionHeld3
import Derived.Deep.AppendLies
namespace Go.Proofs.YtalncjhldkcmaaaGreat
open Classical
open _root_.Go.Proofs.Tryz
set_option maxHeartbeats 16000000
set_option maxRecDepth 8000
section
open Go.RowKit
theorem tells_of (b:Nat) (vt vp:Value) (k:Bk) (c:Nat->Int) (w:World) (h:BkAt w b vt vp k) (hk:c 0=14) :
  Calls prog 99 #[.pointer (some ⟨b,0,none⟩),.agg #[.int .i64 (c 0),.int .i64 (c 1),.int .i64 (c 2),.int .i64 (c 3),.int .i64 (c 4),.int .i64 (c 5),.int .i64 (c 6),.int .i64 (c 7),.int .i64 (c 8)]] w fun e w'=>∃ v,e=.returned v/\IntsIn w' v (askL k.tubes (markD k.tubes (c 3)))/\Below w.heap.size w w':=by
 obtain ⟨i0,hi,hz0,hz1,hz2⟩:=info_parts Tryz.infoInt
 have hC0:=Has.new w 31 c
 have hb0:=(Below.refl w.heap.size w).alloc nlr (.cells #[.int .i64 (c 0),.int .i64 (c 1),.int .i64 (c 2),.int .i64 (c 3),.int .i64 (c 4),.int .i64 (c 5),.int .i64 (c 6),.int .i64 (c 7),.int .i64 (c 8)] 31)
 have hK0:=h.below hb0
 have hfew:=h.few.1
 obtain ⟨oa,cap,rfl,_⟩:=h.tubes.form
 rw [hk] at hC0 hb0 hK0 ⊢
 go_enter func99,ntmps99
 go_wp2_with (go_at_call 90;refine (find_any b _ _ k _ _ hK0).mono ?_;rintro e w' ⟨rfl,rfl⟩)
 have hz1':w.heap.size<(w.alloc (.cells #[.int .i64 14,.int .i64 (c 1),.int .i64 (c 2),.int .i64 (c 3),.int .i64 (c 4),.int .i64 (c 5),.int .i64 (c 6),.int .i64 (c 7),.int .i64 (c 8)] 31)).heap.size:=by simp
 generalize w.alloc (.cells #[.int .i64 14,.int .i64 (c 1),.int .i64 (c 2),.int .i64 (c 3),.int .i64 (c 4),.int .i64 (c 5),.int .i64 (c 6),.int .i64 (c 7),.int .i64 (c 8)] 31)=w1 at *
 have HK:=hid hK0
 have hct:=hK0.ct
 have hbl:=hK0.lt
 have c3:=hC0.1 3 (by omega)
 clear hC0 hK0
 go_wp2_with fail
 go_loopg [5,9] k.tubes.length (fun gk v i wr=>∃ m:Nat,m+gk=k.tubes.length/\i=.int .i64 m/\wr.ownsRow w1.heap.size 3 1 v (askTo k.tubes (markD k.tubes (c 3)) m).length (intCells (askTo k.tubes (markD k.tubes (c 3)) m))/\Below w1.heap.size w1 wr)
 case atStart=>exact ⟨0,by omega,rfl,World.ownsRow_nil _ _ _ _,Below.refl _ _⟩
 case round =>
  obtain ⟨m,hm',rfl,hown,hbel⟩:=hrel
  have HM:=hid hm'
  have hmle:m<=k.tubes.length:=by omega
  clear hm'
  have hsz:=hbel.size
  have hctr:=(hbel.cell (p:=⟨b,10,none⟩) hbl).trans hct
  have c3r:=(hbel.cell (p:=⟨w.heap.size,3,none⟩) hz1').trans c3
  by_cases hlt:m<k.tubes.length
  ·obtain ⟨g,rfl,hn,hcap,hgl,t0,t1,_⟩:=HK.out.tube (m:=m) hlt
   have HT0:=hid t0
   have t1r:=(hbel.cell (p:=⟨g,m*11+1,none⟩) hgl).trans t1
   have hlt':(m:Int)<(k.tubes.length:Int):=by omega
   have hmb:m<(markD k.tubes (c 3)).length:=by simpa [markD] using hlt
   have hal:=askTo_len k.tubes (markD k.tubes (c 3)) m
   have hme:(markD k.tubes (c 3))[m]=(k.tubes[m] 1 == c 3):=by simp [markD]
   clear t0 t1 hn
   by_cases hbm:k.tubes[m] 1=c 3
   ·have HS:=hid (askTo_in hlt hmb (by rw [hme];simpa using hbm))
    rw [hbm] at t1r
    clear hme hbm
    generalize k.tubes[m] 0=id at *
    generalize askTo k.tubes (markD k.tubes (c 3)) m=cur at *
    go_wp2_with fail
    go_quiet (fail)
    have hbel2:=below_drewN hbel nq
    have hown2:(wr.drewN nq).ownsRow w1.heap.size 3 1 u5 cur.length (intCells cur):=hown
    clear hctr c3r t1r hown hbel hsz
    generalize wr.drewN nq=wr at *
    have hown:=hown2
    have hbel:=hbel2
    have hsz:=hbel.size
    have hctr:=(hbel.cell (p:=⟨b,10,none⟩) hbl).trans hct
    have t0r:=(hbel.cell (p:=⟨g,m*11,none⟩) hgl).trans HT0.out
    go_wp2_with (at_builtin;refine wpList_append_own _ rfl _ _ 36 rfl w1.heap.size 3 i0 (.int .i64 0) 1 8 underlying36 hi hz0 hz1 hz2 rfl (by decide) _ _ _ rfl (hown.alloc _) ⟨wr.heap.size,0,none⟩ 1 1 [.int .i64 id] rfl rfl (app_cell wr _) (by intro u hu;simp at hu;subst hu;rfl) (by unfold maxLen;omega) (by omega) (by simp;omega) ?_;intro v' w2 hown' hgrow' _)
    go_roundg (k.tubes.length - (m+1))
    case measure=>have:=HM.out;omega
    case rel =>
     refine ⟨m+1,by have:=HM.out;omega,by go_num,?_,?_⟩
     ·rw [HS.out];simpa [intCells] using hown'
     ·exact (hbel.alloc (by omega) _).grown hgrow' (by simp;omega) (fun k hk=>(hown.lt k hk).1)
   ·have HS:=hid (askTo_out (ts:=k.tubes) hmb (by rw [hme];simpa using hbm))
    have hz:(k.tubes[m] 1 == c 3)=false:=by simpa using hbm
    clear hme hbm
    generalize k.tubes[m] 1=q at *
    go_wp2_with fail
    go_quiet (fail)
    go_wp2
    go_roundg (k.tubes.length - (m+1))
    case measure=>have:=HM.out;omega
    case rel=>exact ⟨m+1,by have:=HM.out;omega,by go_num,by rw [HS.out];exact hown,below_drewN hbel _⟩
  ·have hme:m=k.tubes.length:=by omega
   have HA:=hid (show askL k.tubes (markD k.tubes (c 3))=askTo k.tubes (markD k.tubes (c 3)) m by rw [hme];rfl)
   clear hme
   go_wp2
   go_ret
   exact ⟨_,rfl,by rw [HA.out];exact own_intsIn hown rfl,hb0.trans (hbel.mono (by omega))⟩
end
section
open Go.RowKit
def markOne (n i:Nat):List Bool:=(List.replicate n false).set i true
theorem make_marks {w1 w2:World} {base n i s:Nat} (hown:w2.ownsRow base 4 1 (.slice (some ⟨w1.heap.size,0,none⟩) n n) n (madeCells (Value.cells (.bool false)) (n*1)).toList) (hgrow:w1.grownBy w2 none) (hs:w1.heap.size=s) (hi:i<n) :
  Marks (w2.setCell ⟨s,i,none⟩ (.bool true)) (.slice (some ⟨s,0,none⟩) n n) (markOne n i)/\Below s w1 (w2.setCell ⟨s,i,none⟩ (.bool true))/\Below s w1 w2/\w2.cell? ⟨s,i,none⟩=some (.bool false)/\∀ j,w2.frozen? ⟨s,j,none⟩=false:=by
 subst hs
 have hO:=own_marks hown
 have hir:i<(List.replicate n false).length:=by simpa using hi
 have hB2:Below w1.heap.size w1 w2:=Below.grown (Below.refl _ _) hgrow nlr (fun k hk=>by cases hk)
 obtain ⟨hci,hfz⟩:=hO.at hir
 refine ⟨hO.set (g:=w1.heap.size) rfl hir true,hB2.setCell (by simp) _,hB2,?_,hfz⟩
 rw [hci,List.getElem_replicate]
theorem tells_way (b:Nat) (vt vp:Value) (k:Bk) (c:Nat->Int) (down:Bool) (i:Nat) (w:World) (h:BkAt w b vt vp k) (hw:Wired k) (hk:c 0=if down then 16 else 15) (hf:findI k.tubes (c 1)=i) (hil:i<k.tubes.length) :
  Calls prog 99 #[.pointer (some ⟨b,0,none⟩),.agg #[.int .i64 (c 0),.int .i64 (c 1),.int .i64 (c 2),.int .i64 (c 3),.int .i64 (c 4),.int .i64 (c 5),.int .i64 (c 6),.int .i64 (c 7),.int .i64 (c 8)]] w fun e w'=>∃ v,e=.returned v/\IntsIn w' v (askL k.tubes (reachL k (markOne k.tubes.length i) down))/\Below w.heap.size w w':=by
 obtain ⟨i0,hi,hz0,hz1,hz2⟩:=info_parts Tryz.infoBool
 have hC0:=Has.new w 31 c
 have hb0:=(Below.refl w.heap.size w).alloc nlr (.cells #[.int .i64 (c 0),.int .i64 (c 1),.int .i64 (c 2),.int .i64 (c 3),.int .i64 (c 4),.int .i64 (c 5),.int .i64 (c 6),.int .i64 (c 7),.int .i64 (c 8)] 31)
 have hK0:=h.below hb0
 have hfew:=h.few.1
 have HW:=hid hw
 obtain ⟨oa,cap,rfl,_⟩:=h.tubes.form
 have hil':(i:Int)<(k.tubes.length:Int):=by omega
 have hlr:=reachL_len k (markOne k.tubes.length i) down
 have HLR:=hid hlr
 have hz1':w.heap.size<(w.alloc (.cells #[.int .i64 (c 0),.int .i64 (c 1),.int .i64 (c 2),.int .i64 (c 3),.int .i64 (c 4),.int .i64 (c 5),.int .i64 (c 6),.int .i64 (c 7),.int .i64 (c 8)] 31)).heap.size:=by simp
 clear hw hlr
 cases down
 all_goals
  simp only [Bool.false_eq_true,if_false,if_true] at hk
  rw [hk] at hC0 hb0 hK0 hz1' ⊢
  go_enter func99,ntmps99
  have hct:=hK0.ct
  have hbl:=hK0.lt
  have c0:=hC0.1 0 (by omega)
  have c1:=hC0.1 1 (by omega)
  rw [hk] at c0
  have HB0:=hid hb0
  have HLM:=hid (show (markOne k.tubes.length i).length=k.tubes.length by simp [markOne])
  have hbw:=h.lt
  have HK0:=hid hK0
  clear hb0 hK0 hC0
  go_wp2_with (first
   | (go_at_call 90;refine (find_any b _ _ k _ _ HK0.out).mono ?_;rintro e w' ⟨rfl,rfl⟩;rw [hf])
   | (at_make;refine wpList_make_full _ rfl _ _ 210 rfl w.heap.size 4 i0 (.bool false) 1 underlying210 hi hz0 hz1 .i64 .i64 _ _ k.tubes.length rfl rfl rfl rfl (by rw [hz2];omega) (by unfold maxLen;omega) (by simp) ?_;intro w2 hown2 hgrow2;obtain ⟨hM,hB3,hB2,hci,hfz⟩:=make_marks (s:=w.heap.size+1) hown2 hgrow2 (by simp) hil;have c0r:=(hB2.cell (p:=⟨w.heap.size,0,none⟩) (by simp)).trans c0;have hctr:=(hB2.cell (p:=⟨b,10,none⟩) (by simp;omega)).trans hct;have HO3:=hid hM;have HB3:=hid hB3;have HK3:=hid (HK0.out.below (hB3.mono (by simp)));clear hown2 hgrow2 hM hB3)
   | (go_at_call 141;refine (reach_any b _ _ _ k _ _ _ HK3.out HO3.out HLM.out HW.out).mono ?_;rintro e w4 ⟨vb,rfl,hR,hb4,hfr⟩)
   | (go_at_call 142;refine (asked_any b _ _ _ k _ _ (HK3.out.below hb4) hR HLR.out).mono ?_;rintro e w5 ⟨vr,rfl,hI,hb5⟩))
  go_ret
  have s1:=HB0.out.size
  have s3:=HB3.out.size
  have s4:=hb4.size
  exact ⟨_,rfl,hI,HB0.out.trans ((HB3.out.mono (by omega)).trans ((hb4.mono (Nat.le_trans s1 s3)).trans (hb5.mono (Nat.le_trans (Nat.le_trans s1 s3) s4))))⟩
end
section
open Go.RowKit
def showL (t:Nat->Int):List Int:=[t 1,t 2,t 3,t 4,t 5,t 6,t 7,t 8,t 9,t 10]
theorem new_ints (w:World) (zs:List Int) (s:Nat) (hs:w.heap.size=s):IntsIn (w.alloc (.cells (zs.map fun z=>Value.int .i64 z).toArray 3)) (.slice (some ⟨s,0,none⟩) zs.length zs.length) zs:=by
 subst hs
 refine .inl ⟨w.heap.size,zs.length,rfl,by simp,fun i hi => ?_⟩
 rw [World.cell?_alloc_new]
 simp [hi]
theorem tells_show (b:Nat) (vt vp:Value) (k:Bk) (c:Nat->Int) (i:Nat) (w:World) (h:BkAt w b vt vp k) (hk:c 0=12) (hf:findI k.tubes (c 1)=i) (hil:i<k.tubes.length) :
  Calls prog 99 #[.pointer (some ⟨b,0,none⟩),.agg #[.int .i64 (c 0),.int .i64 (c 1),.int .i64 (c 2),.int .i64 (c 3),.int .i64 (c 4),.int .i64 (c 5),.int .i64 (c 6),.int .i64 (c 7),.int .i64 (c 8)]] w fun e w'=>∃ v,e=.returned v/\IntsIn w' v (showL k.tubes[i])/\Below w.heap.size w w':=by
 have hb0:=(Below.refl w.heap.size w).alloc nlr (.cells #[.int .i64 (c 0),.int .i64 (c 1),.int .i64 (c 2),.int .i64 (c 3),.int .i64 (c 4),.int .i64 (c 5),.int .i64 (c 6),.int .i64 (c 7),.int .i64 (c 8)] 31)
 have hK0:=h.below hb0
 have hfew:=h.few.1
 obtain ⟨oa,cap,rfl,_⟩:=h.tubes.form
 have hil':(i:Int)<(k.tubes.length:Int):=by omega
 rw [hk] at hb0 hK0 ⊢
 obtain ⟨g,rfl,hn,hcap,hgl,t0,t1,t2,t3,t4,t5,t6,t7,t8,t9,t10,hfz⟩:=hK0.tube hil
 have hct:=hK0.ct
 have hbl:=hK0.lt
 have hbw:=h.lt
 clear hn
 go_enter func99,ntmps99
 generalize k.tubes[i]=t at *
 go_wp2_with (go_at_call 90;refine (find_any b _ _ k _ _ hK0).mono ?_;rintro e w' ⟨rfl,rfl⟩;rw [hf])
 go_ret
 exact ⟨_,rfl,new_ints _ (showL t) _ (by simp),(hb0.alloc (by simp) _).alloc (by simp;omega) _⟩
end
section
open Go.RowKit
def contTo (ts:List (Nat->Int)) (box:Int) (m:Nat):List Int:=(List.range m).flatMap fun i=>if (ts.getD i zeroT) 8=box then [(ts.getD i zeroT) 0,(ts.getD i zeroT) 9,(ts.getD i zeroT) 10] else []
def contL (ts:List (Nat->Int)) (box:Int):List Int:=contTo ts box ts.length
theorem contTo_in {ts:List (Nat->Int)} {box:Int} {m:Nat} (h:m<ts.length) (e:ts[m] 8=box):contTo ts box (m+1)=contTo ts box m++[ts[m] 0,ts[m] 9,ts[m] 10]:=by
 unfold contTo
 rw [List.range_succ,List.flatMap_append,List.flatMap_cons,List.flatMap_nil,List.append_nil,getD_T h,if_pos e]
theorem contTo_out {ts:List (Nat->Int)} {box:Int} {m:Nat} (h:m<ts.length) (e:¬ ts[m] 8=box):contTo ts box (m+1)=contTo ts box m:=by
 unfold contTo
 rw [List.range_succ,List.flatMap_append,List.flatMap_cons,List.flatMap_nil,List.append_nil,getD_T h,if_neg e,List.append_nil]
theorem contTo_len (ts:List (Nat->Int)) (box:Int):∀ m,(contTo ts box m).length<=3*m
 | 0=>by simp [contTo]
 | m+1=>by
  have:=contTo_len ts box m
  unfold contTo at *
  rw [List.range_succ,List.flatMap_append,List.length_append,List.flatMap_cons,List.flatMap_nil,List.append_nil]
  split <;> simp only [List.length_cons,List.length_nil] <;> omega
theorem app_cell3 (w:World) (x y z:Int):∀ j u,[Value.int .i64 x,.int .i64 y,.int .i64 z][j]? = some u->(w.alloc (.cells #[.int .i64 x,.int .i64 y,.int .i64 z] 3)).cell? ((⟨w.heap.size,0,none⟩:Addr).add j)=some u:=by
 intro j u hj
 match j,hj with
 | 0,hj=>simp at hj;subst hj;simp [Addr.add]
 | 1,hj=>simp at hj;subst hj;simp [Addr.add]
 | 2,hj=>simp at hj;subst hj;simp [Addr.add]
end
section
open Go.RowKit
theorem far_cell {W W':World} {o:Obj} {row:Option Nat} {p:Addr} {v:Value} (h:W.cell? p=some v) (hg:(W.alloc o).grownBy W' row) (hne:row≠some p.block):W'.cell? p=some v :=
 hg.cell ((((Below.refl _ W).alloc nlr o).cell (World.block_lt_of_cell? W p h)).trans h) (fun e=>hne e.symm)
theorem tells_content (b:Nat) (vt vp:Value) (k:Bk) (c:Nat->Int) (w:World) (h:BkAt w b vt vp k) (hk:c 0=13) :
  Calls prog 99 #[.pointer (some ⟨b,0,none⟩),.agg #[.int .i64 (c 0),.int .i64 (c 1),.int .i64 (c 2),.int .i64 (c 3),.int .i64 (c 4),.int .i64 (c 5),.int .i64 (c 6),.int .i64 (c 7),.int .i64 (c 8)]] w fun e w'=>∃ v,e=.returned v/\IntsIn w' v (contL k.tubes (c 5))/\Below w.heap.size w w':=by
 obtain ⟨i0,hi,hz0,hz1,hz2⟩:=info_parts Tryz.infoInt
 have hC0:=Has.new w 31 c
 have hb0:=(Below.refl w.heap.size w).alloc nlr (.cells #[.int .i64 (c 0),.int .i64 (c 1),.int .i64 (c 2),.int .i64 (c 3),.int .i64 (c 4),.int .i64 (c 5),.int .i64 (c 6),.int .i64 (c 7),.int .i64 (c 8)] 31)
 have hK0:=h.below hb0
 have hfew:=h.few.1
 obtain ⟨oa,cap,rfl,_⟩:=h.tubes.form
 rw [hk] at hC0 hb0 hK0 ⊢
 go_enter func99,ntmps99
 go_wp2_with (go_at_call 90;refine (find_any b _ _ k _ _ hK0).mono ?_;rintro e w' ⟨rfl,rfl⟩)
 have hz1':w.heap.size<(w.alloc (.cells #[.int .i64 13,.int .i64 (c 1),.int .i64 (c 2),.int .i64 (c 3),.int .i64 (c 4),.int .i64 (c 5),.int .i64 (c 6),.int .i64 (c 7),.int .i64 (c 8)] 31)).heap.size:=by simp
 generalize w.alloc (.cells #[.int .i64 13,.int .i64 (c 1),.int .i64 (c 2),.int .i64 (c 3),.int .i64 (c 4),.int .i64 (c 5),.int .i64 (c 6),.int .i64 (c 7),.int .i64 (c 8)] 31)=w1 at *
 have HK:=hid hK0
 have hct:=hK0.ct
 have hbl:=hK0.lt
 have c3:=hC0.1 5 (by omega)
 clear hC0 hK0
 go_wp2_with fail
 go_loopg [5,8] k.tubes.length (fun gk v i wr=>∃ m:Nat,m+gk=k.tubes.length/\i=.int .i64 m/\wr.ownsRow w1.heap.size 3 1 v (contTo k.tubes (c 5) m).length (intCells (contTo k.tubes (c 5) m))/\Below w1.heap.size w1 wr)
 case atStart=>exact ⟨0,by omega,rfl,World.ownsRow_nil _ _ _ _,Below.refl _ _⟩
 case round =>
  obtain ⟨m,hm',rfl,hown,hbel⟩:=hrel
  have HM:=hid hm'
  have hmle:m<=k.tubes.length:=by omega
  clear hm'
  have hsz:=hbel.size
  have hctr:=(hbel.cell (p:=⟨b,10,none⟩) hbl).trans hct
  have c3r:=(hbel.cell (p:=⟨w.heap.size,5,none⟩) hz1').trans c3
  by_cases hlt:m<k.tubes.length
  ·obtain ⟨g,rfl,hn,hcap,hgl,t0,_,_,_,_,_,_,_,t1,t9,t10,_⟩:=HK.out.tube (m:=m) hlt
   have HT0:=hid (And.intro t0 (And.intro t9 t10))
   have t1r:=(hbel.cell (p:=⟨g,m*11+8,none⟩) hgl).trans t1
   have hlt':(m:Int)<(k.tubes.length:Int):=by omega
   have hal:=contTo_len k.tubes (c 5) m
   clear t0 t1 t9 t10 hn
   by_cases hbm:k.tubes[m] 8=c 5
   ·have HS:=hid (contTo_in hlt hbm)
    rw [hbm] at t1r
    clear hbm
    generalize k.tubes[m] 0=id at *
    generalize k.tubes[m] 9=px at *
    generalize k.tubes[m] 10=py at *
    generalize contTo k.tubes (c 5) m=cur at *
    go_wp2_with fail
    go_quiet (fail)
    have hbel2:=below_drewN hbel nq
    have hown2:(wr.drewN nq).ownsRow w1.heap.size 3 1 u5 cur.length (intCells cur):=hown
    clear hctr c3r t1r hown hbel hsz
    generalize wr.drewN nq=wr at *
    have hown:=hown2
    have hbel:=hbel2
    have hsz:=hbel.size
    have hctr:=(hbel.cell (p:=⟨b,10,none⟩) hbl).trans hct
    have t0r:=(hbel.cell (p:=⟨g,m*11,none⟩) hgl).trans HT0.out.1
    have t9r:=(hbel.cell (p:=⟨g,m*11+9,none⟩) hgl).trans HT0.out.2.1
    have t10r:=(hbel.cell (p:=⟨g,m*11+10,none⟩) hgl).trans HT0.out.2.2
    go_wp2_with fail
    have HFar:=hid (fun (x:Nat) (hx:x<w1.heap.size)=>show Value.ownBlock u5≠some x from fun e=>by have:=(hown.lt x e).1;omega)
    have HLt:=hid (And.intro hbl hgl)
    have hownd:wr.drew.ownsRow w1.heap.size 3 1 u5 cur.length (intCells cur):=hown
    have hszd:w1.heap.size<=wr.drew.heap.size:=hsz
    go_region_held3 (fun u=>u.cell? ⟨b,10,none⟩=some (.slice (some ⟨g,0,none⟩) k.tubes.length cap)/\u.cell? ⟨g,m*11,none⟩=some (.int .i64 id)/\u.cell? ⟨g,m*11+9,none⟩=some (.int .i64 px)/\u.cell? ⟨g,m*11+10,none⟩=some (.int .i64 py)) (go_keep) (first
     | (refine step_append_lies _ rfl _ _ 36 rfl w1.heap.size 3 i0 (.int .i64 0) 1 8 underlying36 hi hz0 hz1 hz2 rfl (by decide) _ _ _ rfl (hownd.alloc _) ⟨wr.drew.heap.size,0,none⟩ 3 3 [.int .i64 id,.int .i64 px,.int .i64 py] rfl rfl (app_cell3 wr.drew _ _ _) (by intro u hu;simp at hu;rcases hu with rfl | rfl | rfl <;> rfl) (by omega) (by unfold maxLen;omega) (by omega) (by simp;omega) _ rfl ?_;intro g2 cap2 w2 hown' hgrow' _ _;have hctr:=far_cell (W:=wr.drew) hctr hgrow' (HFar.out b HLt.out.1);have t0r:=far_cell (W:=wr.drew) t0r hgrow' (HFar.out g HLt.out.2);have t9r:=far_cell (W:=wr.drew) t9r hgrow' (HFar.out g HLt.out.2);have t10r:=far_cell (W:=wr.drew) t10r hgrow' (HFar.out g HLt.out.2)))
    go_wp2_with fail
    go_roundg (k.tubes.length - (m+1))
    case measure=>have:=HM.out;omega
    case rel =>
     refine ⟨m+1,by have:=HM.out;omega,by go_num,?_,?_⟩
     ·rw [HS.out];simpa [intCells] using hown'
     ·exact ((hbel.alloc (by omega) _).drew).grown hgrow' (by simp;omega) (fun k hk=>(hown.lt k hk).1)
   ·have HS:=hid (contTo_out hlt hbm)
    have hz:(k.tubes[m] 8 == c 5)=false:=by simpa using hbm
    clear hbm
    generalize k.tubes[m] 8=q at *
    go_wp2_with fail
    go_quiet (fail)
    go_wp2
    go_roundg (k.tubes.length - (m+1))
    case measure=>have:=HM.out;omega
    case rel=>exact ⟨m+1,by have:=HM.out;omega,by go_num,by rw [HS.out];exact hown,below_drewN hbel _⟩
  ·have hme:m=k.tubes.length:=by omega
   have HA:=hid (show contL k.tubes (c 5)=contTo k.tubes (c 5) m by rw [hme];rfl)
   clear hme
   go_wp2
   go_ret
   exact ⟨_,rfl,by rw [HA.out];exact own_intsIn hown rfl,hb0.trans (hbel.mono (by omega))⟩
end
end Go.Proofs.YtalncjhldkcmaaaGreat
