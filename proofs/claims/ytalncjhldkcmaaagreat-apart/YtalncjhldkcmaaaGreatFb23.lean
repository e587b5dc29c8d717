import Derived.Test.YtalncjhldkcmaaaGreatFb21
import Derived.BigRegion
import Derived.Test.YtalncjhldkcmaaaGreatFb00
namespace Go.Proofs.YtalncjhldkcmaaaGreat
open _root_.Go.Proofs.Tryz
set_option maxHeartbeats 16000000
set_option maxRecDepth 8000
section
open Go.RowKit
def Bk.withTubes (k:Bk) (ts:List (Nat->Int)):Bk:={ k with tubes:=ts }
def setT (ts:List (Nat->Int)) (i f:Nat) (n:Int):List (Nat->Int):=ts.set i (upd (ts.getD i zeroT) f n)
theorem setT_len (ts:List (Nat->Int)) (i f:Nat) (n:Int):(setT ts i f n).length=ts.length:=by simp [setT]
theorem getD_T {ts:List (Nat->Int)} {i:Nat} (h:i<ts.length):ts.getD i zeroT=ts[i]:=by
 rw [List.getD_eq_getElem?_getD,List.getElem?_eq_getElem h];rfl
theorem Recs.setOther {w:World} {e:TypeId} {n:Nat} {v:Value} {l:List (Nat->Int)} (h:Recs w e n v l) {p:Addr} (hp:v.ownBlock≠some p.block) (u:Value):Recs (w.setCell p u) e n v l :=
 ownsRow_block h (fun g hg=>Below.heap_setCell w p u g (by rintro rfl;exact hp hg))
theorem BkAt.setTube {w:World} {b:Nat} {vt vp:Value} {k:Bk} (h:BkAt w b vt vp k) {g:Nat} (hg:vt.ownBlock=some g) {i f:Nat} (hi:i<k.tubes.length) (hf:f<11) (n:Int) :
  BkAt (w.setCell ⟨g,i*11+f,none⟩ (.int .i64 n)) b vt vp (k.withTubes (setT k.tubes i f n)):=by
 have hgb:¬ g=b:=fun e=>h.nt (by rw [<- e];exact hg)
 have ho:∀ j,(w.setCell ⟨g,i*11+f,none⟩ (.int .i64 n)).cell? ⟨b,j,none⟩=w.cell? ⟨b,j,none⟩:=fun j=>World.cell?_setCell_other w ⟨g,i*11+f,none⟩ ⟨b,j,none⟩ _ (by intro h';injection h' with h1 _ _;exact hgb h1)
 refine ⟨by simpa using h.lt,fun j hj=>(ho j).trans (h.side j hj),(ho 10).trans h.ct,(ho 11).trans h.cp,fun j=>by rw [World.frozen?_setCell];exact h.fz j,?_,h.poured.setOther (fun e=>h.tp g hg e) _,h.nt,h.np,h.tp,?_⟩
 ·show Recs _ _ 11 vt (setT k.tubes i f n)
  have:=h.tubes.set hg hi hf n
  unfold setT;rw [getD_T hi];exact this
 ·refine ⟨?_,h.few.2⟩
  show (setT k.tubes i f n).length<_
  rw [setT_len];exact h.few.1
theorem Keeps.set1 {S:Nat->Prop} {a w:World} (h:Keeps S a w) {g:Nat} (hg:S g) (o:Nat) (u:Value):Keeps S a (w.setCell ⟨g,o,none⟩ u):=h.setCell (p:=⟨g,o,none⟩) (.inl hg) u
def goneT (ts:List (Nat->Int)) (i:Nat):List (Nat->Int):=setT (setT (setT ts i 8 0) i 9 0) i 10 0
theorem gone_any (b:Nat) (vt vp:Value) (k:Bk) (i:Nat) (hi:i<k.tubes.length) (w:World) (h:BkAt w b vt vp k) :
  Calls prog 96 #[.pointer (some ⟨b,0,none⟩),.int .i64 i] w fun e w'=>e=.returned (.tuple #[])/\BkAt w' b vt vp (k.withTubes (goneT k.tubes i))/\Keeps (fun g=>vt.ownBlock=some g) w w':=by
 obtain ⟨oa,cap,rfl,_⟩:=h.tubes.form
 obtain ⟨g,rfl,hn,hcap,hgl,t0,t1,t2,t3,t4,t5,t6,t7,t8,t9,t10,hfz⟩:=h.tube hi
 have hct:=h.ct
 have hbl:=h.lt
 have hg:(Value.slice (some ⟨g,0,none⟩) k.tubes.length cap).ownBlock=some g:=rfl
 have hgb:¬ g=b:=fun e=>h.nt (by rw [<- e];rfl)
 have hbg:¬ b=g:=fun e=>hgb e.symm
 have r1:=h.setTube hg hi (f:=8) (by omega) 0
 have r2:=r1.setTube hg (i:=i) (f:=9) (by show i<(setT k.tubes i 8 0).length;rw [setT_len];exact hi) (by omega) 0
 have r3:=r2.setTube hg (i:=i) (f:=10) (by show i<(setT (setT k.tubes i 8 0) i 9 0).length;rw [setT_len,setT_len];exact hi) (by omega) 0
 have R3:=hid r3
 clear r1 r2 r3 t0 t1 t2 t3 t4 t5 t6 t7
 have hi':(i:Int)<(k.tubes.length:Int):=by omega
 go_enter func96,ntmps96
 go_wp2
 go_end0
 exact ⟨rfl,R3.out,(((Keeps.refl (fun g'=>g=g') w).set1 rfl _ _).set1 rfl _ _).set1 rfl _ _⟩
end
section
open Go.RowKit
def mapTo (f:(Nat->Int)->Nat->Int) (ts:List (Nat->Int)) (m:Nat):List (Nat->Int):=(ts.take m).map f++ts.drop m
theorem mapTo_len (f:(Nat->Int)->Nat->Int) (ts:List (Nat->Int)) (m:Nat):(mapTo f ts m).length=ts.length:=by simp [mapTo];omega
theorem mapTo_zero (f:(Nat->Int)->Nat->Int) (ts:List (Nat->Int)):mapTo f ts 0=ts:=by simp [mapTo]
theorem mapTo_all (f:(Nat->Int)->Nat->Int) (ts:List (Nat->Int)):mapTo f ts ts.length=ts.map f:=by simp [mapTo]
theorem mapTo_at (f:(Nat->Int)->Nat->Int) (ts:List (Nat->Int)) (m:Nat) (h:m<ts.length):(mapTo f ts m)[m]'(by rw [mapTo_len];exact h)=ts[m]:=by
 unfold mapTo
 rw [List.getElem_append_right (by simp;omega)]
 simp
 congr 1
 omega
theorem mapTo_set (f:(Nat->Int)->Nat->Int) (ts:List (Nat->Int)) (m:Nat) (h:m<ts.length):(mapTo f ts m).set m (f ts[m])=mapTo f ts (m+1):=by
 unfold mapTo
 have e:ts.drop m=ts[m]::ts.drop (m+1):=List.drop_eq_getElem_cons h
 rw [e,List.take_succ_eq_append_getElem h,List.map_append,List.set_append_right _ _ (by simp;omega)]
 have hl:m - ((ts.take m).map f).length=0:=by simp;omega
 rw [hl,List.set_cons_zero]
 simp
theorem mapTo_same (f:(Nat->Int)->Nat->Int) (ts:List (Nat->Int)) (m:Nat) (h:m<ts.length) (e:f ts[m]=ts[m]):mapTo f ts m=mapTo f ts (m+1):=by
 rw [<- mapTo_set f ts m h,e]
 have hm:m<(mapTo f ts m).length:=by rw [mapTo_len];exact h
 have:=List.set_getElem_self hm
 rw [mapTo_at f ts m h] at this
 exact this.symm
theorem setT_mapTo (f:(Nat->Int)->Nat->Int) (ts:List (Nat->Int)) (m:Nat) (h:m<ts.length) (i:Nat) (n:Int):setT (mapTo f ts m) m i n=(mapTo f ts m).set m (upd ts[m] i n):=by
 unfold setT;rw [getD_T (by rw [mapTo_len];exact h),mapTo_at f ts m h]
theorem setT_set (l:List (Nat->Int)) (m:Nat) (h:m<l.length) (t:Nat->Int) (i:Nat) (n:Int):setT (l.set m t) m i n=l.set m (upd t i n):=by
 unfold setT;rw [getD_T (by simpa using h),List.getElem_set_self,List.set_set]
def turnF (box sd:Int) (flip:Bool) (t:Nat->Int):Nat->Int :=
 if t 8=box then (if flip then upd t 9 (sd - 1 - t 9) else upd (upd t 9 (sd - 1 - t 10)) 10 (t 9)) else t
theorem bturned_any (b:Nat) (vt vp:Value) (k:Bk) (box:Nat) (flip:Bool) (hbox:box<10) (w:World) (h:BkAt w b vt vp k) (hsm:Small k) (hsd:0<=k.sides box/\k.sides box<=1000000) :
  Calls prog 98 #[.pointer (some ⟨b,0,none⟩),.int .i64 box,.bool flip] w fun e w'=>e=.returned (.tuple #[])/\BkAt w' b vt vp (k.withTubes (k.tubes.map (turnF box (k.sides box) flip)))/\Keeps (fun g=>vt.ownBlock=some g) w w':=by
 obtain ⟨oa,cap,rfl,_⟩:=h.tubes.form
 have hct:=h.ct
 have hbl:=h.lt
 have hside:=h.side box hbox
 have hbt:(box:Int)<10:=by omega
 have hfew:=h.few.1
 have HSm:=hid hsm.tubes
 have hK0:BkAt w b (.slice oa k.tubes.length cap) vp (k.withTubes (mapTo (turnF box (k.sides box) flip) k.tubes 0)):=by rw [mapTo_zero];exact h
 clear hsm
 go_enter func98,ntmps98
 go_wp2_with fail
 go_loopg [7] k.tubes.length (fun gk i wr=>∃ m:Nat,m+gk=k.tubes.length/\i=.int .i64 m/\BkAt wr b (.slice oa k.tubes.length cap) vp (k.withTubes (mapTo (turnF box (k.sides box) flip) k.tubes m))/\Keeps (fun g=>(Value.slice oa k.tubes.length cap).ownBlock=some g) w wr)
 case atStart=>exact ⟨0,by omega,rfl,hK0,Keeps.refl _ _⟩
 case round =>
  clear hK0
  obtain ⟨m,hm,rfl,hK,hkp⟩:=hrel
  have HM:=hid hm
  have hmle:m<=k.tubes.length:=by omega
  clear hm
  have hctr:=hK.ct
  by_cases hlt:m<k.tubes.length
  ·have hlm:m<(mapTo (turnF box (k.sides box) flip) k.tubes m).length:=by rw [mapTo_len];exact hlt
   obtain ⟨g,rfl,hn,hcap,hgl,t0,t1,t2,t3,t4,t5,t6,t7,t8,t9,t10,hfz⟩:=hK.tube (m:=m) hlm
   have hat:(k.withTubes (mapTo (turnF box (k.sides box) flip) k.tubes m)).tubes[m]=k.tubes[m]:=mapTo_at _ _ m hlt
   rw [hat] at t8 t9 t10
   clear hat t0 t1 t2 t3 t4 t5 t6 t7
   have hg:(Value.slice (some ⟨g,0,none⟩) k.tubes.length cap).ownBlock=some g:=rfl
   have hgb:¬ g=b:=fun e=>hK.nt (by rw [<- e];rfl)
   have hbg:¬ b=g:=fun e=>hgb e.symm
   have hlt':(m:Int)<(k.tubes.length:Int):=by omega
   have b9:=HSm.out k.tubes[m] (List.getElem_mem hlt) 9
   have b10:=HSm.out k.tubes[m] (List.getElem_mem hlt) 10
   have HST:=hid (fun i n=>setT_mapTo (turnF box (k.sides box) flip) k.tubes m hlt i n)
   have HSe:=hid (mapTo_set (turnF box (k.sides box) flip) k.tubes m hlt)
   have HSa:=hid (mapTo_same (turnF box (k.sides box) flip) k.tubes m hlt)
   have hlm2:m<(mapTo (turnF box (k.sides box) flip) k.tubes m).length:=hlm
   by_cases hbx:k.tubes[m] 8=box
   ·cases flip with
    | true =>
     have e1:turnF box (k.sides box) true k.tubes[m]=upd k.tubes[m] 9 (k.sides box - 1 - k.tubes[m] 9):=by unfold turnF;rw [if_pos hbx];rfl
     have r1:=hK.setTube hg (i:=m) (f:=9) hlm (by omega) (k.sides box - 1 - k.tubes[m] 9)
     have e2:setT (mapTo (turnF box (k.sides box) true) k.tubes m) m 9 (k.sides box - 1 - k.tubes[m] 9)=mapTo (turnF box (k.sides box) true) k.tubes (m+1):=by
      rw [HST.out,<- e1];exact HSe.out
     have R1:Hid (BkAt (wr.setCell ⟨g,m*11+9,none⟩ (.int .i64 (k.sides box - 1 - k.tubes[m] 9))) b (.slice (some ⟨g,0,none⟩) k.tubes.length cap) vp (k.withTubes (mapTo (turnF box (k.sides box) true) k.tubes (m+1)))):=by
      rw [<- e2];exact r1
     rw [hbx] at t8
     clear r1 e1 e2 HST HSe HSa hbx
     generalize k.tubes[m]=t at *
     generalize k.sides box=sd at *
     go_wp2
     go_roundg (gk - 1)
     case measure=>have:=HM.out;omega
     case rel=>exact ⟨m+1,by have:=HM.out;omega,by go_num,R1.out,hkp.set1 hg _ _⟩
    | false =>
     have e1:turnF box (k.sides box) false k.tubes[m]=upd (upd k.tubes[m] 9 (k.sides box - 1 - k.tubes[m] 10)) 10 (k.tubes[m] 9):=by unfold turnF;rw [if_pos hbx];rfl
     have r1:=hK.setTube hg (i:=m) (f:=9) hlm (by omega) (k.sides box - 1 - k.tubes[m] 10)
     have r2:=r1.setTube hg (i:=m) (f:=10) (by show m<(setT _ m 9 _).length;rw [setT_len];exact hlm) (by omega) (k.tubes[m] 9)
     have e2:setT (setT (mapTo (turnF box (k.sides box) false) k.tubes m) m 9 (k.sides box - 1 - k.tubes[m] 10)) m 10 (k.tubes[m] 9)=mapTo (turnF box (k.sides box) false) k.tubes (m+1):=by
      rw [HST.out,setT_set _ m hlm2,<- e1];exact HSe.out
     have R1:Hid (BkAt ((wr.setCell ⟨g,m*11+9,none⟩ (.int .i64 (k.sides box - 1 - k.tubes[m] 10))).setCell ⟨g,m*11+10,none⟩ (.int .i64 (k.tubes[m] 9))) b (.slice (some ⟨g,0,none⟩) k.tubes.length cap) vp (k.withTubes (mapTo (turnF box (k.sides box) false) k.tubes (m+1)))):=by
      rw [<- e2];exact r2
     rw [hbx] at t8
     clear r1 r2 e1 e2 HST HSe HSa hbx
     generalize k.tubes[m]=t at *
     generalize k.sides box=sd at *
     go_wp2
     go_roundg (gk - 1)
     case measure=>have:=HM.out;omega
     case rel=>exact ⟨m+1,by have:=HM.out;omega,by go_num,R1.out,(hkp.set1 hg _ _).set1 hg _ _⟩
   ·have e1:turnF box (k.sides box) flip k.tubes[m]=k.tubes[m]:=by unfold turnF;rw [if_neg hbx]
    have R1:Hid (BkAt wr b (.slice (some ⟨g,0,none⟩) k.tubes.length cap) vp (k.withTubes (mapTo (turnF box (k.sides box) flip) k.tubes (m+1)))):=by
     rw [<- HSa.out e1];exact hK
    have hbx':(k.tubes[m] 8 != (box:Int))=true:=by rw [bne_iff_ne];exact hbx
    clear e1 HST HSe HSa hbx
    generalize k.tubes[m]=t at *
    go_wp2
    go_roundg (gk - 1)
    case measure=>have:=HM.out;omega
    case rel=>exact ⟨m+1,by have:=HM.out;omega,by go_num,R1.out,hkp⟩
  ·have hme:m=k.tubes.length:=by omega
   have R1:Hid (BkAt wr b (.slice oa k.tubes.length cap) vp (k.withTubes (k.tubes.map (turnF box (k.sides box) flip)))):=by
    rw [<- mapTo_all,<- hme];rw [hme];rw [hme] at hK;exact hK
   clear hme
   go_wp2
   go_end0
   exact ⟨rfl,R1.out,hkp⟩
end
section
open Go.RowKit
def Bk.withPoured (k:Bk) (ps:List (Nat->Int)):Bk:={ k with poured:=ps }
def mkP (a b v:Int):Nat->Int:=fun i=>[a,b,v].getD i 0
theorem Tryz.infoPoured:(prog.info? 178).map (fun i=>(i.zero,i.size,i.bytes))=some (some (.agg #[.int .i64 0,.int .i64 0,.int .i64 0]),3,24):=by kernel_rfl
def pourT (ts:List (Nat->Int)) (i j:Nat) (v:Int):List (Nat->Int) :=
 setT (setT ts i 3 (ts.getD i zeroT 3 - v)) j 3 ((setT ts i 3 (ts.getD i zeroT 3 - v)).getD j zeroT 3+v)
def pourP (ps:List (Nat->Int)) (a b v:Int):List (Nat->Int) :=
 if pairI ps a b<0 then ps++[mkP a b v] else setT ps (pairI ps a b).toNat 2 (ps.getD (pairI ps a b).toNat zeroT 2+v)
theorem wraps64s (n:Int) (h0 : -9223372036854775808<=n) (h1:n<=9223372036854775807):IntKind.i64.wrap n=n:=by
 simp only [IntKind.wrap,IntKind.bits,IntKind.signed];simp;omega
theorem BkAt.drew {w:World} {b:Nat} {vt vp:Value} {k:Bk} (h:BkAt w b vt vp k):BkAt w.drew b vt vp k :=
 ⟨h.lt,h.side,h.ct,h.cp,h.fz,h.tubes,h.poured,h.nt,h.np,h.tp,h.few⟩
theorem BkAt.setPoured {w:World} {b:Nat} {vt vp:Value} {k:Bk} (h:BkAt w b vt vp k) {g:Nat} (hg:vp.ownBlock=some g) {i f:Nat} (hi:i<k.poured.length) (hf:f<3) (n:Int) :
  BkAt (w.setCell ⟨g,i*3+f,none⟩ (.int .i64 n)) b vt vp (k.withPoured (setT k.poured i f n)):=by
 have hgb:¬ g=b:=fun e=>h.np (by rw [<- e];exact hg)
 have ho:∀ j,(w.setCell ⟨g,i*3+f,none⟩ (.int .i64 n)).cell? ⟨b,j,none⟩=w.cell? ⟨b,j,none⟩:=fun j=>World.cell?_setCell_other w ⟨g,i*3+f,none⟩ ⟨b,j,none⟩ _ (by intro h';injection h' with h1 _ _;exact hgb h1)
 refine ⟨by simpa using h.lt,fun j hj=>(ho j).trans (h.side j hj),(ho 10).trans h.ct,(ho 11).trans h.cp,fun j=>by rw [World.frozen?_setCell];exact h.fz j,h.tubes.setOther (fun e=>h.tp g e hg) _,?_,h.nt,h.np,h.tp,?_⟩
 ·show Recs _ _ 3 vp (setT k.poured i f n)
  have:=h.poured.set hg hi hf n
  unfold setT;rw [getD_T hi];exact this
 ·refine ⟨h.few.1,?_⟩
  show (setT k.poured i f n).length<_
  rw [setT_len];exact h.few.2
theorem BkAt.newPoured {S:Nat->Prop} {w w1:World} {b:Nat} {vt vp vp':Value} {k:Bk} (h:BkAt w b vt vp k) (hk:Keeps S w w1) (hsb:¬ S b) (hst:∀ g,vt.ownBlock=some g->¬ S g) {ps:List (Nat->Int)} (hr:Recs w1 178 3 vp' ps)
  (hd:∀ g,vp'.ownBlock=some g->g≠b/\vt.ownBlock≠some g) (hf:ps.length<1000000):BkAt (w1.setCell ⟨b,11,none⟩ vp') b vt vp' (k.withPoured ps):=by
 have hlt1:b<w1.heap.size:=Nat.lt_of_lt_of_le h.lt hk.size
 have hc11:w1.cell? ⟨b,11,none⟩=some vp:=(hk.cell (p:=⟨b,11,none⟩) h.lt hsb).trans h.cp
 have ho:∀ j,j≠11->(w1.setCell ⟨b,11,none⟩ vp').cell? ⟨b,j,none⟩=w.cell? ⟨b,j,none⟩:=fun j hj =>
  (World.cell?_setCell_other w1 ⟨b,11,none⟩ ⟨b,j,none⟩ _ (by intro h';injection h' with _ h2 _;exact hj h2.symm)).trans (hk.cell (p:=⟨b,j,none⟩) h.lt hsb)
 refine ⟨by simpa using hlt1,fun j hj=>(ho j (by omega)).trans (h.side j hj),(ho 10 (by omega)).trans h.ct,World.cell?_setCell_same w1 ⟨b,11,none⟩ vp' hc11,fun j=>by rw [World.frozen?_setCell];exact (hk.frozen (p:=⟨b,j,none⟩) h.lt hsb).trans (h.fz j),?_,?_,h.nt,?_,?_,?_⟩
 ·exact (h.tubes.keeps hk hst).setOther (fun e=>h.nt e) _
 ·exact hr.setOther (fun e=>(hd b e).1 rfl) _
 ·intro e;exact (hd b e).1 rfl
 ·intro g hg e;exact (hd g e).2 hg
 ·exact ⟨h.few.1,hf⟩
theorem own_lower {w:World} {base:Nat} {e:TypeId} {size:Nat} {v:Value} {n:Nat} {xs:List Value} (h:w.ownsRow base e size v n xs):w.ownsRow 0 e size v n xs:=by
 refine ⟨h.1,?_⟩
 rcases h.2 with hn | ⟨g,cap,cur,rfl,h1,hg,rest⟩
 ·exact .inl hn
 ·exact .inr ⟨g,cap,cur,rfl,Nat.zero_le _,hg,rest⟩
theorem recs_one (k:Nat) (t:Nat->Int):recs k [t]=recCells k t:=by simp [recs]
theorem p_cells (w:World) (p q v:Int):∀ j u,(recCells 3 (mkP p q v))[j]? = some u->(w.alloc (.cells #[.int .i64 p,.int .i64 q,.int .i64 v] 178)).cell? ((⟨w.heap.size,0,none⟩:Addr).add j)=some u:=by
 intro j u hj
 rw [addr_add,World.cell?_alloc_new]
 have:recCells 3 (mkP p q v)=[.int .i64 p,.int .i64 q,.int .i64 v]:=rfl
 rw [this] at hj
 rw [<- hj];simp
theorem rec_one {k:Nat} {t:Nat->Int}:∀ u∈recCells k t,u.oneCell'=true:=by
 intro u hu
 simp only [recCells,List.mem_map] at hu
 obtain ⟨i,_,rfl⟩:=hu
 rfl
set_option maxRecDepth 100000 in
theorem bpour_any (b:Nat) (vt vp:Value) (k:Bk) (p q v:Int) (w:World) (h:BkAt w b vt vp k) (hsm:Small k) (hv:0<=v/\v<=1000000000)
  (i j:Nat) (hi:i<k.tubes.length) (hj:j<k.tubes.length) (hij:¬ i=j) (hfi:findI k.tubes p=i) (hfj:findI k.tubes q=j) (hroom:k.poured.length<900000) :
  Calls prog 95 #[.pointer (some ⟨b,0,none⟩),.int .i64 p,.int .i64 q,.int .i64 v] w fun e w'=>e=.returned (.tuple #[])/\∃ vp',BkAt w' b vt vp' ((k.withTubes (pourT k.tubes i j v)).withPoured (pourP k.poured p q v))/\(vp'.ownBlock=vp.ownBlock\/∀ g,vp'.ownBlock=some g->w.heap.size<=g)/\Keeps (bkOwn b vt vp) w w':=by
 obtain ⟨oa,cap,rfl,_⟩:=h.tubes.form
 obtain ⟨g,rfl,hn,hcap,hgl,t0,t1,t2,t3,t4,t5,t6,t7,t8,t9,t10,hfz⟩:=h.tube hi
 obtain ⟨g2,e2,_,_,_,u0,u1,u2,u3,u4,u5,u6,u7,u8,u9,u10,_⟩:=h.tube hj
 injection e2 with e2;injection e2 with e2
 subst e2
 clear t0 t1 t2 t4 t5 t6 t7 t8 t9 t10 u0 u1 u2 u4 u5 u6 u7 u8 u9 u10
 have hct:=h.ct
 have hbl:=h.lt
 have hfew:=h.few.1
 have hg:(Value.slice (some ⟨g,0,none⟩) k.tubes.length cap).ownBlock=some g:=rfl
 have hgb:¬ g=b:=fun e=>h.nt (by rw [<- e];rfl)
 have hbg:¬ b=g:=fun e=>hgb e.symm
 have hi':(i:Int)<(k.tubes.length:Int):=by omega
 have hj':(j:Int)<(k.tubes.length:Int):=by omega
 have hji:¬ j=i:=fun e=>hij e.symm
 have bi:=hsm.tubes k.tubes[i] (List.getElem_mem hi) 3
 have bj:=hsm.tubes k.tubes[j] (List.getElem_mem hj) 3
 have hw1:IntKind.i64.wrap (k.tubes[i] 3 - v)=k.tubes[i] 3 - v:=wraps64s _ (by omega) (by omega)
 have hw2:IntKind.i64.wrap (k.tubes[j] 3+v)=k.tubes[j] 3+v:=wraps64s _ (by omega) (by omega)
 have r1:=h.setTube hg (i:=i) (f:=3) hi (by omega) (k.tubes[i] 3 - v)
 have r2:=r1.setTube hg (i:=j) (f:=3) (by show j<(setT _ i 3 _).length;rw [setT_len];exact hj) (by omega) (k.tubes[j] 3+v)
 have eT:pourT k.tubes i j v=setT (setT k.tubes i 3 (k.tubes[i] 3 - v)) j 3 (k.tubes[j] 3+v):=by
  unfold pourT
  rw [getD_T hi]
  have:(setT k.tubes i 3 (k.tubes[i] 3 - v)).getD j zeroT=k.tubes[j]:=by
   rw [getD_T (by rw [setT_len];exact hj)]
   unfold setT
   rw [List.getElem_set_ne (by omega)]
  rw [this]
 have R2:Hid (BkAt ((w.setCell ⟨g,i*11+3,none⟩ (.int .i64 (k.tubes[i] 3 - v))).setCell ⟨g,j*11+3,none⟩ (.int .i64 (k.tubes[j] 3+v))).drew.drew b (.slice (some ⟨g,0,none⟩) k.tubes.length cap) vp (k.withTubes (pourT k.tubes i j v))):=by
  rw [eT];exact r2.drew.drew
 have RK:Hid (Keeps (bkOwn b (.slice (some ⟨g,0,none⟩) k.tubes.length cap) vp) w ((w.setCell ⟨g,i*11+3,none⟩ (.int .i64 (k.tubes[i] 3 - v))).setCell ⟨g,j*11+3,none⟩ (.int .i64 (k.tubes[j] 3+v))).drew.drew) :=
  (((Keeps.refl _ w).set1 (.inr (.inl hg)) _ _).set1 (.inr (.inl hg)) _ _).drew.drew
 clear r1 r2 eT
 generalize k.tubes[i] 3=ti at *
 generalize k.tubes[j] 3=tj at *
 have hne:¬ (i*11+3=j*11+3):=by omega
 have hne2:¬ (j*11+3=i*11+3):=by omega
 go_enter func95,ntmps95
 go_wp2_with (first | (go_at_call_of 90 (Value.int .i64 p);refine (find_any b _ vp k _ _ h).mono ?_;rintro e w ⟨rfl,rfl⟩;rw [hfi]) | (go_at_call 90;refine (find_any b _ vp k _ _ h).mono ?_;rintro e w ⟨rfl,rfl⟩;rw [hfj]))
 go_region
 go_wp2_with fail
 go_region
 go_wp2_with fail
 have hK2:=R2.out
 have hKp:=RK.out
 clear R2 RK t3 u3 hct
 generalize ((w.setCell ⟨g,i*11+3,none⟩ (.int .i64 (ti - v))).setCell ⟨g,j*11+3,none⟩ (.int .i64 (tj+v))).drew.drew=w2 at *
 refine (pair_any b _ vp _ _ _ _ hK2).mono ?_
 rintro e w2 ⟨rfl,rfl⟩
 have hK3:BkAt w2 b (.slice (some ⟨g,0,none⟩) k.tubes.length cap) vp (k.withTubes (pourT k.tubes i j v)):=hK2
 have hcp:=hK3.cp
 have hzz:=hKp.size
 have hbl2:=hK3.lt
 have hf11:=hK3.fz 11
 have hown0:w2.ownsRow 0 178 3 vp k.poured.length (recs 3 k.poured):=hK3.poured
 have hnpb:=hK3.np
 have htp:=hK3.tp g rfl
 have HN:Hid (∀ g',(Value.slice (some ⟨g,0,none⟩) k.tubes.length cap).ownBlock=some g'->g'=g):=fun g' h=>by injection h with h;exact h.symm
 obtain ⟨ip,hip,hz0,hz1,hz2⟩:=info_parts Tryz.infoPoured
 have hpl:(k.withTubes (pourT k.tubes i j v)).poured=k.poured:=rfl
 rw [hpl]
 clear hpl
 -- what is left to say when the new list lies there
 have HEnd:Hid (∀ (w3:World) (vp':Value) (ps:List (Nat->Int)),Keeps (fun g'=>vp.ownBlock=some g') w2 w3->Recs w3 178 3 vp' ps->(vp'.ownBlock=vp.ownBlock\/∀ g,vp'.ownBlock=some g->w2.heap.size<=g)->ps.length<1000000 ->
   BkAt (w3.setCell ⟨b,11,none⟩ vp') b (.slice (some ⟨g,0,none⟩) k.tubes.length cap) vp' ((k.withTubes (pourT k.tubes i j v)).withPoured ps)/\(vp'.ownBlock=vp.ownBlock\/∀ g,vp'.ownBlock=some g->w.heap.size<=g)/\Keeps (bkOwn b (.slice (some ⟨g,0,none⟩) k.tubes.length cap) vp) w (w3.setCell ⟨b,11,none⟩ vp')):=by
  intro w3 vp' ps hk3 hr hor hf
  have hglt:g<w2.heap.size:=Nat.lt_of_lt_of_le hgl hzz
  refine ⟨hK3.newPoured hk3 (fun e=>hnpb e) (fun g' hg' e=>by rw [HN.out g' hg'] at e;exact htp e) hr ?_ hf,?_,?_⟩
  ·intro g' hg'
   rcases hor with hor | hor
   ·rw [hor] at hg'
    refine ⟨fun e=>hnpb (by rw [<- e];exact hg'),fun e => ?_⟩
    rw [HN.out g' e] at hg';exact htp hg'
   ·have:=hor g' hg'
    refine ⟨by omega,fun e => ?_⟩
    rw [HN.out g' e] at this;omega
  ·rcases hor with hor | hor
   ·exact .inl hor
   ·exact .inr (fun g' hg'=>Nat.le_trans hzz (hor g' hg'))
  ·exact (hKp.trans ((hk3.mono (fun g' _ hg'=>.inr (.inr hg'))))).set1 (.inl rfl) _ _
 rcases pairI_cases k.poured p q with ⟨e1,e1',_⟩ | ⟨hm,e1,_⟩
 ·have EP:Hid (pourP k.poured p q v=k.poured++[mkP p q v]):=by unfold pourP;rw [if_pos e1];exact hid rfl
  have hlenp:(k.poured++[mkP p q v]).length<1000000:=by simp;omega
  have HFIN:Hid (∀ (base:Nat) (w3:World) (v':Value),w3.ownsRow base 178 3 v' (k.poured.length+1) (recs 3 k.poured++recCells 3 (mkP p q v))->Recs w3 178 3 v' (k.poured++[mkP p q v])):=by
   intro base w3 v' ho
   unfold Recs
   rw [recs_append,recs_one,List.length_append]
   exact own_lower ho
  clear e1'
  generalize pairI k.poured p q=pp at *
  rcases hK3.poured.2 with ⟨hv0,hn0⟩ | ⟨gp,cpp,cur,hvp,_,hgp,hle,hcm,_⟩
  ·subst hv0
   have hn0':k.poured=[]:=List.eq_nil_of_length_eq_zero hn0
   have hl0:k.poured.length=0:=hn0
   clear hn0
   rw [hn0'] at HFIN
   have HN0:=hid hn0'
   clear hn0' hl0
   go_wp2_with (at_builtin;refine wpList_append_grows _ rfl _ _ 92 rfl 178 ip _ 3 24 underlying92 hip hz0 hz1 hz2 rfl (by decide) none 0 0 [] rfl (fun _=>⟨rfl,rfl⟩) rfl (fun b h=>by cases h) ⟨w2.heap.size,0,none⟩ 1 1 (recCells 3 (mkP p q v)) rfl rfl (p_cells w2 p q v) rec_one (by decide) (by decide) (by decide) ?_;intro v' w3 hown' hgrow';obtain ⟨g3,cap3,rfl⟩:=own_form hown';have hk3:Keeps (fun g'=>(Value.slice none 0 0).ownBlock=some g') w2 w3:=((Keeps.refl _ w2).alloc _).grown hgrow' (fun k hk=>by cases hk);have hc3:=(hk3.cell (p:=⟨b,11,none⟩) hbl2 hnpb).trans hcp;have hf3:=(hk3.frozen (p:=⟨b,11,none⟩) hbl2 hnpb).trans hf11)
   refine bodyPost_ret (v:=.tuple #[]) (by simp [results,results95,go_sem]) rfl ?_
   refine ⟨rfl,?_⟩
   rw [EP.out]
   exact ⟨_,HEnd.out w3 _ _ hk3 (by rw [HN0.out];exact HFIN.out _ w3 _ hown') (.inr (fun g' hg'=>by have:=(hown'.lt g' hg').1;simp at this;omega)) hlenp⟩
  ·subst hvp
   have hgp':(Value.slice (some ⟨gp,0,none⟩) k.poured.length cpp).ownBlock=some gp:=rfl
   by_cases hroom2:k.poured.length+1<=cpp
   ·go_wp2_with (at_builtin;refine wpList_append_fits _ rfl _ _ 92 rfl 0 178 ip 3 underlying92 hip hz1 gp k.poured.length cpp (recs 3 k.poured) rfl (hown0.alloc _) ⟨w2.heap.size,0,none⟩ 1 1 (recCells 3 (mkP p q v)) rfl rfl (p_cells w2 p q v) rec_one hroom2 ?_;intro w3 hown' hgrow';have hk3:Keeps (fun g'=>(Value.slice (some ⟨gp,0,none⟩) k.poured.length cpp).ownBlock=some g') w2 w3:=((Keeps.refl _ w2).alloc _).grown hgrow' (fun k hk=>.inl hk);have hc3:=(hk3.cell (p:=⟨b,11,none⟩) hbl2 hnpb).trans hcp;have hf3:=(hk3.frozen (p:=⟨b,11,none⟩) hbl2 hnpb).trans hf11)
    refine bodyPost_ret (v:=.tuple #[]) (by simp [results,results95,go_sem]) rfl ?_
    refine ⟨rfl,?_⟩
    rw [EP.out]
    exact ⟨_,HEnd.out w3 _ _ hk3 (HFIN.out _ w3 _ hown') (.inl rfl) hlenp⟩
   ·have hlo:(recs 3 k.poured).length=k.poured.length*3:=recs_len 3 k.poured
    have hcells:Hid (∀ b',some (⟨gp,0,none⟩:Addr)=some b'->∀ j u,(recs 3 k.poured)[j]? = some u->(w2.alloc (.cells #[.int .i64 p,.int .i64 q,.int .i64 v] 178)).cell? (b'.add j)=some u):=by
     intro b' hb' j u hj
     cases hb'
     exact (hown0.alloc (.cells #[.int .i64 p,.int .i64 q,.int .i64 v] 178)).cells (g:=gp) rfl j u hj
    go_wp2_with (at_builtin;refine wpList_append_grows _ rfl _ _ 92 rfl 178 ip _ 3 24 underlying92 hip hz0 hz1 hz2 rfl (by decide) (some ⟨gp,0,none⟩) k.poured.length cpp (recs 3 k.poured) rfl (fun h=>by cases h) hlo hcells.out ⟨w2.heap.size,0,none⟩ 1 1 (recCells 3 (mkP p q v)) rfl rfl (p_cells w2 p q v) rec_one (by omega) (by unfold maxLen;omega) (by omega) ?_;intro v' w3 hown' hgrow';obtain ⟨g3,cap3,rfl⟩:=own_form hown';have hk3:Keeps (fun g'=>(Value.slice (some ⟨gp,0,none⟩) k.poured.length cpp).ownBlock=some g') w2 w3:=((Keeps.refl _ w2).alloc _).grown hgrow' (fun k hk=>by cases hk);have hc3:=(hk3.cell (p:=⟨b,11,none⟩) hbl2 hnpb).trans hcp;have hf3:=(hk3.frozen (p:=⟨b,11,none⟩) hbl2 hnpb).trans hf11)
    refine bodyPost_ret (v:=.tuple #[]) (by simp [results,results95,go_sem]) rfl ?_
    refine ⟨rfl,?_⟩
    rw [EP.out]
    exact ⟨_,HEnd.out w3 _ _ hk3 (HFIN.out _ w3 _ hown') (.inr (fun g' hg'=>by have:=(hown'.lt g' hg').1;simp at this;omega)) hlenp⟩
 ·have EP:Hid (pourP k.poured p q v=setT k.poured (pairI k.poured p q).toNat 2 (k.poured[(pairI k.poured p q).toNat] 2+v)):=by
   unfold pourP;rw [if_neg (by omega),getD_T hm];exact hid rfl
  obtain ⟨op,cpp,rfl,_⟩:=hK3.poured.form
  have hK4:BkAt w2 b (.slice (some ⟨g,0,none⟩) k.tubes.length cap) (.slice op k.poured.length cpp) (k.withTubes (pourT k.tubes i j v)):=hK3
  obtain ⟨gp,rfl,_,hcpp,hgpl,c0,c1,c2,hfzp⟩:=hK4.pouredCell (m:=(pairI k.poured p q).toNat) hm
  have hc2:w2.cell? ⟨gp,(pairI k.poured p q).toNat*3+2,none⟩=some (.int .i64 (k.poured[(pairI k.poured p q).toNat] 2)):=c2
  have bp:=hsm.poured k.poured[(pairI k.poured p q).toNat] (List.getElem_mem hm) 2
  have r1:=hK4.setPoured (g:=gp) rfl (i:=(pairI k.poured p q).toNat) (f:=2) hm (by omega) (k.poured[(pairI k.poured p q).toNat] 2+v)
  have R1:Hid (BkAt ((w2.setCell ⟨gp,(pairI k.poured p q).toNat*3+2,none⟩ (.int .i64 (k.poured[(pairI k.poured p q).toNat] 2+v))).drew) b (.slice (some ⟨g,0,none⟩) k.tubes.length cap) (.slice (some ⟨gp,0,none⟩) k.poured.length cpp) ((k.withTubes (pourT k.tubes i j v)).withPoured (pourP k.poured p q v))):=by
   rw [EP.out];exact r1.drew
  have hgpb:¬ gp=b:=fun e=>hnpb (by rw [<- e];rfl)
  have hbgp:¬ b=gp:=fun e=>hgpb e.symm
  have hfzp2:=hfzp ((pairI k.poured p q).toNat*3+2)
  have hplen:=hK3.few.2
  have hpl2:k.poured.length<1000000:=hplen
  clear r1 c0 c1 c2 hfzp hplen EP HEnd
  generalize k.poured[(pairI k.poured p q).toNat] 2=pv at *
  generalize pairI k.poured p q=pp at *
  have hm':pp<(k.poured.length:Int):=by omega
  have hw3:IntKind.i64.wrap (pv+v)=pv+v:=wraps64s _ (by omega) (by omega)
  have hcp':w2.cell? ⟨b,11,none⟩=some (.slice (some ⟨gp,0,none⟩) k.poured.length cpp):=hcp
  clear hcp
  go_wp2_with fail
  go_region
  go_wp2
  go_end0
  exact ⟨rfl,_,R1.out,.inl rfl,(hKp.set1 (.inr (.inr rfl)) _ _).drew⟩
end
end Go.Proofs.YtalncjhldkcmaaaGreat
