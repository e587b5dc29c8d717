import Derived.Test.YtalncjhldkcmaaaGreatFb27
import Derived.BigRegion
namespace Go.Proofs.YtalncjhldkcmaaaGreat
open Classical
open _root_.Go.Proofs.Tryz
set_option maxHeartbeats 16000000
set_option maxRecDepth 8000
section
open Go.RowKit
def hitTo (f:(Nat->Int)->Nat->Int) (hs:List Bool) (ts:List (Nat->Int)) (m:Nat):List (Nat->Int):=(List.range ts.length).map fun i=>if i<m/\hs.getD i false=true then f (ts.getD i zeroT) else ts.getD i zeroT
theorem hitTo_len (f:(Nat->Int)->Nat->Int) (hs:List Bool) (ts:List (Nat->Int)) (m:Nat):(hitTo f hs ts m).length=ts.length:=by simp [hitTo]
theorem hitTo_get (f:(Nat->Int)->Nat->Int) (hs:List Bool) (ts:List (Nat->Int)) (m i:Nat) (h:i<ts.length):(hitTo f hs ts m)[i]'(by rw [hitTo_len];exact h)=if i<m/\hs.getD i false=true then f ts[i] else ts[i]:=by
 simp only [hitTo,List.getElem_map,List.getElem_range]
 rw [getD_T h]
theorem hitTo_zero (f:(Nat->Int)->Nat->Int) (hs:List Bool) (ts:List (Nat->Int)):hitTo f hs ts 0=ts:=by
 apply List.ext_getElem (hitTo_len _ _ _ _)
 intro i h1 h2
 rw [hitTo_get _ _ _ _ _ h2,if_neg (by omega)]
theorem hitTo_at (f:(Nat->Int)->Nat->Int) (hs:List Bool) (ts:List (Nat->Int)) (m:Nat) (h:m<ts.length):(hitTo f hs ts m)[m]'(by rw [hitTo_len];exact h)=ts[m]:=by
 rw [hitTo_get _ _ _ _ _ h,if_neg (by omega)]
theorem hitTo_set (f:(Nat->Int)->Nat->Int) (hs:List Bool) (ts:List (Nat->Int)) (m:Nat) (h:m<ts.length) (e:hs.getD m false=true):(hitTo f hs ts m).set m (f ts[m])=hitTo f hs ts (m+1):=by
 apply List.ext_getElem (by rw [List.length_set,hitTo_len,hitTo_len])
 intro i h1 h2
 have hi:i<ts.length:=by rw [hitTo_len] at h2;exact h2
 rw [hitTo_get _ _ _ _ _ hi,List.getElem_set]
 by_cases hm:m=i
 ·subst hm;rw [if_pos rfl,if_pos ⟨by omega,e⟩]
 ·rw [if_neg hm,hitTo_get _ _ _ _ _ hi]
  by_cases hc:i<m/\hs.getD i false=true
  ·rw [if_pos hc,if_pos ⟨by omega,hc.2⟩]
  ·rw [if_neg hc,if_neg (fun h'=>hc ⟨by omega,h'.2⟩)]
theorem hitTo_same (f:(Nat->Int)->Nat->Int) (hs:List Bool) (ts:List (Nat->Int)) (m:Nat) (h:m<ts.length) (e:hs.getD m false=true->f ts[m]=ts[m]):hitTo f hs ts m=hitTo f hs ts (m+1):=by
 apply List.ext_getElem (by rw [hitTo_len,hitTo_len])
 intro i h1 h2
 have hi:i<ts.length:=by rw [hitTo_len] at h2;exact h2
 rw [hitTo_get _ _ _ _ _ hi,hitTo_get _ _ _ _ _ hi]
 by_cases hm:m=i
 ·subst hm
  rw [if_neg (by omega)]
  by_cases hc:hs.getD m false=true
  ·rw [if_pos ⟨by omega,hc⟩,e hc]
  ·rw [if_neg (fun h'=>hc h'.2)]
 ·by_cases hc:i<m/\hs.getD i false=true
  ·rw [if_pos hc,if_pos ⟨by omega,hc.2⟩]
  ·rw [if_neg hc,if_neg (fun h'=>hc ⟨by omega,h'.2⟩)]
theorem setT_hitTo (f:(Nat->Int)->Nat->Int) (hs:List Bool) (ts:List (Nat->Int)) (m:Nat) (h:m<ts.length) (i:Nat) (n:Int):setT (hitTo f hs ts m) m i n=(hitTo f hs ts m).set m (upd ts[m] i n):=by
 unfold setT;rw [getD_T (by rw [hitTo_len];exact h),hitTo_at f hs ts m h]
theorem fire_ways (x1 x2:Bool):(x1=false/\x2=false)\/(x1=true\/(x1=false/\x2=true)):=by cases x1 <;> cases x2 <;> simp
def endT (t:Nat->Int):Nat->Int:=if t 6=3 then t else upd (upd (upd (upd (upd (upd t 6 3) 5 (t 5+t 3)) 3 0) 8 0) 9 0) 10 0
def cntTo (hs:List Bool) (ts:List (Nat->Int)) (m:Nat):Nat:=(List.range m).countP fun i=>hs.getD i false&&!(ts.getD i zeroT 6 == 3)
theorem cntTo_step (hs:List Bool) (ts:List (Nat->Int)) (m:Nat) (h:m<ts.length):cntTo hs ts (m+1)=cntTo hs ts m+if hs.getD m false=true/\¬ ts[m] 6=3 then 1 else 0:=by
 unfold cntTo
 rw [List.range_succ,List.countP_append,List.countP_cons,List.countP_nil,getD_T h]
 simp
theorem cntTo_le (hs:List Bool) (ts:List (Nat->Int)) (m:Nat):cntTo hs ts m<=m:=by
 have:=List.countP_le_length (p:=fun i=>hs.getD i false&&!(ts.getD i zeroT 6 == 3)) (l:=List.range m)
 rw [List.length_range] at this;exact this
def markD (ts:List (Nat->Int)) (donor:Int):List Bool:=ts.map fun t=>t 1 == donor
def markTo (ts:List (Nat->Int)) (donor:Int) (m:Nat):List Bool:=(markD ts donor).take m++List.replicate (ts.length - m) false
theorem markTo_len (ts:List (Nat->Int)) (donor:Int) (m:Nat) (h:m<=ts.length):(markTo ts donor m).length=ts.length:=by simp [markTo,markD];omega
theorem markTo_zero (ts:List (Nat->Int)) (donor:Int):markTo ts donor 0=List.replicate ts.length false:=by simp [markTo]
theorem markTo_all (ts:List (Nat->Int)) (donor:Int):markTo ts donor ts.length=markD ts donor:=by
 have:ts.length=(markD ts donor).length:=by simp [markD]
 unfold markTo
 rw [Nat.sub_self,List.replicate_zero,List.append_nil,this,List.take_length]
theorem markTo_set (ts:List (Nat->Int)) (donor:Int) (m:Nat) (h:m<ts.length):(markTo ts donor m).set m (ts[m] 1 == donor)=markTo ts donor (m+1):=by
 have hl:m<(markD ts donor).length:=by simpa [markD] using h
 unfold markTo
 rw [List.set_append_right _ _ (by simp;omega),List.take_succ_eq_append_getElem hl]
 have e:ts.length - m=(ts.length - (m+1))+1:=by omega
 have e2:m - ((markD ts donor).take m).length=0:=by simp;omega
 rw [e2,e,List.replicate_succ,List.set_cons_zero]
 simp [markD]
def hitD (k:Bk) (donor:Int) [DecidablePred (Rch (Edge k true) (fun i=>(markD k.tubes donor).getD i false=true))]:List Bool:=List.zipWith (fun a b=>a||b) (markD k.tubes donor) (reachL k (markD k.tubes donor) true)
theorem hitD_at (k:Bk) (donor:Int) {m:Nat} (h1:m<(markD k.tubes donor).length) (h2:m<(reachL k (markD k.tubes donor) true).length):(hitD k donor).getD m false=((markD k.tubes donor)[m]||(reachL k (markD k.tubes donor) true)[m]):=by
 rw [List.getD_eq_getElem?_getD,hitD,List.getElem?_zipWith,List.getElem?_eq_getElem h1,List.getElem?_eq_getElem h2];rfl
def wdB (k:Bk) (donor:Int) [DecidablePred (Rch (Edge k true) (fun i=>(markD k.tubes donor).getD i false=true))]:Bk:=k.withTubes (hitTo endT (hitD k donor) k.tubes k.tubes.length)
def wdN (k:Bk) (donor:Int) [DecidablePred (Rch (Edge k true) (fun i=>(markD k.tubes donor).getD i false=true))]:Nat:=cntTo (hitD k donor) k.tubes k.tubes.length
theorem withdraw_any (b:Nat) (vt vp:Value) (k:Bk) (donor:Int) (w:World) (h:BkAt w b vt vp k) (hsm:Small k) (hw:Wired k) :
  Calls prog 97 #[.pointer (some ⟨b,0,none⟩),.int .i64 donor] w fun e w'=>e=.returned (.int .i64 (wdN k donor))/\BkAt w' b vt vp (wdB k donor)/\Keeps (fun g=>vt.ownBlock=some g) w w':=by
 obtain ⟨i0,hi,hz0,hz1,hz2⟩:=info_parts Tryz.infoBool
 have hct:=h.ct
 have hbl:=h.lt
 have hfew:=h.few.1
 have HB:=hid h
 have HW:=hid hw
 have HSm:=hid hsm.tubes
 obtain ⟨oa,cap,rfl,_⟩:=h.tubes.form
 clear hsm hw
 go_enter func97,ntmps97
 go_wp2_with (at_make;refine wpList_make_full _ rfl _ _ 210 rfl w.heap.size 4 i0 (.bool false) 1 underlying210 hi hz0 hz1 .i64 .i64 _ _ k.tubes.length rfl rfl rfl rfl (by rw [hz2];omega) (by unfold maxLen;omega) (by simp) ?_;intro w0 hown0 hgrow0)
 have hO:=own_marks hown0
 rw [<- markTo_zero k.tubes donor] at hO
 have hsz0:w.heap.size<w0.heap.size:=by have:=hown0.lt w.heap.size rfl;omega
 have hB0:Below w.heap.size w w0:=Below.grown (Below.refl _ _) hgrow0 (by simp) (fun k hk=>by cases hk)
 clear hown0 hgrow0
 go_wp2_with fail
 go_loopg [6] k.tubes.length (fun gk iv wr=>∃ m:Nat,m+gk=k.tubes.length/\iv=.int .i64 m/\Marks wr (.slice (some ⟨w.heap.size,0,none⟩) k.tubes.length k.tubes.length) (markTo k.tubes donor m)/\Below w.heap.size w wr)
 case atStart=>exact ⟨0,by omega,rfl,hO,hB0⟩
 case round =>
  clear hO hB0 hsz0
  obtain ⟨m,hm',rfl,hO,hbel⟩:=hrel
  have HM:=hid hm'
  have hmle:m<=k.tubes.length:=by omega
  clear hm'
  have hctr:=(hbel.cell (p:=⟨b,10,none⟩) hbl).trans hct
  by_cases hlt:m<k.tubes.length
  ·have hlt':(m:Int)<(k.tubes.length:Int):=by omega
   obtain ⟨g,rfl,hn,hcap,hgl,_,t1,_⟩:=HB.out.tube (m:=m) hlt
   have t1r:=(hbel.cell (p:=⟨g,m*11+1,none⟩) hgl).trans t1
   have hml:m<(markTo k.tubes donor m).length:=by rw [markTo_len _ _ _ hmle];exact hlt
   obtain ⟨hcm,hfz⟩:=hO.at hml
   have HOs:=hid (hO.set (g:=w.heap.size) rfl hml (k.tubes[m] 1 == donor))
   rw [markTo_set _ _ _ hlt] at HOs
   clear t1
   generalize k.tubes[m] 1=q at *
   go_wp2
   go_roundg (k.tubes.length - (m+1))
   case measure=>have:=HM.out;omega
   case rel=>exact ⟨m+1,by have:=HM.out;omega,by go_num,HOs.out,hbel.setCell (by simp) _⟩
  ·have hme:m=k.tubes.length:=by omega
   have hO1:Marks wr (.slice (some ⟨w.heap.size,0,none⟩) k.tubes.length k.tubes.length) (markD k.tubes donor):=by
    rw [<- markTo_all];rw [hme] at hO;exact hO
   have HBr:=hid (HB.out.keeps (S:=fun g=>w.heap.size<=g) ⟨hbel.os,hbel.tape,hbel.output,hbel.size,fun k hk _=>hbel.block k hk⟩ (fun g hg h2=>by have:=HB.out.own_lt hg;omega))
   have hlD:(markD k.tubes donor).length=k.tubes.length:=by simp [markD]
   clear hme hO
   go_wp2_with (go_at_call 141;refine (reach_any b _ _ _ k _ true _ HBr.out hO1 hlD HW.out).mono ?_;rintro e w1 ⟨vb,rfl,hR,hb1,hfr⟩)
   have hzr:=hbel.size
   have hBe:Below w.heap.size w w1:=hbel.trans (hb1.mono hzr)
   have hO2:=hO1.below hb1
   have hK1:BkAt w1 b (.slice oa k.tubes.length cap) vp (k.withTubes (hitTo endT (hitD k donor) k.tubes 0)):=by rw [hitTo_zero];exact HBr.out.below hb1
   have HFr:=hid (fun g hg=>Nat.le_trans hzr (hfr g hg))
   have HBf0:=hid hR.form
   clear hO1 HBr hbel hctr hb1 hfr hzr hmle hlt hR
   obtain ⟨ob,cb,rfl,hbf⟩:=HBf0.out
   have HBf:=hid hbf
   have hsz1:=hO2.lt w.heap.size rfl
   have hmD:∀ m (h:m<k.tubes.length),m<(markD k.tubes donor).length:=fun m h=>by rw [hlD];exact h
   have hmR:∀ m (h:m<k.tubes.length),m<(reachL k (markD k.tubes donor) true).length:=fun m h=>by rw [reachL_len];exact h
   have HmD:=hid hmD
   have HmR:=hid hmR
   have HO2:=hid hO2
   have HHd:=hid (fun m (h:m<k.tubes.length)=>hitD_at k donor (HmD.out m h) (HmR.out m h))
   have HN:=hid (show (wdN k donor:Int)=(cntTo (hitD k donor) k.tubes k.tubes.length:Nat) from rfl)
   have HW2:=hid (show wdB k donor=k.withTubes (hitTo endT (hitD k donor) k.tubes k.tubes.length) from rfl)
   rw [reachL_len] at HFr ⊢
   clear hbf hmD hmR hO2 hlD HBf0
   go_wp2_with fail
   go_loopg [8,9] k.tubes.length (fun gk nv iv wr=>∃ m:Nat,m+gk=k.tubes.length/\nv=.int .i64 (cntTo (hitD k donor) k.tubes m:Nat)/\iv=.int .i64 m/\BkAt wr b (.slice oa k.tubes.length cap) vp (k.withTubes (hitTo endT (hitD k donor) k.tubes m))/\Keeps (fun g=>(Value.slice oa k.tubes.length cap).ownBlock=some g) w1 wr)
   case atStart=>exact ⟨0,by omega,rfl,rfl,hK1,Keeps.refl _ _⟩
   case round =>
    clear hK1
    obtain ⟨m,hm',rfl,rfl,hK,hkp⟩:=hrel
    have HM:=hid hm'
    have hmle:m<=k.tubes.length:=by omega
    clear hm'
    have hctr:=hK.ct
    by_cases hlt:m<k.tubes.length
    ·have hlt':(m:Int)<(k.tubes.length:Int):=by omega
     have hlm:m<(hitTo endT (hitD k donor) k.tubes m).length:=by rw [hitTo_len];exact hlt
     have hcle:=cntTo_le (hitD k donor) k.tubes m
     have HCS:=hid (cntTo_step (hitD k donor) k.tubes m hlt)
     obtain ⟨g,rfl,hn,hcap,hgl,_,_,_,t3,_,t5,t6,_,t8,t9,t10,hfz⟩:=hK.tube (m:=m) hlm
     have hat:(k.withTubes (hitTo endT (hitD k donor) k.tubes m)).tubes[m]=k.tubes[m]:=hitTo_at _ _ _ m hlt
     rw [hat] at t3 t5 t6
     clear hn
     have hgw:g<w.heap.size:=HB.out.own_lt (.inr (.inl rfl))
     have hmcr:=(hkp.cell (p:=⟨w.heap.size,m,none⟩) hsz1.2 (fun e=>by have e':g=w.heap.size:=Option.some.inj e;omega)).trans (HO2.out.at (HmD.out m hlt)).1
     obtain ⟨gb,rfl,hbc,_,hgbl,hbcell,_⟩:=HBf.out m (HmR.out m hlt)
     rw [reachL_len] at hbc
     have hgbw:w.heap.size<=gb:=HFr.out gb rfl
     have hbr:=(hkp.cell (p:=⟨gb,m,none⟩) hgbl (fun e=>by have e':g=gb:=Option.some.inj e;omega)).trans hbcell
     have b3:=HSm.out k.tubes[m] (List.getElem_mem hlt) 3
     have b5:=HSm.out k.tubes[m] (List.getElem_mem hlt) 5
     have HH:=hid (HHd.out m hlt)
     have HST:=hid (fun i n=>setT_hitTo endT (hitD k donor) k.tubes m hlt i n)
     have HSe:=hid (hitTo_set endT (hitD k donor) k.tubes m hlt)
     have HSa:=hid (hitTo_same endT (hitD k donor) k.tubes m hlt)
     have hg:(Value.slice (some ⟨g,0,none⟩) k.tubes.length cap).ownBlock=some g:=rfl
     have hgb:¬ g=b:=fun e=>hK.nt (by rw [<- e];rfl)
     have hbg:¬ b=g:=fun e=>hgb e.symm
     clear hat hbcell
     generalize (markD k.tubes donor)[m]'(HmD.out m hlt)=x1 at *
     generalize (reachL k (markD k.tubes donor) true)[m]'(HmR.out m hlt)=x2 at *
     by_cases hst:k.tubes[m] 6=3
     ·have R1:Hid (BkAt wr b (.slice (some ⟨g,0,none⟩) k.tubes.length cap) vp (k.withTubes (hitTo endT (hitD k donor) k.tubes (m+1)))):=by
       rw [<- HSa.out (fun _=>by unfold endT;rw [if_pos hst])];exact hK
      have R2:Hid (cntTo (hitD k donor) k.tubes (m+1)=cntTo (hitD k donor) k.tubes m):=by
       rw [HCS.out,if_neg (fun h=>h.2 hst)];exact hid rfl
      rw [hst] at t6
      clear HST HSe HSa HCS HH hst
      generalize cntTo (hitD k donor) k.tubes m=cc at *
      generalize k.tubes[m]=t at *
      rcases x1.eq_false_or_eq_true with rfl | rfl <;> rcases x2.eq_false_or_eq_true with rfl | rfl
      all_goals
       go_wp2
       go_roundg (k.tubes.length - (m+1))
       case measure=>have:=HM.out;omega
       case rel=>exact ⟨m+1,by have:=HM.out;omega,by rw [R2.out],by go_num,R1.out,hkp⟩
     ·have hst':(k.tubes[m] 6 != 3)=true:=by rw [bne_iff_ne];exact hst
      rcases (fire_ways x1 x2) with ⟨rfl,rfl⟩ | hx
      ·have R1:Hid (BkAt wr b (.slice (some ⟨g,0,none⟩) k.tubes.length cap) vp (k.withTubes (hitTo endT (hitD k donor) k.tubes (m+1)))):=by
        rw [<- HSa.out (fun h=>by rw [HH.out] at h;cases h)];exact hK
       have R2:Hid (cntTo (hitD k donor) k.tubes (m+1)=cntTo (hitD k donor) k.tubes m):=by
        rw [HCS.out,if_neg (fun h=>by rw [HH.out] at h;cases h.1)];exact hid rfl
       clear HST HSe HSa HCS HH hst
       generalize cntTo (hitD k donor) k.tubes m=cc at *
       generalize k.tubes[m]=t at *
       go_wp2
       go_roundg (k.tubes.length - (m+1))
       case measure=>have:=HM.out;omega
       case rel=>exact ⟨m+1,by have:=HM.out;omega,by rw [R2.out],by go_num,R1.out,hkp⟩
      ·have hhit:(hitD k donor).getD m false=true:=by rw [HH.out];rcases hx with rfl | ⟨rfl,rfl⟩ <;> rfl
       have R2:Hid (cntTo (hitD k donor) k.tubes (m+1)=cntTo (hitD k donor) k.tubes m+1):=by
        rw [HCS.out,if_pos ⟨hhit,hst⟩];exact hid rfl
       have e1:endT k.tubes[m]=upd (upd (upd (upd (upd (upd k.tubes[m] 6 3) 5 (k.tubes[m] 5+k.tubes[m] 3)) 3 0) 8 0) 9 0) 10 0:=by unfold endT;rw [if_neg hst]
       have r1:=hK.setTube hg (i:=m) (f:=6) hlm (by omega) 3
       have r2:=r1.setTube hg (i:=m) (f:=5) (by show m<(setT _ m 6 _).length;rw [setT_len];exact hlm) (by omega) (k.tubes[m] 5+k.tubes[m] 3)
       have r3:=r2.setTube hg (i:=m) (f:=3) (by show m<(setT (setT _ m 6 _) m 5 _).length;rw [setT_len,setT_len];exact hlm) (by omega) 0
       have hl3:m<(setT (setT (setT (hitTo endT (hitD k donor) k.tubes m) m 6 3) m 5 (k.tubes[m] 5+k.tubes[m] 3)) m 3 0).length:=by rw [setT_len,setT_len,setT_len];exact hlm
       have e2:goneT (setT (setT (setT (hitTo endT (hitD k donor) k.tubes m) m 6 3) m 5 (k.tubes[m] 5+k.tubes[m] 3)) m 3 0) m=hitTo endT (hitD k donor) k.tubes (m+1):=by
        unfold goneT
        rw [HST.out,setT_set _ m hlm,setT_set _ m hlm,setT_set _ m hlm,setT_set _ m hlm,setT_set _ m hlm,<- e1]
        exact HSe.out hhit
       have R3:=hid r3.drew
       have E2:=hid e2
       have HL3:=hid hl3
       clear HST HSe HSa HCS HH hst r1 r2 r3 e1 e2 hhit hl3
       have hkp3:=(((hkp.set1 hg (m*11+6) (.int .i64 3)).set1 hg (m*11+5) (.int .i64 (k.tubes[m] 5+k.tubes[m] 3))).set1 hg (m*11+3) (.int .i64 0))
       have HK3:=hid hkp3.drew
       clear hkp3
       generalize cntTo (hitD k donor) k.tubes m=cc at *
       generalize k.tubes[m]=t at *
       rcases hx with rfl | ⟨rfl,rfl⟩
       all_goals
        go_wp2_with fail
        go_region
        go_wp2_with (go_at_call 96;refine (gone_any b _ _ _ m HL3.out _ R3.out).mono ?_;rintro e w5 ⟨rfl,hK5,hkp5⟩)
        go_roundg (k.tubes.length - (m+1))
        case measure=>have:=HM.out;omega
        case rel=>exact ⟨m+1,by have:=HM.out;omega,by rw [R2.out];go_num,by go_num,by rw [<- E2.out];exact hK5,HK3.out.trans hkp5⟩
    ·have hme:m=k.tubes.length:=by omega
     have R1:Hid (BkAt wr b (.slice oa k.tubes.length cap) vp (wdB k donor)):=by rw [HW2.out];rw [hme] at hK;exact hK
     have R2:Hid ((wdN k donor:Int)=(cntTo (hitD k donor) k.tubes m:Nat)):=by rw [HN.out,hme];exact hid rfl
     clear hme
     generalize cntTo (hitD k donor) k.tubes m=cc at *
     go_wp2
     go_ret
     exact ⟨ret_int R2.out.symm,R1.out,((Keeps.refl _ w).below hBe nlr).trans hkp⟩
end
end Go.Proofs.YtalncjhldkcmaaaGreat
