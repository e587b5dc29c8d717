import Derived.Test.YtalncjhldkcmaaaGreatFb35
import Derived.Test.YtalncjhldkcmaaaGreatFb39
import Derived.Test.YtalncjhldkcmaaaGreatFb41
import Derived.Test.YtalncjhldkcmaaaGreatFb09
namespace Go.Proofs.YtalncjhldkcmaaaGreat
open _root_.Go.Proofs.Tryz
set_option maxHeartbeats 16000000
set_option maxRecDepth 8000
section
open Go.RowKit Go.Shelf
def Led.fOn (L:Led) (lim:Nat) (s:List UInt8):Bool:=decB s&&(decide (L.stepE lim (Cm.of (decC s))=0)&&decide ((Cm.of (decC s)).k<12))
def Led.fWr (L:Led) (lim:Nat) (d:Nat×Nat) (s:List UInt8):List WN:=if L.fOn lim s then keepW d.1 d.2 (L.fLed lim s).text else []
def Led.fDk (L:Led) (lim:Nat) (d:Nat×Nat) (s:List UInt8):Nat×Nat:=if L.fOn lim s then (d.1,nextT d.2) else d
def LDoEnds (l:Nat) (d:Nat×Nat) (L:Led) (lim:Nat) (s:List UInt8) (w:World) (e:Ending) (w':World):Prop :=
 ∃ v,e=.returned (.tuple #[.string ⟨(replyL (L.fErr lim s) (L.fNum lim s)).toArray⟩,v])/\WrV w.heap.size w' v (L.fWr lim d s)/\LedgerAt w' l (L.fDk lim d s) (L.fLed lim s) lim/\Keeps (fun k=>k=l) w w'
theorem WrV.mono {B B':Nat} {w:World} {v:Value} {ws:List WN} (h:WrV B w v ws) (hb:B'<=B):WrV B' w v ws :=
 h.imp id fun ⟨g,cap,hv,hB,r⟩=>⟨g,cap,hv,Nat.le_trans hb hB,r⟩
theorem do_any (l:Nat) (d:Nat×Nat) (L:Led) (lim:Nat) (s:ByteArray) (hs:s.size<=maxLen) (w:World) (hA:LedgerAt w l d L lim) (hI:L.Inv) (hd:16<=d.1/\d.1<=256) :
  Calls prog 28 #[.pointer (some ⟨l,0,none⟩),.string s] w (LDoEnds l d L lim s.data.toList w):=by
 have HDe:=hid (decode_any s w hs)
 have hfew:L.kvs.length<7000:=by have:=hA.few;have:=hA.lim;omega
 have hll:=hA.lt
 cases hb:decB s.data.toList with
 | false =>
  have hde:decC s.data.toList=zero9/\decE s.data.toList=1:=by simp [decC,decE,hb]
  rw [hde.1,hde.2] at HDe
  simp only [zero9] at HDe
  have HE:=hid (show L.fErr lim s.data.toList=1/\L.fNum lim s.data.toList=[]/\L.fLed lim s.data.toList=L/\L.fOn lim s.data.toList=false by simp [Led.fErr,Led.fNum,Led.fLed,Led.fOn,hb])
  have HR:=hid (fun u=>wreply_any 1 (.slice none 0 0) [] u (by omega) (.inr ⟨rfl,rfl⟩) (by simp) (fun z hz=>by cases hz))
  clear hd hb hde
  go_enter func28,ntmps28
  go_wp2_with (first
   | (go_at_call 41;refine HDe.out.mono ?_;clear HDe;rintro e w1 ⟨rfl,hb1⟩)
   | (go_at_call 42;refine (HR.out _).mono ?_;clear HR;rintro e w2 ⟨rfl,hb2⟩))
  go_ret2
  have hba:Below w1.heap.size w1 (w1.alloc (.cells #[.int .i64 0,.int .i64 0,.int .i64 0,.int .i64 0,.int .i64 0,.int .i64 0,.int .i64 0,.int .i64 0,.int .i64 0] 31)):=bal
  have hB1:=hb1.trans (hba.mono hb1.size)
  have hB2:=hB1.trans (hb2.mono hB1.size)
  unfold LDoEnds Led.fWr Led.fDk
  rw [HE.out.1,HE.out.2.1,HE.out.2.2.1,HE.out.2.2.2]
  exact ⟨_,rfl,.inl ⟨rfl,rfl⟩,hA.below hB2,below_toKeeps hB2 _⟩
 | true =>
  have hen:=(dec_enc _ hb).1
  have hde:decE s.data.toList=0:=by simp [decE,hb]
  have hmo:=Cm.of_ok hen
  rw [hde,Cm.of_val hen] at HDe
  have HE:=hid (show L.fErr lim s.data.toList=L.stepE lim (Cm.of (decC s.data.toList))/\L.fNum lim s.data.toList=L.stepN lim (Cm.of (decC s.data.toList))/\L.fLed lim s.data.toList=L.stepL lim (Cm.of (decC s.data.toList))/\L.fOn lim s.data.toList=(decide (L.stepE lim (Cm.of (decC s.data.toList))=0)&&decide ((Cm.of (decC s.data.toList)).k<12)) by simp [Led.fErr,Led.fNum,Led.fLed,Led.fOn,hb])
  generalize Cm.of (decC s.data.toList)=m at *
  have HDo:=hid (fun u (hu:LedgerAt u l d L lim)=>booksDo_any l d L lim m hmo u hu (fun he=>Led.can_of hI hmo he))
  have hr1:=Led.stepE_range L lim m
  have HR:=hid (fun u v (hu:IntsIn u v (L.stepN lim m))=>wreply_any (L.stepE lim m).toNat v (L.stepN lim m) u (by omega) hu (Led.stepN_len hfew lim) (fun z hz=>by have:=Led.stepN_range hI hfew lim z hz;omega))
  have hee:((L.stepE lim m).toNat:Int)=L.stepE lim m:=by omega
  rw [hee] at HR
  have HA:=hid hA
  clear hA hen hb hde
  unfold Cm.val at *
  go_enter func28,ntmps28
  go_wp2_with (go_at_call 41;refine HDe.out.mono ?_;clear HDe;rintro e w1 ⟨rfl,hb1⟩)
  have hba:Below w1.heap.size w1 (w1.alloc (.cells #[.int .i64 m.k,.int .i64 m.t,.int .i64 m.o,.int .i64 m.d,.int .i64 m.v,.int .i64 m.b,.int .i64 m.x,.int .i64 m.y,.int .i64 m.n] 31)):=bal
  have hC:=Cm.has_new w1 31 m
  have hsC:(w1.alloc (.cells #[.int .i64 m.k,.int .i64 m.t,.int .i64 m.o,.int .i64 m.d,.int .i64 m.v,.int .i64 m.b,.int .i64 m.x,.int .i64 m.y,.int .i64 m.n] 31)).heap.size=w1.heap.size+1:=by simp
  have hB1:=hb1.trans (hba.mono hb1.size)
  have hA1:=HA.out.below hB1
  have hs1:=hb1.size
  generalize w1.alloc (.cells #[.int .i64 m.k,.int .i64 m.t,.int .i64 m.o,.int .i64 m.d,.int .i64 m.v,.int .i64 m.b,.int .i64 m.x,.int .i64 m.y,.int .i64 m.n] 31)=w2 at *
  obtain ⟨c0,c1,c2,c3,c4,c5,c6,c7,c8⟩:=all9.1 hC.1
  simp only [Cm.ints] at c0 c1 c2 c3 c4 c5 c6 c7 c8
  have hA1':=hA1.below ((Below.refl _ _).drew)
  have hne:w1.heap.size≠l:=by omega
  have hlt:w1.heap.size<w2.heap.size:=by omega
  have HsC:=hid hsC
  clear hba hC hb1 HA hA1 hsC
  go_region_held3 (fun u=>u.cell? ⟨w1.heap.size,0,none⟩=some (.int .i64 m.k)/\u.cell? ⟨w1.heap.size,1,none⟩=some (.int .i64 m.t)/\u.cell? ⟨w1.heap.size,2,none⟩=some (.int .i64 m.o)/\u.cell? ⟨w1.heap.size,3,none⟩=some (.int .i64 m.d)/\u.cell? ⟨w1.heap.size,4,none⟩=some (.int .i64 m.v)/\u.cell? ⟨w1.heap.size,5,none⟩=some (.int .i64 m.b)/\u.cell? ⟨w1.heap.size,6,none⟩=some (.int .i64 m.x)/\u.cell? ⟨w1.heap.size,7,none⟩=some (.int .i64 m.y)/\u.cell? ⟨w1.heap.size,8,none⟩=some (.int .i64 m.n)) (go_keep) (first
   | (go_at_call 43;refine (HDo.out _ hA1').mono ?_;rintro e w3 ⟨v,rfl,hi3,hA3,hk3⟩;have c0:=(hk3.cell (p:=⟨w1.heap.size,0,none⟩) hlt hne).trans c0;have c1:=(hk3.cell (p:=⟨w1.heap.size,1,none⟩) hlt hne).trans c1;have c2:=(hk3.cell (p:=⟨w1.heap.size,2,none⟩) hlt hne).trans c2;have c3:=(hk3.cell (p:=⟨w1.heap.size,3,none⟩) hlt hne).trans c3;have c4:=(hk3.cell (p:=⟨w1.heap.size,4,none⟩) hlt hne).trans c4;have c5:=(hk3.cell (p:=⟨w1.heap.size,5,none⟩) hlt hne).trans c5;have c6:=(hk3.cell (p:=⟨w1.heap.size,6,none⟩) hlt hne).trans c6;have c7:=(hk3.cell (p:=⟨w1.heap.size,7,none⟩) hlt hne).trans c7;have c8:=(hk3.cell (p:=⟨w1.heap.size,8,none⟩) hlt hne).trans c8;have HI3:=hid hi3;have HA3:=hid hA3;have HK3:=hid hk3;clear hi3 hA3 hk3))
  all_goals
   have HR3:=hid (HR.out w3 _ HI3.out)
   have hlt3:w1.heap.size<w3.heap.size:=Nat.lt_of_lt_of_le hlt HK3.out.size
   have HK:=hid ((below_toKeeps hB1 (fun k=>k=l)).drew.trans HK3.out)
   obtain ⟨he1,he2,he3,he4⟩:=HE.out
   have HOn1:=hid (show L.stepE lim m=0->m.k<12->L.fOn lim s.data.toList=true from fun a b=>by rw [he4];simp [a,b])
   have HOn2:=hid (show ¬ (L.stepE lim m=0/\m.k<12)->L.fOn lim s.data.toList=false from fun h=>by
    rw [he4]
    rcases Classical.em (L.stepE lim m=0) with a | a
    ·have:¬ m.k<12:=fun b=>h ⟨a,b⟩
     simp [this]
    ·simp [a])
   have HE3:=hid (And.intro he1 (And.intro he2 he3))
   clear he1 he2 he3 he4
   clear HE
   generalize L.stepE lim m=er at *
   clear HR HDo HK3 hA1' HsC hee
   generalize L.stepL lim m=L' at *
   by_cases hon:er=0/\m.k<12
   ·obtain ⟨rfl,hk12⟩:=hon
    have hki:¬ (12:Int)<=(m.k:Int):=by omega
    go_wp2_with (go_at_call 42;refine HR3.out.mono ?_;clear HR3;rintro e w4 ⟨rfl,hb4⟩;have c0:=(hb4.cell (p:=⟨w1.heap.size,0,none⟩) hlt3).trans c0)
    go_wp2_with fail
    have hA4:=HA3.out.below hb4
    have HK4:=hid (HK.out.trans (below_toKeeps hb4 (fun k=>k=l)))
    obtain ⟨⟨r,n₀,hBx,hTr⟩,hok,hfw,hlm⟩:=hA4
    have hlen:L'.text.length<=30000:=by have:=Led.text_le hok.fit;omega
    have hsz:(⟨L'.text.toArray⟩:ByteArray).size<=30000:=by show L'.text.toArray.size<=30000;simpa using hlen
    have HTx:=hid (fun u (hu:Below w4.heap.size w4 u)=>text_led n₀ l d r L' lim hok.fit (by omega) u ((hu.block l hBx.lt).trans hBx) (hTr.below (hu.mono hTr.2.1)))
    have HKp:=hid (fun u (hu:Below w4.heap.size w4 u)=>keep_any l d r L'.kvs.length lim ⟨L'.text.toArray⟩ hd.1 hd.2 hsz u ((hu.block l hBx.lt).trans hBx))
    have HX:=hid (And.intro hBx (And.intro hTr (And.intro hok (And.intro hfw hlm))))
    have hd4:Below w4.heap.size w4 w4.drew:=(Below.refl _ _).drew
    clear HK HI3 HA3 hBx hTr hok hfw hlm hlen hsz hb4 c0 c1 c2 c3 c4 c5 c6 c7 c8 hlt hne hlt3 hB1 hs1 hr1 hfew
    go_region_held3 (fun u=>True) (trivial) (first
     | (go_at_call 45;refine (HTx.out _ hd4).mono ?_;rintro e w5 ⟨rfl,hb5⟩;have hB5:=hd4.trans hb5)
     | (go_at_call 44;refine (HKp.out _ hB5).mono ?_;rintro e w6 ⟨v6,rfl,hV6,hL6,hk6⟩))
    have HE:=hid (show WrV w.heap.size w6 v6 (keepW d.1 d.2 L'.text)/\LedgerAt w6 l (d.1,nextT d.2) L' lim/\Keeps (fun k=>k=l) w w6 from by
     obtain ⟨hBx,hTr,hok,hfw,hlm⟩:=HX.out
     have hs4:=HK4.out.size
     have hT5:=hTr.below (hB5.mono hTr.2.1)
     have hL5:LedBox w5 l d r L'.kvs.length lim:=(hB5.block l hBx.lt).trans hBx
     have hnn:NoNodeT w5 l:=⟨fun a n c e=>absurd e (hL5.noNode.1 _ _ _),hL5.noNode.2⟩
     refine ⟨hV6.mono (by have:=hB5.size;omega),⟨⟨r,n₀,hL6,hT5.keptT (X:=fun k=>k=l) hk6.size (fun g o u hg hc => ?_) (fun g hg=>by rw [hg];exact hnn)⟩,hok,hfw,hlm⟩,(HK4.out.trans (below_toKeeps hB5 _)).trans hk6⟩
     rw [hk6.cell (p:=⟨g,o,none⟩) (World.block_lt_of_cell? w5 ⟨g,o,none⟩ hc) hg]
     exact hc)
    clear hV6 hL6 hk6 hb5 hB5 HX HTx HKp HK4 hd4
    go_wp2
    go_ret2
    unfold LDoEnds Led.fWr Led.fDk
    rw [HOn1.out trivial hk12,HE3.out.1,HE3.out.2.1,HE3.out.2.2]
    exact ⟨v6,rfl,HE.out.1,HE.out.2.1,HE.out.2.2⟩
   ·have HIf:=hid (HOn2.out hon)
    by_cases he0:er=0
    ·have hki:(12:Int)<=(m.k:Int):=by have:¬ m.k<12:=fun h=>hon ⟨he0,h⟩;omega
     subst he0
     clear hon
     go_wp2_with (go_at_call 42;refine HR3.out.mono ?_;clear HR3;rintro e w4 ⟨rfl,hb4⟩;have c0:=(hb4.cell (p:=⟨w1.heap.size,0,none⟩) hlt3).trans c0)
     go_ret2
     unfold LDoEnds Led.fWr Led.fDk
     rw [HIf.out,HE3.out.1,HE3.out.2.1,HE3.out.2.2]
     exact ⟨_,rfl,.inl ⟨rfl,rfl⟩,HA3.out.below hb4,HK.out.trans (below_toKeeps hb4 _)⟩
    ·clear hon
     go_wp2_with (go_at_call 42;refine HR3.out.mono ?_;clear HR3;rintro e w4 ⟨rfl,hb4⟩;have c0:=(hb4.cell (p:=⟨w1.heap.size,0,none⟩) hlt3).trans c0)
     go_ret2
     unfold LDoEnds Led.fWr Led.fDk
     rw [HIf.out,HE3.out.1,HE3.out.2.1,HE3.out.2.2]
     exact ⟨_,rfl,.inl ⟨rfl,rfl⟩,HA3.out.below hb4,HK.out.trans (below_toKeeps hb4 _)⟩
end
end Go.Proofs.YtalncjhldkcmaaaGreat
