import Derived.Test.YtalncjhldkcmaaaGreatFb47
import Derived.Test.YtalncjhldkcmaaaGreatFb46
import Derived.Test.YtalncjhldkcmaaaGreatFb14
import Derived.Test.YtalncjhldkcmaaaGreatFb35
namespace Go.Proofs.YtalncjhldkcmaaaGreat
open _root_.Go.Proofs.Tryz
set_option maxHeartbeats 16000000
set_option maxRecDepth 8000
section
open Go.RowKit Go.Shelf
theorem ask_steps {L:Led} {m:Cm} {lim:Nat} (hk:12<=m.k) (hf:L.kvs.length<=lim):L.stepL lim m=L/\L.stepE lim m=L.err m/\L.stepN lim m=if L.err m=0 then L.tell m else []:=by
 have ha:=act_ask (L:=L) hk
 refine ⟨?_,?_,?_⟩
 ·unfold Led.stepL;rw [ha,ite_self]
 ·unfold Led.stepE
  rw [ha]
  by_cases he:L.err m=0
  ·rw [if_pos he,if_pos hf,he]
  ·rw [if_neg he]
 ·unfold Led.stepN
  rw [ha]
  by_cases he:L.err m=0
  ·rw [if_pos ⟨he,hf⟩,if_pos he]
  ·rw [if_neg (fun h=>he h.1),if_neg he]
theorem ask_do (l:Nat) (d:Nat×Nat) (L:Led) (lim:Nat) (m:Cm) (hm:encB m.ints=true) (hk:12<=m.k) (hI:L.Inv) (hd:16<=d.1/\d.1<=256) (w:World) (hA:LedgerAt w l d L lim) :
  Calls prog 28 #[.pointer (some ⟨l,0,none⟩),.string ⟨(encS m.ints).toArray⟩] w fun e w'=>e=.returned (.tuple #[.string ⟨(replyL (L.err m) (if L.err m=0 then L.tell m else [])).toArray⟩,.slice none 0 0])/\LedgerAt w' l d L lim/\Keeps (fun k=>k=l) w w':=by
 obtain ⟨hb1,hb2⟩:=Cm.back hm
 have hEs:(⟨(encS m.ints).toArray⟩:ByteArray).size<=maxLen:=by
  show (encS m.ints).toArray.size<=maxLen
  have:=(enc_len m.ints hm).2
  simp only [List.size_toArray];unfold maxLen;omega
 obtain ⟨s1,s2,s3⟩:=ask_steps (m:=m) hk hA.few
 have e0:L.fOn lim (encS m.ints)=false:=by simp only [Led.fOn,hb1,hb2,Bool.true_and,Bool.and_eq_false_iff,decide_eq_false_iff_not];exact .inr (by omega)
 have e1:L.fErr lim (encS m.ints)=L.err m/\L.fNum lim (encS m.ints)=(if L.err m=0 then L.tell m else [])/\L.fLed lim (encS m.ints)=L:=by
  refine ⟨?_,?_,?_⟩
  ·rw [<- s2];simp [Led.fErr,hb1,hb2]
  ·rw [<- s3];simp [Led.fNum,hb1,hb2]
  ·rw [<- s1];simp [Led.fLed,hb1,hb2,s1]
 refine (do_any l d L lim ⟨(encS m.ints).toArray⟩ hEs w hA hI hd).mono ?_
 rintro e w' ⟨v,rfl,hV,hL,hk⟩
 rw [show (⟨(encS m.ints).toArray⟩:ByteArray).data.toList=encS m.ints from rfl] at hV hL ⊢
 rw [e1.1,e1.2.1]
 rw [e1.2.2] at hL
 unfold Led.fWr at hV
 unfold Led.fDk at hL
 rw [e0] at hV hL
 obtain ⟨oa,cap,rfl,hn⟩:=hV.form
 rw [hn (by simp)]
 exact ⟨rfl,hL,hk⟩
structure TL (w:World) (l:Nat) (d:Nat×Nat) (b lim cb:Nat) (L:Led) (vt vp:Value) (k:Bk) (m:Cm) (wr:World):Prop where
 led:LedgerAt wr l d L lim
 bk:BkF 0 wr b vt vp L k
 kp:Keeps (fun g=>g=l) w wr
 has:Has wr cb m.ints
 lt:cb<wr.heap.size
 ne:¬ cb=l
theorem TL.below {w wr w':World} {l:Nat} {d:Nat×Nat} {b lim cb:Nat} {L:Led} {vt vp:Value} {k:Bk} {m:Cm} (h:TL w l d b lim cb L vt vp k m wr) (hb:Below wr.heap.size wr w'):TL w l d b lim cb L vt vp k m w' :=
 ⟨h.led.below hb,h.bk.below hb,h.kp.trans (below_toKeeps hb _),h.has.below hb h.lt,Nat.lt_of_lt_of_le h.lt hb.size,h.ne⟩
theorem TL.done {w wr w':World} {l:Nat} {d:Nat×Nat} {b lim cb:Nat} {L:Led} {vt vp:Value} {k:Bk} {m:Cm} (h:TL w l d b lim cb L vt vp k m wr) (hl:LedgerAt w' l d L lim) (hk:Keeps (fun g=>g=l) wr w'):TL w l d b lim cb L vt vp k m w':=by
 exact ⟨hl,h.bk.keepsN (S:=fun g=>g=l) (fun x hx=>by rw [hx];exact h.led.noBk) hk,h.kp.trans hk,has_keeps h.has hk h.lt h.ne,Nat.lt_of_lt_of_le h.lt hk.size,h.ne⟩
theorem tells_any (l:Nat) (d:Nat×Nat) (b lim:Nat) (L:Led) (vt vp:Value) (k:Bk) (m:Cm) (hm:encB m.ints=true) (hk:12<=m.k) (w:World) (hA:LedgerAt w l d L lim) (hI:L.Inv) (hd:16<=d.1/\d.1<=256) (hF:BkF 0 w b vt vp L k) :
  Calls prog 39 #[.pointer (some ⟨l,0,none⟩),.pointer (some ⟨b,0,none⟩),m.val] w fun e w'=>e=.returned (.bool true)/\LedgerAt w' l d L lim/\BkF 0 w' b vt vp L k/\Keeps (fun g=>g=l) w w':=by
 have hmo:m.Ok:=by have:=Cm.of_ok hm;have e:Cm.of m.ints=m:=rfl;rwa [e] at this
 have hfew:L.kvs.length<7000:=by have:=hA.few;have:=hA.lim;omega
 have HEn:=hid (fun u=>refEncode_any m.ints u)
 simp only [Cm.ints] at HEn
 have HDo:=hid (fun u (hu:LedgerAt u l d L lim)=>ask_do l d L lim m hm hk hI hd u hu)
 have HEr:=hid (fun u (hu:BkF 0 u b vt vp L k)=>berr_any ⟨vt,vp,k,hu⟩ hI hmo)
 have HQ:=hid (fun u (hu:BkF 0 u b vt vp L k) (he:L.err m=0)=>bask_any hu hI hmo hk he)
 have hC0:=Cm.has_new w 31 m
 have hb0:=Cm.hb w m
 have hlt0:=has_new_lt w m
 have hll:=hA.lt
 have H0:=hid (show TL w l d b lim w.heap.size L vt vp k m _ from ⟨hA.below hb0,hF.below hb0,below_toKeeps hb0 _,hC0,hlt0,by omega⟩)
 have HI:=hid (And.intro hI hfew)
 generalize (⟨(encS m.ints).toArray⟩:ByteArray)=fr at *
 unfold Cm.val at *
 clear hA hF hb0 hI hfew hm hd
 obtain ⟨c0,c1,c2,c3,c4,c5,c6,c7,c8⟩:=all9.1 hC0.1
 simp only [Cm.ints] at c0 c1 c2 c3 c4 c5 c6 c7 c8
 clear hC0 hlt0
 by_cases he:L.err m=0
 ·rw [if_pos he] at HDo
  go_enter func39,ntmps39
  go_wp2_with fail
  refine (HEn.out _).mono ?_
  clear HEn
  rintro e w1 ⟨rfl,hb1⟩
  have H1:=hid (H0.out.below hb1)
  clear H0 hb1 c0 c1 c2 c3 c4 c5 c6 c7 c8
  obtain ⟨c0,c1,c2,c3,c4,c5,c6,c7,c8⟩:=all9.1 H1.out.has.1
  simp only [Cm.ints] at c0 c1 c2 c3 c4 c5 c6 c7 c8
  generalize w.heap.size=cb at *
  go_wp2_with fail
  refine (HDo.out _ H1.out.led).mono ?_
  clear HDo
  rintro e w2 ⟨rfl,hL2,hk2⟩
  have H2:=hid (H1.out.done hL2 hk2)
  clear H1 hL2 hk2 c0 c1 c2 c3 c4 c5 c6 c7 c8
  obtain ⟨c0,c1,c2,c3,c4,c5,c6,c7,c8⟩:=all9.1 H2.out.has.1
  simp only [Cm.ints] at c0 c1 c2 c3 c4 c5 c6 c7 c8
  go_wp2_with fail
  refine (HEr.out _ H2.out.bk).mono ?_
  clear HEr
  rintro e w3 ⟨rfl,hb3⟩
  have H3:=hid (H2.out.below hb3)
  clear H2 hb3 c0 c1 c2 c3 c4 c5 c6 c7 c8
  obtain ⟨c0,c1,c2,c3,c4,c5,c6,c7,c8⟩:=all9.1 H3.out.has.1
  simp only [Cm.ints] at c0 c1 c2 c3 c4 c5 c6 c7 c8
  obtain ⟨hI,hfew⟩:=HI.out
  clear HI
  have HQ3:=hid (HQ.out _ H3.out.bk he)
  have HTr:=hid (And.intro (Led.tell_len (m:=m) hfew) (Led.tell_range (m:=m) hI hfew))
  rw [he]
  clear HQ hI hfew he
  go_wp2_with fail
  refine HQ3.out.mono ?_
  clear HQ3
  rintro e w4 ⟨v4,rfl,hi4,hb4⟩
  have H4:=hid (H3.out.below hb4)
  have HR:=hid (reply_any 0 v4 (L.tell m) w4 (by omega) hi4 HTr.out.1 (fun z hz=>by have:=HTr.out.2 z hz;omega))
  clear H3 hi4 hb4 HTr c0 c1 c2 c3 c4 c5 c6 c7 c8
  go_wp2_with fail
  refine HR.out.mono ?_
  clear HR
  rintro e w5 ⟨rfl,hb5⟩
  have H5:=hid (H4.out.below hb5)
  clear H4 hb5
  go_wp2
  go_ret
  exact ⟨rfl,H5.out.led,H5.out.bk,H5.out.kp⟩
 ·rw [if_neg he] at HDo
  go_enter func39,ntmps39
  go_wp2_with fail
  refine (HEn.out _).mono ?_
  clear HEn
  rintro e w1 ⟨rfl,hb1⟩
  have H1:=hid (H0.out.below hb1)
  clear H0 hb1 c0 c1 c2 c3 c4 c5 c6 c7 c8
  obtain ⟨c0,c1,c2,c3,c4,c5,c6,c7,c8⟩:=all9.1 H1.out.has.1
  simp only [Cm.ints] at c0 c1 c2 c3 c4 c5 c6 c7 c8
  generalize w.heap.size=cb at *
  go_wp2_with fail
  refine (HDo.out _ H1.out.led).mono ?_
  clear HDo
  rintro e w2 ⟨rfl,hL2,hk2⟩
  have H2:=hid (H1.out.done hL2 hk2)
  clear H1 hL2 hk2 c0 c1 c2 c3 c4 c5 c6 c7 c8
  obtain ⟨c0,c1,c2,c3,c4,c5,c6,c7,c8⟩:=all9.1 H2.out.has.1
  simp only [Cm.ints] at c0 c1 c2 c3 c4 c5 c6 c7 c8
  go_wp2_with fail
  refine (HEr.out _ H2.out.bk).mono ?_
  clear HEr
  rintro e w3 ⟨rfl,hb3⟩
  have H3:=hid (H2.out.below hb3)
  clear H2 hb3 c0 c1 c2 c3 c4 c5 c6 c7 c8
  obtain ⟨c0,c1,c2,c3,c4,c5,c6,c7,c8⟩:=all9.1 H3.out.has.1
  simp only [Cm.ints] at c0 c1 c2 c3 c4 c5 c6 c7 c8
  obtain ⟨hI,hfew⟩:=HI.out
  clear HI
  have her:=Led.err_range L m
  have HR:=hid (fun u=>reply_any (L.err m).toNat (.slice none 0 0) [] u (by omega) (.inr ⟨rfl,rfl⟩) (by simp) (fun z hz=>by cases hz))
  have hee:((L.err m).toNat:Int)=L.err m:=by omega
  rw [hee] at HR
  have h0:(L.err m == 0)=false:=beq_eq_false_iff_ne.2 he
  clear HQ hI hfew hee he
  generalize L.err m=er at *
  go_wp2_with fail
  refine (HR.out _).mono ?_
  clear HR
  rintro e w5 ⟨rfl,hb5⟩
  have H5:=hid (H3.out.below hb5)
  clear H3 hb5 c0 c1 c2 c3 c4 c5 c6 c7 c8
  go_wp2
  go_ret
  exact ⟨rfl,H5.out.led,H5.out.bk,H5.out.kp⟩
end
section
open Go.RowKit Go.Shelf
theorem enc_cont {b:Nat} (h:1<=b/\b<=9):encB (Led.cmCont b).ints=true:=by
 refine enc_of (fs:=[4]) rfl (by simp only [Led.cmCont];omega) ?_ (all9.2 ⟨rfl,rfl,rfl,rfl,rfl,rfl,rfl,rfl,rfl⟩)
 simp [okAll,okB,lo,hi,off,Cm.ints,Led.cmCont];omega
theorem enc_of1 {d:Nat} (h:1<=d/\d<=99):encB (Led.cmOf d).ints=true:=by
 refine enc_of (fs:=[2]) rfl (by simp only [Led.cmOf];omega) ?_ (all9.2 ⟨rfl,rfl,rfl,rfl,rfl,rfl,rfl,rfl,rfl⟩)
 simp [okAll,okB,lo,hi,off,Cm.ints,Led.cmOf];omega
theorem enc_down {n:Nat} (h:1<=n/\n<=999):encB (Led.cmDown n).ints=true:=by
 refine enc_of (fs:=[0]) rfl (by simp only [Led.cmDown];omega) ?_ (all9.2 ⟨rfl,rfl,rfl,rfl,rfl,rfl,rfl,rfl,rfl⟩)
 simp [okAll,okB,lo,hi,off,Cm.ints,Led.cmDown];omega
theorem enc_up {n:Nat} (h:1<=n/\n<=999):encB (Led.cmUp n).ints=true:=by
 refine enc_of (fs:=[0]) rfl (by simp only [Led.cmUp];omega) ?_ (all9.2 ⟨rfl,rfl,rfl,rfl,rfl,rfl,rfl,rfl,rfl⟩)
 simp [okAll,okB,lo,hi,off,Cm.ints,Led.cmUp];omega
theorem enc_show {n:Nat} (h:1<=n/\n<=999):encB (cmShow n).ints=true:=by
 refine enc_of (fs:=[0]) rfl (by simp only [cmShow];omega) ?_ (all9.2 ⟨rfl,rfl,rfl,rfl,rfl,rfl,rfl,rfl,rfl⟩)
 simp [okAll,okB,lo,hi,off,Cm.ints,cmShow];omega
structure SA (w:World) (l:Nat) (d:Nat×Nat) (b lim:Nat) (L:Led) (vt vp:Value) (k:Bk) (wr:World):Prop where
 led:LedgerAt wr l d L lim
 bk:BkF 0 wr b vt vp L k
 kp:Keeps (fun g=>g=l) w wr
theorem lsame_any (l:Nat) (d:Nat×Nat) (b lim:Nat) (L:Led) (w:World) (hA:LedgerAt w l d L lim) (hI:L.Inv) (hd:16<=d.1/\d.1<=256) (hX:BkX 0 w b L) :
  Calls prog 26 #[.pointer (some ⟨l,0,none⟩),.pointer (some ⟨b,0,none⟩)] w fun e w'=>e=.returned (.bool true)/\LedgerAt w' l d L lim/\BkX 0 w' b L/\Keeps (fun g=>g=l) w w':=by
 obtain ⟨vt,vp,k,hF⟩:=hX
 obtain ⟨oa,cap,rfl,_⟩:=hF.bk.tubes.form
 have H0:=hid (show SA w l d b lim L _ vp k w from ⟨hA,hF,Keeps.refl _ _⟩)
 have HT:=hid (fun m hm hk u (hu:SA w l d b lim L (.slice oa k.tubes.length cap) vp k u)=>tells_any l d b lim L _ vp k m hm hk u hu.led hI hd hu.bk)
 have HI:=hid hI
 clear hA hF hI hd
 go_enter func26,ntmps26
 go_wp2_with fail
 go_loopw [5] (fun i wr=>∃ c:Nat,1<=c/\c<=10/\i=.int .i64 c/\SA w l d b lim L (.slice oa k.tubes.length cap) vp k wr) (fun i _=>10 - (intOf i).toNat)
 case atStart=>exact ⟨1,by omega,by omega,rfl,H0.out⟩
 case round =>
  clear H0
  obtain ⟨c,hc1,hc10,rfl,hS⟩:=hrel
  by_cases hc:c<=9
  ·have hci:(c:Int)<=9:=by omega
   have HC:=hid (HT.out (Led.cmCont c) (enc_cont ⟨hc1,hc⟩) (by show 12<=13;omega) _ hS)
   unfold Cm.val Led.cmCont at HC
   have HS:=hid hS
   clear hS
   go_wp2_with fail
   refine HC.out.mono ?_
   clear HC
   rintro e w2 ⟨rfl,h1,h2,h3⟩
   have HS2:=hid (show SA w l d b lim L (.slice oa k.tubes.length cap) vp k w2 from ⟨h1,h2,HS.out.kp.trans h3⟩)
   clear HS h1 h2 h3
   go_wp2_with fail
   exact ⟨⟨c+1,by omega,by omega,by go_num,HS2.out⟩,by simp [intOf];omega⟩
  ·have hci:¬ (c:Int)<=9:=by omega
   have HS:=hid hS
   have hfew:=hS.bk.bk.few.1
   clear hS
   go_wp2_with fail
   go_loopw [7] (fun i wr=>∃ j:Nat,j<=k.tubes.length/\i=.int .i64 j/\SA w l d b lim L (.slice oa k.tubes.length cap) vp k wr) (fun i _=>k.tubes.length - (intOf i).toNat)
   case atStart=>exact ⟨0,by omega,rfl,HS.out⟩
   case round =>
    clear HS
    obtain ⟨j,hj,rfl,hS⟩:=hrel
    have hct:=hS.bk.bk.ct
    by_cases hjl:j<k.tubes.length
    ·have hji:(j:Int)<(k.tubes.length:Int):=by omega
     obtain ⟨g,rfl,hn,hcap,hgl,t0,t1,_⟩:=hS.bk.bk.tube (m:=j) hjl
     have hjl':j<L.ts.length:=by have:=hS.bk.sim.tubes;rw [this,List.length_map] at hjl;exact hjl
     have e1:k.tubes[j]=tF L.ts[j]:=by have:=hS.bk.sim.at hjl';rwa [getD_T hjl] at this
     rw [e1] at t0 t1
     simp only [tF] at t0 t1
     have hg:=HI.out.ok.t1 _ (List.getElem_mem hjl')
     have hid1:1<=(L.ts[j]).1/\(L.ts[j]).1<=999:=⟨hg.1,hg.2.1⟩
     have hdn:=hg.2.2.donor
     have HG:=hid (And.intro hid1 hdn)
     have H1:=hid (HT.out (cmShow (L.ts[j]).1) (enc_show hid1) (by show 12<=12;omega) _ hS)
     unfold Cm.val cmShow at H1
     have HS:=hid hS
     have HE1:=hid (show k.tubes[j] 1=((L.ts[j]).2.donor:Int) by rw [e1];rfl)
     clear hS hg hid1 hdn e1
     generalize (L.ts[j]).1=tn at *
     generalize (L.ts[j]).2.donor=td at *
     go_wp2_with fail
     refine H1.out.mono ?_
     clear H1
     rintro e w2 ⟨rfl,h1,h2,h3⟩
     have hS2:SA w l d b lim L (.slice (some ⟨g,0,none⟩) k.tubes.length cap) vp k w2:=⟨h1,h2,HS.out.kp.trans h3⟩
     have hct:=hS2.bk.bk.ct
     obtain ⟨g',eg,hn2,hcap2,hgl2,u0,u1,-⟩:=hS2.bk.bk.tube (m:=j) hjl
     injection eg with eg
     injection eg with eg _ _
     subst eg
     rw [HE1.out] at u1
     have HS2:=hid hS2
     have H2:=hid (HT.out (Led.cmOf td) (enc_of1 HG.out.2) (by show 12<=14;omega) _ hS2)
     unfold Cm.val Led.cmOf at H2
     clear HS h1 h2 h3 hS2 t0 t1 u0 hn2
     go_wp2_with fail
     refine H2.out.mono ?_
     clear H2
     rintro e w3 ⟨rfl,h1,h2,h3⟩
     have hS3:SA w l d b lim L (.slice (some ⟨g,0,none⟩) k.tubes.length cap) vp k w3:=⟨h1,h2,HS2.out.kp.trans h3⟩
     have HS3:=hid hS3
     have H3:=hid (HT.out (Led.cmUp tn) (enc_up HG.out.1) (by show 12<=15;omega) _ hS3)
     unfold Cm.val Led.cmUp at H3
     clear HS2 hct u1 h1 h2 h3 hS3
     go_wp2_with fail
     refine H3.out.mono ?_
     clear H3
     rintro e w4 ⟨rfl,h1,h2,h3⟩
     have hS4:SA w l d b lim L (.slice (some ⟨g,0,none⟩) k.tubes.length cap) vp k w4:=⟨h1,h2,HS3.out.kp.trans h3⟩
     have HS4:=hid hS4
     have H4:=hid (HT.out (Led.cmDown tn) (enc_down HG.out.1) (by show 12<=16;omega) _ hS4)
     unfold Cm.val Led.cmDown at H4
     clear HS3 h1 h2 h3 hS4
     go_wp2_with fail
     refine H4.out.mono ?_
     clear H4
     rintro e w5 ⟨rfl,h1,h2,h3⟩
     have HS5:=hid (show SA w l d b lim L (.slice (some ⟨g,0,none⟩) k.tubes.length cap) vp k w5 from ⟨h1,h2,HS4.out.kp.trans h3⟩)
     clear HS4 h1 h2 h3
     go_wp2_with fail
     exact ⟨⟨j+1,by omega,by go_num,HS5.out⟩,by simp [intOf];omega⟩
    ·have hji:¬ (j:Int)<(k.tubes.length:Int):=by omega
     have HS:=hid hS
     clear hS
     go_wp2
     go_ret
     exact ⟨rfl,HS.out.led,⟨_,_,_,HS.out.bk⟩,HS.out.kp⟩
end
end Go.Proofs.YtalncjhldkcmaaaGreat
