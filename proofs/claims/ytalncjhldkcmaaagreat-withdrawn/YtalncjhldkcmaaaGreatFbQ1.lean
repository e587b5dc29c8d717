import Derived.Test.YtalncjhldkcmaaaGreatFbQ0
import Derived.BigQuiet
namespace Go.Proofs.YtalncjhldkcmaaaGreat
open _root_.Go.Proofs.Tryz
set_option maxHeartbeats 16000000
set_option maxRecDepth 8000
section
open Go.RowKit Go.Shelf
theorem withdrawn_any (v:Value) (n:Nat) (R:Nat->Nat->Int) (z:Int) (hz:I64 z) (w:World) (hR:RawsIn w v n R) :
  Calls prog 6 #[v,.int .i64 z] w fun e w'=>e=.returned (.bool true)/\Below w.heap.size w w':=by
 have HSt:=hid (kstore_any w)
 have HR:=hid hR
 have HPk:=hid (pick_any z hz 3 (by omega) (by omega))
 obtain ⟨oa,cap,rfl,hn,hel⟩:=hR
 clear hel
 obtain ⟨hz1,hz2⟩:=hz
 go_enter func6,ntmps6
 go_wp2_with fail
 refine HSt.out.mono ?_
 clear HSt
 rintro e w1 ⟨sb,l,dg,rfl,hS1,hsb,hl,hdg,hb1⟩
 have HP:=hid (plays_any _ n R w HR.out sb l dg 32768 lg3 w1 ⟨hS1,hb1,⟨hsb,hl,hdg⟩,Reach.refl _,by omega,by decide,lg3_nar⟩)
 clear HR hS1 hsb hl hdg hb1
 go_wp2_with fail
 refine HP.out.mono ?_
 clear HP
 rintro e w2 ⟨rfl,p,L,hPS⟩
 have HPS:=hid hPS
 clear hPS
 go_wp2_with fail
 refine (HPk.out _).mono ?_
 clear HPk
 rintro e w3 ⟨d,rfl,hd,rfl⟩
 have hws:=ws_start HPS.out
 have hrs:=HPS.out.rch.small
 have hd1:1<=1+d/\1+d<=3:=by omega
 have HOf:=hid (kof_any (d:=1+d) hd1 _ hws.st)
 have eD:((1+d:Nat):Int)=1+(d:Int):=by simp
 rw [eD] at HOf
 have HW:=hid (And.intro hws hrs)
 clear hws hrs HPS
 go_wp2_with fail
 refine HOf.out.mono ?_
 clear HOf
 rintro e w4 ⟨ov,rfl,hov,hS4,hk4⟩
 obtain ⟨hws,hrs⟩:=HW.out
 have HW4:=hid (hws.done hS4 hk4)
 have HOv:=hid hov
 have HSm:=hid hrs
 clear HW hws hrs hS4 hk4 hov
 generalize w3.heap.size=bw at *
 generalize hbg:bw+1=bg at *
 clear hbg
 generalize heo:(if L.ids (1+d)=[] then (5:Int) else 0)=eo at *
 have Heo:=hid heo
 clear heo
 go_wp2_with fail
 go_loopw [12] (fun i wr=>∃ (c:Nat) (f:Nat->Value) (G:Nat->Bool),1<=c/\c<=13/\i=.int .i64 c/\WS dg 32768 w sb l bw bg p L f (fun j=>if 1<=j/\j<c then L.showN j else []) G wr/\(∀ j,1<=j->j<13->G j=gAt L (1+d) c j)/\IntsO l dg wr ov (natsI (L.ids (1+d)))) (fun i _=>13 - (intOf i).toNat)
 case atStart =>
  refine ⟨1,fun _=>.slice none 0 0,fun _=>false,by omega,by omega,rfl,?_,fun j h1 h2 => ?_,HOv.out⟩
  ·have e:(fun j=>if 1<=j/\j<1 then L.showN j else [])=fun _=>([]:List Int):=by funext j;rw [if_neg (by omega)]
   rw [e];exact HW4.out
  ·show false=_
   unfold gAt
   simp [List.range_succ]
 case round =>
  clear HW4 HOv
  obtain ⟨c,f,G,hc1,hc13,rfl,hW,hG,hov⟩:=hrel
  by_cases hc:c<=12
  ·have hci:(c:Int)<=12:=by omega
   have hci13:(c:Int)<13:=by omega
   have HSh:=hid (kshow_any ⟨hc1,hc⟩ _ hW.st)
   have HX:=hid (And.intro hW (And.intro hG hov))
   clear hW hG hov
   go_wp2_with fail
   refine HSh.out.mono ?_
   clear HSh
   rintro e w5 ⟨sv,x,rfl,hI5,hS5,hk5⟩
   obtain ⟨s5,n5,c5,rfl⟩:=ints_form hI5
   obtain ⟨hW,hG,hov⟩:=HX.out
   have hW5:=hW.done hS5 hk5
   have hov5:=hov.keepsL hk5
   have fz5:=hW5.was.fz c
   have cw5:=hW5.was.cell c (by omega)
   have HX5:=hid (And.intro hW5 (And.intro hG (And.intro hov5 hI5)))
   clear HX hW hG hov hW5 hov5 hI5 hS5 hk5
   go_wp2_with fail
   obtain ⟨hW5,hG,hov5,hI5⟩:=HX5.out
   have hW6:=hW5.setWas (j:=c) (by omega) hI5
   have hov6:=hov5.setOther hW5.was0 c (.slice s5 n5 c5)
   have HAm:=hid (among_any c ov _ _ hov6 (ids_few _ hW5.st.few))
   clear HX5 hW5 hI5 hov5
   refine HAm.out.mono ?_
   clear HAm
   rintro e w7 ⟨rfl,nd,rfl⟩
   have hW7:=hW6.drewN nd
   have hov7:=hov6.drewN nd
   rw [among_nats]
   generalize hw7:(w5.setCell ⟨bw,c,none⟩ (.slice s5 n5 c5)).drewN nd=w7 at *
   clear hw7 hW6 hov6
   have g7:=hW7.gone.cell c (by omega)
   have f7:=hW7.gone.fz c
   generalize ha:(L.ids (1+d)).contains c=ca at *
   have hW8:=hW7.setGone (j:=c) (by omega) (G c||ca)
   have hov8:=hov7.setOther hW7.gone0 c (.bool (G c||ca))
   have HDn:=hid (kdown_any ⟨hc1,hc⟩ _ hW8.st)
   have HX6:=hid (And.intro hW8 (And.intro hG (And.intro hov8 ha)))
   clear hW7 hov7 hG hW8 hov8 ha fz5 cw5
   cases hGc:G c with
   | true =>
    rw [hGc] at HDn HX6 g7
    simp only [Bool.true_or] at HDn HX6
    go_wp2_with fail
    obtain ⟨hW8,hG,hov8,ha⟩:=HX6.out
    clear HX6
    refine HDn.out.mono ?_
    clear HDn
    rintro e w9 ⟨dv,xd,rfl,hI9,hS9,hk9⟩
    have hW9:=hW8.done hS9 hk9
    have hov9:=hov8.keepsL hk9
    have HW9:=hid (And.intro hW9 (And.intro hov9 (And.intro hI9 (And.intro hG ha))))
    clear hW8 hov8 hG ha hS9 hk9 hW9 hov9 hI9
    go_wp2_with fail
    go_loopw [16] (fun i wr=>∃ (kk:Nat) (G':Nat->Bool),1<=kk/\kk<=13/\i=.int .i64 kk/\WS dg 32768 w sb l bw bg p L (updV f c (.slice s5 n5 c5)) (fun i=>if i=c then L.showN c else if 1<=i/\i<c then L.showN i else []) G' wr/\(∀ j,1<=j->j<13->G' j=((if j=c then true else G j)||(ca&&(decide (j<kk)&&(L.downN c).contains j))))/\IntsO l dg wr ov (natsI (L.ids (1+d)))/\IntsO l dg wr dv (natsI (L.downN c))) (fun i _=>13 - (intOf i).toNat)
    case atStart =>
     obtain ⟨hW9,hov9,hI9,hG,ha⟩:=HW9.out
     exact ⟨1,_,by omega,by omega,rfl,hW9,fun j h1 h2=>by simp [show ¬ j<1 by omega],hov9,hI9⟩
    case round =>
     obtain ⟨kk,G',hk1,hk13,rfl,hW,hG',hov,hdv⟩:=hrel
     by_cases hkk:kk<=12
     ·have hki:(kk:Int)<=12:=by omega
      have hki13:(kk:Int)<13:=by omega
      have HAm:=hid (among_any kk dv _ _ hdv (downN_few L c))
      have HX:=hid (And.intro hW (And.intro hG' (And.intro hov hdv)))
      clear hW hG' hov hdv
      go_wp2_with fail
      refine HAm.out.mono ?_
      clear HAm
      rintro e wa ⟨rfl,na,rfl⟩
      rw [among_nats]
      obtain ⟨hW,hG',hov,hdv⟩:=HX.out
      have hWa:=hW.drewN na
      have hova:=hov.drewN na
      have hdva:=hdv.drewN na
      generalize wr.drewN na=wa at *
      have ga:=hWa.gone.cell kk (by omega)
      have fa:=hWa.gone.fz kk
      have hG2:∀ v:Bool,v=(G' kk||(ca&&(L.downN c).contains kk))->∀ j,1<=j->j<13->(if j=kk then v else G' j)=((if j=c then true else G j)||(ca&&(decide (j<kk+1)&&(L.downN c).contains j))):=by
       intro v hv j h1 h2
       by_cases e:j=kk
       ·subst e
        rw [if_pos rfl,hv,hG' j h1 h2]
        simp
       ·rw [if_neg e,hG' j h1 h2]
        have:decide (j<kk+1)=decide (j<kk):=by rw [decide_eq_decide];omega
        rw [this]
      have HG2:=hid hG2
      have HWa:=hid (And.intro hWa (And.intro hova hdva))
      clear HX hW hG' hov hdv hWa hova hdva hG2
      generalize (L.downN c).contains kk=cb at *
      cases hv1:G' kk
      ·rw [hv1] at ga HG2
       cases hv2:ca
       ·rw [hv2] at HG2
        subst hv2
        go_wp2_with fail
        obtain ⟨hWa,hova,hdva⟩:=HWa.out
        exact ⟨⟨kk+1,_,by omega,by omega,by go_num,hWa.setGone (j:=kk) (by omega) false,HG2.out false rfl,hova.setOther hWa.gone0 kk _,hdva.setOther hWa.gone0 kk _⟩,by simp [intOf];omega⟩
       ·rw [hv2] at HG2
        subst hv2
        go_wp2_with fail
        obtain ⟨hWa,hova,hdva⟩:=HWa.out
        exact ⟨⟨kk+1,_,by omega,by omega,by go_num,hWa.setGone (j:=kk) (by omega) cb,HG2.out cb (by simp),hova.setOther hWa.gone0 kk _,hdva.setOther hWa.gone0 kk _⟩,by simp [intOf];omega⟩
      ·rw [hv1] at ga HG2
       go_wp2_with fail
       obtain ⟨hWa,hova,hdva⟩:=HWa.out
       exact ⟨⟨kk+1,_,by omega,by omega,by go_num,hWa.setGone (j:=kk) (by omega) true,HG2.out true (by simp),hova.setOther hWa.gone0 kk _,hdva.setOther hWa.gone0 kk _⟩,by simp [intOf];omega⟩
     ·have hki:¬ (kk:Int)<=12:=by omega
      have e13:kk=13:=by omega
      obtain ⟨_,_,_,hG,ha⟩:=HW9.out
      have hG3:∀ j,1<=j->j<13->G' j=gAt L (1+d) (c+1) j:=by
       intro j h1 h2
       rw [gAt_succ L (1+d) c j hc1,hG' j h1 h2,<- hG j h1 h2,ha,e13]
       have ed:decide (j<13)=true:=decide_eq_true h2
       rw [ed]
       by_cases e:j=c
       ·subst e;rw [if_pos rfl];rw [hGc];rfl
       ·rw [if_neg e,beq_eq_false_iff_ne.2 e];simp
      have HE:=hid (And.intro hW (And.intro hG3 hov))
      clear HW9 hW hG' hov hdv hG ha hG3
      go_wp2_with fail
      obtain ⟨hW,hG3,hov⟩:=HE.out
      have eF:(fun i=>if i=c then L.showN c else if 1<=i/\i<c then L.showN i else [])=fun j=>if 1<=j/\j<c+1 then L.showN j else []:=by
       funext j
       by_cases e:j=c
       ·subst e;rw [if_pos rfl,if_pos (by omega)]
       ·rw [if_neg e]
        by_cases e2:1<=j/\j<c
        ·rw [if_pos e2,if_pos (by omega)]
        ·rw [if_neg e2,if_neg (by omega)]
      rw [eF] at hW
      exact ⟨⟨c+1,_,G',by omega,by omega,by go_num,hW,hG3,hov⟩,by simp [intOf];omega⟩
   | false =>
    rw [hGc] at HDn HX6 g7
    simp only [Bool.false_or] at HDn HX6
    go_wp2_with fail
    obtain ⟨hW8,hG,hov8,ha⟩:=HX6.out
    clear HX6
    refine HDn.out.mono ?_
    clear HDn
    rintro e w9 ⟨dv,xd,rfl,hI9,hS9,hk9⟩
    have hW9:=hW8.done hS9 hk9
    have hov9:=hov8.keepsL hk9
    have HW9:=hid (And.intro hW9 (And.intro hov9 (And.intro hI9 (And.intro hG ha))))
    clear hW8 hov8 hG ha hS9 hk9 hW9 hov9 hI9
    go_wp2_with fail
    go_loopw [16] (fun i wr=>∃ (kk:Nat) (G':Nat->Bool),1<=kk/\kk<=13/\i=.int .i64 kk/\WS dg 32768 w sb l bw bg p L (updV f c (.slice s5 n5 c5)) (fun i=>if i=c then L.showN c else if 1<=i/\i<c then L.showN i else []) G' wr/\(∀ j,1<=j->j<13->G' j=((if j=c then ca else G j)||(ca&&(decide (j<kk)&&(L.downN c).contains j))))/\IntsO l dg wr ov (natsI (L.ids (1+d)))/\IntsO l dg wr dv (natsI (L.downN c))) (fun i _=>13 - (intOf i).toNat)
    case atStart =>
     obtain ⟨hW9,hov9,hI9,hG,ha⟩:=HW9.out
     exact ⟨1,_,by omega,by omega,rfl,hW9,fun j h1 h2=>by simp [show ¬ j<1 by omega],hov9,hI9⟩
    case round =>
     obtain ⟨kk,G',hk1,hk13,rfl,hW,hG',hov,hdv⟩:=hrel
     by_cases hkk:kk<=12
     ·have hki:(kk:Int)<=12:=by omega
      have hki13:(kk:Int)<13:=by omega
      have HAm:=hid (among_any kk dv _ _ hdv (downN_few L c))
      have HX:=hid (And.intro hW (And.intro hG' (And.intro hov hdv)))
      clear hW hG' hov hdv
      go_wp2_with fail
      refine HAm.out.mono ?_
      clear HAm
      rintro e wa ⟨rfl,na,rfl⟩
      rw [among_nats]
      obtain ⟨hW,hG',hov,hdv⟩:=HX.out
      have hWa:=hW.drewN na
      have hova:=hov.drewN na
      have hdva:=hdv.drewN na
      generalize wr.drewN na=wa at *
      have ga:=hWa.gone.cell kk (by omega)
      have fa:=hWa.gone.fz kk
      have hG2:∀ v:Bool,v=(G' kk||(ca&&(L.downN c).contains kk))->∀ j,1<=j->j<13->(if j=kk then v else G' j)=((if j=c then ca else G j)||(ca&&(decide (j<kk+1)&&(L.downN c).contains j))):=by
       intro v hv j h1 h2
       by_cases e:j=kk
       ·subst e
        rw [if_pos rfl,hv,hG' j h1 h2]
        simp
       ·rw [if_neg e,hG' j h1 h2]
        have:decide (j<kk+1)=decide (j<kk):=by rw [decide_eq_decide];omega
        rw [this]
      have HG2:=hid hG2
      have HWa:=hid (And.intro hWa (And.intro hova hdva))
      clear HX hW hG' hov hdv hWa hova hdva hG2
      generalize (L.downN c).contains kk=cb at *
      cases hv1:G' kk
      ·rw [hv1] at ga HG2
       cases hv2:ca
       ·rw [hv2] at HG2
        subst hv2
        go_wp2_with fail
        obtain ⟨hWa,hova,hdva⟩:=HWa.out
        exact ⟨⟨kk+1,_,by omega,by omega,by go_num,hWa.setGone (j:=kk) (by omega) false,HG2.out false rfl,hova.setOther hWa.gone0 kk _,hdva.setOther hWa.gone0 kk _⟩,by simp [intOf];omega⟩
       ·rw [hv2] at HG2
        subst hv2
        go_wp2_with fail
        obtain ⟨hWa,hova,hdva⟩:=HWa.out
        exact ⟨⟨kk+1,_,by omega,by omega,by go_num,hWa.setGone (j:=kk) (by omega) cb,HG2.out cb (by simp),hova.setOther hWa.gone0 kk _,hdva.setOther hWa.gone0 kk _⟩,by simp [intOf];omega⟩
      ·rw [hv1] at ga HG2
       go_wp2_with fail
       obtain ⟨hWa,hova,hdva⟩:=HWa.out
       exact ⟨⟨kk+1,_,by omega,by omega,by go_num,hWa.setGone (j:=kk) (by omega) true,HG2.out true (by simp),hova.setOther hWa.gone0 kk _,hdva.setOther hWa.gone0 kk _⟩,by simp [intOf];omega⟩
     ·have hki:¬ (kk:Int)<=12:=by omega
      have e13:kk=13:=by omega
      obtain ⟨_,_,_,hG,ha⟩:=HW9.out
      have hG3:∀ j,1<=j->j<13->G' j=gAt L (1+d) (c+1) j:=by
       intro j h1 h2
       rw [gAt_succ L (1+d) c j hc1,hG' j h1 h2,<- hG j h1 h2,ha,e13]
       have ed:decide (j<13)=true:=decide_eq_true h2
       rw [ed]
       by_cases e:j=c
       ·subst e;rw [if_pos rfl];rw [hGc];cases ca <;> simp
       ·rw [if_neg e,beq_eq_false_iff_ne.2 e];simp
      have HE:=hid (And.intro hW (And.intro hG3 hov))
      clear HW9 hW hG' hov hdv hG ha hG3
      go_wp2_with fail
      obtain ⟨hW,hG3,hov⟩:=HE.out
      have eF:(fun i=>if i=c then L.showN c else if 1<=i/\i<c then L.showN i else [])=fun j=>if 1<=j/\j<c+1 then L.showN j else []:=by
       funext j
       by_cases e:j=c
       ·subst e;rw [if_pos rfl,if_pos (by omega)]
       ·rw [if_neg e]
        by_cases e2:1<=j/\j<c
        ·rw [if_pos e2,if_pos (by omega)]
        ·rw [if_neg e2,if_neg (by omega)]
      rw [eF] at hW
      exact ⟨⟨c+1,_,G',by omega,by omega,by go_num,hW,hG3,hov⟩,by simp [intOf];omega⟩
  ·have hci:¬ (c:Int)<=12:=by omega
   have e13:c=13:=by omega
   subst e13
   have HWd:=hid (kwd_any (d:=1+d) hd1 _ hW.st)
   rw [eD] at HWd
   have hinv:=hW.st.inv
   have HX:=hid (And.intro hW (And.intro hG (And.intro hov hinv)))
   clear hW hG hov hinv
   by_cases hids:L.ids (1+d)=[]
   ·have h5:eo=5:=by rw [<- Heo.out,if_pos hids]
    subst h5
    rw [if_pos hids,if_pos hids] at HWd
    clear hids Heo
    go_wp2_with fail
    refine HWd.out.mono ?_
    clear HWd
    rintro e w5 ⟨mv,rfl,hI5,hS5,hk5⟩
    have hW5:=hid (HX.out.1.done hS5 hk5)
    clear HX hS5 hk5 hI5
    go_wp2_with fail
    go_ret
    exact ⟨rfl,hW5.out.bel⟩
   ·have h0:eo=0:=by rw [<- Heo.out,if_neg hids]
    subst h0
    rw [if_neg hids,if_neg hids,if_neg hids] at HWd
    clear hids Heo
    go_wp2_with fail
    refine HWd.out.mono ?_
    clear HWd
    rintro e w5 ⟨mv,rfl,hI5,hS5,hk5⟩
    obtain ⟨hW,hG,hov,hinv⟩:=HX.out
    have hW5:=hW.done hS5 hk5
    have HS2:=hid (And.intro hW5 (And.intro hI5 hinv))
    have HG:=hid (fun j (h1:1<=j) (h2:j<13)=>(hG j h1 h2).trans (gone_at hinv HSm.out (1+d) j h2))
    clear HX hW hG hov hinv hS5 hk5 hI5 hW5
    go_wp2_with fail
    go_loopg [20,21] 12 (fun gk nv iv wr=>∃ c:Nat,c+gk=13/\1<=c/\nv=.int .i64 (hitC L (1+d) c:Nat)/\iv=.int .i64 c/\WS dg 32768 w sb l bw bg p (L.wdL (1+d)) f (fun j=>if 1<=j/\j<13 then L.showN j else []) G wr/\IntsO l dg wr mv [((L.hits (1+d)).length:Int)])
    case atStart=>exact ⟨1,by omega,by omega,by rw [hitC_one HS2.out.2.2];rfl,rfl,HS2.out.1,HS2.out.2.1⟩
    case round =>
     have HI:=hid HS2.out.2.2
     clear HS2
     obtain ⟨c,hc13,hc1,rfl,rfl,hW,hmv⟩:=hrel
     have HC:=hid hc13
     have HH:=hid (hitC_succ L (1+d) c)
     have hhc:=hitC_le L (1+d) c
     clear hc13
     by_cases hc:c<=12
     ·have hci:(c:Int)<=12:=by omega
      have hci13:(c:Int)<13:=by omega
      have HGc:=hid (HG.out c hc1 (by omega))
      cases hg:G c with
      | false =>
       have hgs:L.goneS (1+d) c=false:=HGc.out.symm.trans hg
       have hH:hitC L (1+d) (c+1)=hitC L (1+d) c:=by rw [HH.out,hitN_not hgs];rfl
       have HSh:=hid (kshow_any ⟨hc1,hc⟩ _ hW.st)
       rw [showN_keeps hgs] at HSh
       have HX:=hid (And.intro hW (And.intro hmv hH))
       clear hW hmv hH HH hgs
       generalize hitC L (1+d) c=cnt at *
       go_wp2_with fail
       refine HSh.out.mono ?_
       clear HSh
       rintro e w6 ⟨sv,x,rfl,hI6,hS6,hk6⟩
       obtain ⟨hW,hmv,hH⟩:=HX.out
       have hW6:=hW.done hS6 hk6
       have hmv6:=hmv.keepsL hk6
       have g6:=hW6.gone.cell c (by omega)
       rw [hg] at g6
       have c6:=hW6.was.cell c (by omega)
       have hi6:=hW6.ints c (by omega)
       simp only [show (1<=c/\c<13) from ⟨hc1,by omega⟩,and_self,if_true] at hi6
       have HSa:=hid (same_any sv (f c) _ w6 hI6.ints hi6.ints (showN_few L c))
       have HX:=hid (And.intro hW6 (And.intro hmv6 hH))
       clear hW hmv hH hW6 hmv6 hI6 hi6 hS6 hk6
       go_wp2_with fail
       refine HSa.out.mono ?_
       clear HSa
       rintro e w7 ⟨rfl,n7,rfl⟩
       go_wp2_with fail
       go_roundg (12 - c)
       case measure=>have:=HC.out;omega
       case rel =>
        obtain ⟨hW,hmv,hH⟩:=HX.out
        exact ⟨c+1,by have:=HC.out;omega,by omega,by rw [hH],by go_num,hW.drewN n7,hmv.drewN n7⟩
      | true =>
       have hgs:L.goneS (1+d) c=true:=HGc.out.symm.trans hg
       obtain ⟨q,hq⟩:=Option.isSome_iff_exists.1 (Led.gone_tube HI.out hgs)
       obtain ⟨r,hr,hr3,hrl,hrb,hrlo,hrbe,hru⟩:=Led.wd_gone HSm.out HI.out hgs hq
       have hH:hitC L (1+d) (c+1)=hitC L (1+d) c+(if q.status=3 then 0 else 1):=by
        rw [HH.out,hitN_gone hgs hq];by_cases h:q.status=3 <;> simp [h]
       have HSh:=hid (kshow_some hr ⟨hc1,hc⟩ _ hW.st)
       have HU:=hid (fun wx (hx:KH wx sb l dg 32768 p (L.wdL (1+d)))=>kuse_dead hr hr3 ⟨hc1,hc⟩ wx hx)
       have HMo:=hid (fun wx (hx:KH wx sb l dg 32768 p (L.wdL (1+d)))=>kmove_dead hr hr3 ⟨hc1,hc⟩ wx hx)
       have hgood:=(HI.out.ok.t1 _ ((Led.tube_mem HI.out.ok).1 hq)).2.2
       have hg2:=hgood.left
       have hg4:=hgood.lost
       have HX:=hid (And.intro hW (And.intro hmv hH))
       have HQ:=hid (And.intro hq (And.intro hr3 (And.intro hrl (And.intro hrb (And.intro hrlo (And.intro hrbe hru))))))
       clear hW hmv hH HH hgs hq hr hr3 hrl hrb hrlo hrbe hru hgood
       generalize hitC L (1+d) c=cnt at *
       go_wp2_with fail
       refine HSh.out.mono ?_
       clear HSh
       rintro e w6 ⟨sv,rfl,hI6,hS6,hk6⟩
       obtain ⟨hW,hmv,hH⟩:=HX.out
       obtain ⟨hq,hr3,hrl,hrb,hrlo,hrbe,hru⟩:=HQ.out
       have hW6:=hW.done hS6 hk6
       have hmv6:=hmv.keepsL hk6
       have g6:=hW6.gone.cell c (by omega)
       rw [hg] at g6
       have c6:=hW6.was.cell c (by omega)
       have hi6:=hW6.ints c (by omega)
       simp only [show (1<=c/\c<13) from ⟨hc1,by omega⟩,and_self,if_true] at hi6
       rw [showN_some hq] at hi6
       obtain ⟨gv,cv,ev,_,_,a1,a2,a3,a4,a5,_,_,_,_⟩:=show_cells hi6.ints
       rw [ev] at c6
       obtain ⟨gi,ci,rfl,_,_,i1,i2,i3,i4,i5,_,i7,_,_⟩:=show_cells hI6.ints
       rw [hrbe] at i1
       rw [hrl] at i2
       rw [hru] at i3
       have hwr:IntKind.i64.wrap ((q.lost:Int)+(q.left:Int))=(q.lost:Int)+(q.left:Int):=by
        simp only [IntKind.wrap,IntKind.bits,IntKind.signed];simp;omega
       have hne4:((r.lost:Int) != (q.lost:Int)+(q.left:Int))=false:=by rw [bne_eq_false_iff_eq];omega
       rw [hr3] at i5
       rw [hrb] at i7
       clear HX HQ
       have HX:=hid (And.intro hW6 (And.intro hmv6 hH))
       clear hW hmv hH hW6 hmv6 hI6 hi6 hS6 hk6 hq hr3 hrl hrb hrlo hrbe hru ev
       go_wp2_with fail
       go_quiet (fail)
       by_cases hs:q.status=3
       ·rw [if_pos hs] at HX
        rw [hs] at a5
        clear hs
        go_wp2_with fail
        refine (HU.out _ (HX.out.1.drewN _).st).mono ?_
        rintro e w7 ⟨uv,rfl,hS7,hk7⟩
        have HX7:=hid (And.intro ((HX.out.1.drewN _).done hS7 hk7) (And.intro ((HX.out.2.1.drewN _).keepsL hk7) HX.out.2.2))
        clear HX hS7 hk7
        go_wp2_with fail
        refine (HMo.out _ HX7.out.1.st).mono ?_
        rintro e w8 ⟨xv,rfl,hS8,hk8⟩
        have HX8:=hid (And.intro (HX7.out.1.done hS8 hk8) (And.intro (HX7.out.2.1.keepsL hk8) HX7.out.2.2))
        clear HX7 hS8 hk8
        go_wp2_with fail
        go_roundg (12 - c)
        case measure=>have:=HC.out;omega
        case rel =>
         obtain ⟨hW,hmv,hH⟩:=HX8.out
         exact ⟨c+1,by have:=HC.out;omega,by omega,by rw [hH];rfl,by go_num,hW,hmv⟩
       ·have hs':((q.status:Int) == 3)=false:=bnf.2 (by omega)
        rw [if_neg hs] at HX
        clear hs
        go_wp2_with fail
        refine (HU.out _ (HX.out.1.drewN _).st).mono ?_
        rintro e w7 ⟨uv,rfl,hS7,hk7⟩
        have HX7:=hid (And.intro ((HX.out.1.drewN _).done hS7 hk7) (And.intro ((HX.out.2.1.drewN _).keepsL hk7) HX.out.2.2))
        clear HX hS7 hk7
        go_wp2_with fail
        refine (HMo.out _ HX7.out.1.st).mono ?_
        rintro e w8 ⟨xv,rfl,hS8,hk8⟩
        have HX8:=hid (And.intro (HX7.out.1.done hS8 hk8) (And.intro (HX7.out.2.1.keepsL hk8) HX7.out.2.2))
        clear HX7 hS8 hk8
        go_wp2_with fail
        go_roundg (12 - c)
        case measure=>have:=HC.out;omega
        case rel =>
         obtain ⟨hW,hmv,hH⟩:=HX8.out
         exact ⟨c+1,by have:=HC.out;omega,by omega,by rw [hH];go_num,by go_num,hW,hmv⟩
     ·have hci:¬ (c:Int)<=12:=by omega
      have e13:c=13:=by have:=HC.out;omega
      subst e13
      have hcnt:hitC L (1+d) 13=(L.hits (1+d)).length:=(Led.hits_count HI.out HSm.out (1+d)).symm
      rcases hmv with ⟨gm,cm,rfl,hgm,hcm⟩ | ⟨_,h0⟩
      ·have m0:=hcm 0 (by simp)
       simp only [List.getElem_cons_zero] at m0
       rw [<- hcnt] at m0
       have HE:=hid hW.bel
       clear hW hcm HH HC hcnt
       generalize hitC L (1+d) 13=cnt at *
       go_wp2_with fail
       go_ret
       exact ⟨rfl,HE.out⟩
      ·cases h0
end
end Go.Proofs.YtalncjhldkcmaaaGreat
