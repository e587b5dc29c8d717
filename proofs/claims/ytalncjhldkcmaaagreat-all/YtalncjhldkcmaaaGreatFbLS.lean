import Derived.Test.YtalncjhldkcmaaaGreatFb51
import Derived.Test.YtalncjhldkcmaaaGreatFb52
import Derived.Deep.LoopGhost
import Derived.Deep.RegionHeld3
namespace Go.Proofs.YtalncjhldkcmaaaGreat
open _root_.Go.Proofs.Tryz
set_option maxHeartbeats 16000000
set_option maxRecDepth 8000
section
theorem textWk_get (f:Nat) (x:List UInt8) {k i:Nat} (h:i<k):(textWk f x k)[i]? = some (((f+1+i:Nat):Int),piece x i):=by simp [textWk,h]
theorem Holds.textOut {img img':List UInt8} {n t:Nat} {x:List UInt8} (h:Holds img n t x) (hl:img'.length=img.length)
  (ho:∀ i,i<((t+1) % 2*(n / 2)+1)*128\/((t+1) % 2*(n / 2)+n / 2)*128<=i->img'[i]? = img[i]?):Holds img' n t x:=by
 have hn:=h.n1
 refine h.same hl (fun i h1 h2=>ho i ?_) (ho _ ?_)
 ·have:=half_apart (n:=n) (t:=t) (i:=i);omega
 ·simp only [markO];omega
theorem head_torn {img:List UInt8} {n t k:Nat} {x y:List UInt8} (h:Holds img n t x) (hy:y.length<=(n / 2 - 1)*128) (hk:k<128) :
  Holds (mkW (allW img (textW (nextT t % 2*(n / 2)) y)) (((nextT t % 2*(n / 2):Nat):Int),headB (nextT t) y.length (sumN y)) k) n t x:=by
 have hn:=h.n1
 have hp:=pieces_le hy
 have hin:=half_in (n:=n) (t:=t+1)
 have hlen:=h.len
 rw [nextT_par,textW_eq]
 obtain ⟨g1,g2,g3⟩:=text_put img ((t+1) % 2*(n / 2)) y (pieces y) (by omega)
 generalize allW img (textWk ((t+1) % 2*(n / 2)) y (pieces y))=img1 at *
 obtain ⟨m1,m2⟩:=mkW_out (img:=img1) (s:=(t+1) % 2*(n / 2)) (k:=k) (headB_len (nextT t) y.length (sumN y)) (by omega)
 refine h.same (by omega) (fun i h1 h2 => ?_) ?_
 ·have:=half_apart (n:=n) (t:=t) (i:=i)
  rw [m2 i (by omega),g2 i (by omega)]
 ·rw [m2 _ (by simp only [markO];omega),g2 _ (by simp only [markO];omega)]
theorem text_part {img:List UInt8} {n t:Nat} {x:List UInt8} (h:Holds img n t x) {i k:Nat} {d:List UInt8} (hd:d.length=128) (hi:i<n / 2 - 1) :
  Holds (mkW img (((nextT t % 2*(n / 2)+1+i:Nat):Int),d) k) n t x:=by
 have hn:=h.n1
 have hin:=half_in (n:=n) (t:=t+1)
 have hlen:=h.len
 rw [nextT_par]
 obtain ⟨m1,m2⟩:=mkW_out (img:=img) (s:=(t+1) % 2*(n / 2)+1+i) (k:=k) hd (by omega)
 exact h.textOut m1 (fun j hj=>m2 j (by omega))
end
section
open Go.RowKit Go.Shelf
theorem all_law (hS:StepsTo 7) (v:Value) (n:Nat) (R:Nat->OpD) (w:World) (hR:OpsIn w v n R) :
  Calls prog 9 #[v] w fun e w'=>e=.returned (.bool true)/\Below w.heap.size w w':=by
 have HP:=hid (lplays_any 7 (by decide) (hid hS) v n R w hR)
 clear hR hS
 go_enter func9,ntmps9
 go_wp2_with fail
 refine HP.out.mono ?_
 clear HP
 rintro e w1 ⟨rfl,hb⟩
 have HB:=hid hb
 clear hb
 go_wp2
 go_ret
 exact ⟨rfl,HB.out⟩
end
section
open Go.RowKit Go.Shelf
variable {B:Nat} {w w':World} {wb:Nat} {v:Value} {qs:List PD}
theorem TagK.refl (w:World):TagK w w:=fun _ _ _ _ _ _ _ _ _=>rfl
end
section
open Go.RowKit Go.Shelf
def sureN (ws:List WN):Nat->Nat
 | 0=>0
 | m+1=>if 0<=(ws.getD m (-1,[])).1 then sureN ws m else m+1
theorem sureN_le (ws:List WN):∀ m,sureN ws m<=m
 | 0=>Nat.le_refl _
 | m+1=>by
  unfold sureN
  split
  ·exact Nat.le_succ_of_le (sureN_le ws m)
  ·exact Nat.le_refl _
theorem all_zero (d:Nat) (oa:Option Addr) (cap:Nat) (w:World):Calls prog 50 #[.pointer (some ⟨d,0,none⟩),.slice oa 0 cap] w fun e w'=>e=.returned (.tuple #[])/\w'=w:=by
 go_enter func50,ntmps50
 go_wp2_with fail
 go_loopw [4] (fun i wr=>i=.int .i64 0/\wr=w) (fun _ _=>0)
 case atStart=>exact ⟨rfl,rfl⟩
 case round =>
  obtain ⟨rfl,rfl⟩:=hrel
  go_wp2
  go_end0
  exact ⟨rfl,rfl⟩
set_option maxRecDepth 8000 in
set_option maxHeartbeats 2000000 in
theorem all_part (d g n:Nat) (img:List UInt8) (v:Value) (ws:List WN) (B:Nat) (w:World) (hn:n<=256) (hD:DiskH w d g n img) (hV:WrV B w v ws) (hf:∀ x∈ws,x.1 = -1\/(0<=x.1/\x.1<n/\x.2.length=128)) :
  Calls prog 50 #[.pointer (some ⟨d,0,none⟩),v] w fun e w'=>e=.returned (.tuple #[])/\DiskH w' d g n (allW img ws)/\Keeps (fun x=>x=g) w w':=by
 rcases hV with ⟨rfl,rfl⟩ | ⟨gw,cap,rfl,_,hcap,hlen,cur,h3,h4⟩
 ·refine (all_nil d w).mono ?_
  rintro e w' ⟨rfl,rfl⟩
  exact ⟨rfl,hD,Keeps.refl _ _⟩
 ·obtain ⟨cg,hcg⟩:=hD.tagg
  have hne:¬ gw=g:=tag_ne h3 hcg (by decide)
  have H:=hid (And.intro hD (And.intro h3 h4))
  have Hf:=hid hf
  clear hD h3 h4 hf hcg
  go_enter func50,ntmps50
  go_wp2_with fail
  go_loopw [4] (fun i wr=>∃ j:Nat,j<=ws.length/\i=.int .i64 j/\DiskH wr d g n (allW img (ws.take j))/\Keeps (fun x=>x=g) w wr) (fun i _=>ws.length - (intOf i).toNat)
  case atStart=>exact ⟨0,by omega,rfl,H.out.1,Keeps.refl _ _⟩
  case round =>
   obtain ⟨j,hj,rfl,hDj,hkj⟩:=hrel
   by_cases hjl:j<ws.length
   ·have hji:(j:Int)<(ws.length:Int):=by omega
    obtain ⟨c0,c1⟩:=wr_cells (keeps_same hkj hne H.out.2.1) H.out.2.2 hjl
    have HM:=hid (make_any d g n (allW img (ws.take j)) ws[j] (Hf.out _ (List.getElem_mem hjl)) 128 hn (by omega) wr hDj)
    have HK:=hid (And.intro (allW_succ img ws hjl) hkj)
    clear hDj hkj
    generalize ws[j]=x at *
    go_wp2_with fail
    refine HM.out.mono ?_
    clear HM
    rintro e w2 ⟨rfl,hD2,hk2⟩
    have HE:=hid (And.intro hD2 (HK.out.2.trans hk2))
    clear hD2 hk2 c0 c1
    go_wp2_with fail
    exact ⟨⟨j+1,by omega,by go_num,by rw [HK.out.1];exact HE.out.1,HE.out.2⟩,by simp [intOf];omega⟩
   ·have hji:¬ (j:Int)<(ws.length:Int):=by omega
    have HE:=hid (And.intro hDj hkj)
    clear hDj hkj
    go_wp2
    go_end0
    refine ⟨rfl,?_,HE.out.2⟩
    have:=HE.out.1
    rwa [List.take_of_length_le (by omega)] at this
theorem wCells_take (ws:List WN) (k:Nat):wCells (ws.take k)=(wCells ws).take (k*2):=by
 induction ws generalizing k with
 | nil=>simp [wCells]
 | cons a l ih =>
  match k with
  | 0=>simp [wCells]
  | k+1 =>
   have e:wCells (a::l)=[.int .i64 a.1,.string ⟨a.2.toArray⟩]++wCells l:=by simp [wCells]
   have e2:wCells (a::l.take k)=[.int .i64 a.1,.string ⟨a.2.toArray⟩]++wCells (l.take k):=by simp [wCells]
   rw [List.take_succ_cons,e2,ih,e,show (k+1)*2=k*2+2 by omega]
   simp
theorem all_take (d g n:Nat) (img:List UInt8) (gw cap:Nat) (ws:List WN) (k:Nat) (hk:k<=ws.length) (w:World) (hn:n<=256) (hD:DiskH w d g n img) (hcap:ws.length<=cap) (hlen:ws.length<=1000) (cur:Array Value) (h3:w.heap[gw]? = some (.cells cur 84 (0,0))) (h4:cur.toList.take (ws.length*2)=wCells ws) (hf:∀ x∈ws,x.1 = -1\/(0<=x.1/\x.1<n/\x.2.length=128)) :
  Calls prog 50 #[.pointer (some ⟨d,0,none⟩),.slice (some ⟨gw,0,none⟩) k cap] w fun e w'=>e=.returned (.tuple #[])/\DiskH w' d g n (allW img (ws.take k))/\Keeps (fun x=>x=g) w w':=by
 by_cases h0:k=0
 ·subst h0
  refine (all_zero d _ cap w).mono ?_
  rintro e w' ⟨rfl,rfl⟩
  exact ⟨rfl,hD,Keeps.refl _ _⟩
 ·have hl:(ws.take k).length=k:=by rw [List.length_take];omega
  have hV:WrV 0 w (.slice (some ⟨gw,0,none⟩) k cap) (ws.take k):=.inr ⟨gw,cap,by rw [hl],Nat.zero_le _,by rw [hl];omega,by rw [hl];omega,cur,h3,by
   rw [hl,wCells_take,<- h4,List.take_take,Nat.min_eq_left (by omega)]⟩
  refine (all_part d g n img _ (ws.take k) 0 w hn hD hV (fun x hx=>hf x (List.mem_of_mem_take hx)))
end
section
open Go.RowKit Go.Shelf
theorem mkW_none (im:List UInt8) (x:WN):mkW im x 0=im:=by
 unfold mkW putB
 split
 ·simp
 ·rfl
theorem eq_len (a b:Nat):((a:Int) == (b:Int))=decide (a=b):=by
 rw [Bool.eq_iff_iff];simp;omega
def LostCut (d gw cap:Nat) (ws:List WN) (L:Nat->Int) (m lb:Nat) (w1':World) (e:Exit) (a':Act) (w':World):Prop:=∃ (su:Nat) (u18 u19 u20 u21 u22 u23 u24 u25 u26 u27 u28 u29 u30:Value),e=.exit 0/\a'={ tmps:=#[.pointer (some ⟨d,0,none⟩),.slice (some ⟨gw,0,none⟩) ws.length cap,.agg #[.int .i64 (L 0),.int .i64 (L 1),.int .i64 (L 2),.int .i64 (L 3)],undef,undef,.pointer (some ⟨lb,0,none⟩),.bool false,.int .i64 m,.int .i64 su,undef,undef,.pointer (some ⟨lb,0,none⟩),.int .i64 (L 0),.slice (some ⟨gw,0,none⟩) ws.length cap,.int .i64 ws.length,.int .i64 ((ws.length:Int)+1),.int .i64 m,.int .i64 m,u18,u19,u20,u21,u22,u23,u24,u25,u26,u27,u28,u29,u30,undef,undef,undef,undef,undef,undef,undef,undef,undef,undef,undef,undef,undef,undef,undef,undef,undef,undef,undef,undef,undef,undef,undef,undef,undef,undef,undef,undef,undef,undef,undef,undef,undef,undef,undef,undef,undef,undef,undef,undef,undef,undef,undef,undef,undef,undef,undef,undef,undef,undef,undef,undef,undef,undef,undef],defers:=[] }/\w'=w1'/\su=sureN ws m
set_option maxRecDepth 8000 in
set_option maxHeartbeats 4000000 in
theorem lost_any (d g n:Nat) (img:List UInt8) (gw cap:Nat) (ws:List WN) (L:Nat->Int) (hL:∀ j,j<4->I64 (L j)) (m:Nat) (hm:m<ws.length+1)
  (HPk:Hid (∀ u,Calls prog 31 #[.int .i64 (L 0),.int .i64 ((ws.length:Int)+1)] u fun e w'=>e=.returned (.int .i64 m)/\w'=u))
  (J:Nat->List UInt8->Prop) (w:World) (hn:n<=256) (hD:DiskH w d g n img) (hcap:ws.length<=cap) (hlen:0<ws.length/\ws.length<=900) (cur:Array Value) (h3:w.heap[gw]? = some (.cells cur 84 (0,0))) (h4:cur.toList.take (ws.length*2)=wCells ws) (hf:∀ x∈ws,x.1 = -1\/(0<=x.1/\x.1<n/\x.2.length=128))
  (hJ0:J (sureN ws m) (allW img (ws.take (sureN ws m)))) (hJ:∀ i im k (hi:i<ws.length),sureN ws m<=i->i<m->k<=128->J i im->J (i+1) (mkW im ws[i] k)) :
  Calls prog 59 #[.pointer (some ⟨d,0,none⟩),.slice (some ⟨gw,0,none⟩) ws.length cap,.agg #[.int .i64 (L 0),.int .i64 (L 1),.int .i64 (L 2),.int .i64 (L 3)]] w fun e w'=>e=.returned (.bool (decide (m=ws.length)))/\∃ img',DiskH w' d g n img'/\J m img'/\Keeps (fun x=>x=g) w w':=by
 have hb1:Below w.heap.size w (w.alloc (.cells #[.int .i64 (L 0),.int .i64 (L 1),.int .i64 (L 2),.int .i64 (L 3)] 68)):=bal
 have hN:=RecAt.new w #[.int .i64 (L 0),.int .i64 (L 1),.int .i64 (L 2),.int .i64 (L 3)] 68
 have hD1:=hD.below hb1
 have h31:=(hb1.block gw (Array.getElem?_eq_some_iff.1 h3).1).trans h3
 obtain ⟨cg,tg⟩:=hD1.tagg
 have hgw:¬ gw=g:=tag_ne (h31.trans rfl) tg (by decide)
 have hgp:¬ w.heap.size=g:=by have:=hD.ltg;omega
 have c0:(w.alloc (.cells #[.int .i64 (L 0),.int .i64 (L 1),.int .i64 (L 2),.int .i64 (L 3)] 68)).cell? ⟨w.heap.size,0,none⟩=some (.int .i64 (L 0)):=hN.cell 0
 have H:=hid (And.intro hb1 (And.intro hN (And.intro hD1 h31)))
 have HF:=hid (And.intro h4 hf)
 have HJ:=hid (And.intro hJ0 hJ)
 have hmi:(m:Int)<=(ws.length:Int):=by omega
 have hwl:wrap64 ((ws.length:Int)+1)=((ws.length+1:Nat):Int):=by unfold wrap64;omega
 clear hb1 hN hD1 h31 hD h3 h4 hf hJ0 hJ tg
 go_enter func59,ntmps59
 go_wp2_with fail
 refine (HPk.out _).mono ?_
 clear HPk
 rintro e w1' ⟨rfl,rfl⟩
 generalize w.alloc (.cells #[.int .i64 (L 0),.int .i64 (L 1),.int .i64 (L 2),.int .i64 (L 3)] 68)=w1' at *
 obtain ⟨hb1,hN,hD1,h31⟩:=H.out
 have c1:w1'.cell? ⟨w.heap.size,1,none⟩=some (.int .i64 (L 1)):=hN.cell 1
 have c2:w1'.cell? ⟨w.heap.size,2,none⟩=some (.int .i64 (L 2)):=hN.cell 2
 have c3:w1'.cell? ⟨w.heap.size,3,none⟩=some (.int .i64 (L 3)):=hN.cell 3
 have hpl:w.heap.size<w1'.heap.size:=hN.lt
 clear H c0 hN
 generalize hlb:w.heap.size=lb at *
 have HLb:=hid hlb
 clear hlb
 have H1:=hid (And.intro hb1 (And.intro hD1 h31))
 have h3w:=h31
 clear hb1 hD1 h31
 go_wp2_with fail
 refine Code.wp_mono (Q:=LostCut d gw cap ws L m lb w1') ?imp ?lp
 case lp =>
  go_loopw [8] (fun s wr=>∃ k:Nat,k<=m/\s=.int .i64 k/\wr=w1'/\sureN ws k=sureN ws m) (fun s _=>(intOf s).toNat)
  case atStart=>exact ⟨m,Nat.le_refl _,rfl,rfl,rfl⟩
  case round =>
   obtain ⟨k,hk,rfl,rfl,hsu⟩:=hrel
   have HSu:=hid hsu
   clear hsu
   match k,hk,HSu with
   | 0,hk,HSu =>
    go_wp2_with fail
    exact ⟨0,_,_,_,_,_,_,_,_,_,_,_,_,_,rfl,rfl,rfl,HSu.out⟩
   | j+1,hk,HSu =>
    have hjl:j<ws.length:=by omega
    obtain ⟨a0,-⟩:=wr_cells h3w HF.out.1 hjl
    by_cases hneg:0<=ws[j].1
    ·have hs2:sureN ws (j+1)=sureN ws j:=by rw [sureN,List.getD_eq_getElem?_getD,List.getElem?_eq_getElem hjl];simp [hneg]
     have HS2:=hid hs2
     clear hs2
     generalize ws[j]=x at *
     go_wp2_with fail
     exact ⟨⟨j,by omega,by go_num,trivial,by rw [<- HS2.out];exact HSu.out⟩,by simp [intOf]⟩
    ·have hs2:sureN ws (j+1)=j+1:=by rw [sureN,List.getD_eq_getElem?_getD,List.getElem?_eq_getElem hjl];simp [hneg]
     have HS2:=hid hs2
     clear hs2
     generalize ws[j]=x at *
     go_wp2_with fail
     exact ⟨j+1,_,_,_,_,_,_,_,_,_,_,_,_,_,rfl,rfl,rfl,by rw [<- HSu.out,HS2.out]⟩
 case imp =>
  rintro e a' w' ⟨su,u18,u19,u20,u21,u22,u23,u24,u25,u26,u27,u28,u29,u30,rfl,rfl,rfl,hsu⟩
  have hle:su<=m:=by rw [hsu];exact sureN_le ws m
  obtain ⟨hb1,hD1,h31⟩:=H1.out
  have HA:=hid (all_take d g n img gw cap ws su (by omega) w' hn hD1 hcap (by omega) cur h3w HF.out.1 HF.out.2)
  obtain ⟨hJ0,hJ⟩:=HJ.out
  rw [<- hsu] at hJ0 hJ
  have HJ2:=hid (And.intro hJ0 hJ)
  have hcs:su<=cap:=by omega
  clear hJ0 hJ HJ hsu hb1 hD1 h31
  go_wp2_with fail
  refine HA.out.mono ?_
  clear HA
  rintro e w2 ⟨rfl,hD2,hk2⟩
  have c1:=(hk2.cell (p:=⟨lb,1,none⟩) hpl hgp).trans c1
  have c2:=(hk2.cell (p:=⟨lb,2,none⟩) hpl hgp).trans c2
  have c3:=(hk2.cell (p:=⟨lb,3,none⟩) hpl hgp).trans c3
  have h32:=keeps_same hk2 hgw h3w
  have hl2:lb<w2.heap.size:=Nat.lt_of_lt_of_le hpl hk2.size
  have HK2:=hid (show DiskH w2 d g n (allW img (ws.take su))/\Keeps (fun x=>x=g) w w2 from ⟨hD2,by
   have hb:=H1.out.1
   rw [<- HLb.out] at hb
   exact (below_toKeeps hb _).trans hk2⟩)
  clear hD2 hk2 h3w H1 hpl hwl
  by_cases hms:su<m
  ·have hmi2:((su:Nat):Int)<(m:Int):=by omega
   obtain ⟨z,hz,hpk⟩:=lpick_val (L 2) (hL 2 (by omega)) (m - su) (by omega) (by omega)
   obtain ⟨zb,hzb,hpb⟩:=lpick_val (L 3) (hL 3 (by omega)) 129 (by omega) (by omega)
   have hsub:((m - su:Nat):Int)=(m:Int) - (su:Int):=by omega
   rw [hsub] at hpk
   have HPk:=hid hpk
   have HPb:=hid hpb
   have hm9:(m:Int)<=900:=by omega
   have Hms:=hid (And.intro hms (And.intro hz (And.intro hzb (And.intro hm hlen))))
   clear hpk hpb hsub hms hz hzb hle hlen hm hcs hcap
   go_wp2_with fail
   refine (HPk.out _).mono ?_
   clear HPk c2
   rintro e w3 ⟨rfl,rfl⟩
   have hz9:(z:Int)<=900:=by have:=Hms.out;omega
   have HKw:=hid (Keeps.refl (fun x=>x=g) w3)
   go_wp2_with fail
   go_loopw [10] (fun iv wr=>∃ i:Nat,su<=i/\i<=m/\iv=.int .i64 i/\∃ im,DiskH wr d g n im/\J i im/\Keeps (fun x=>x=g) w3 wr) (fun iv _=>m - (intOf iv).toNat)
   case atStart=>exact ⟨su,Nat.le_refl _,by have:=Hms.out;omega,rfl,_,HK2.out.1,HJ2.out.1,HKw.out⟩
   case round =>
    obtain ⟨i,hi1,hi2,rfl,im,hDi,hJi,hki⟩:=hrel
    have HI:=hid (And.intro hi1 (And.intro hi2 (And.intro hDi (And.intro hJi hki))))
    have c1:=(hki.cell (p:=⟨lb,1,none⟩) hl2 hgp).trans c1
    have c3:=(hki.cell (p:=⟨lb,3,none⟩) hl2 hgp).trans c3
    have h3i:=keeps_same hki hgw h32
    clear hDi hJi hki
    by_cases him:i<m
    ·have hil:i<ws.length:=by have:=Hms.out;omega
     obtain ⟨a0,a1⟩:=wr_cells h3i HF.out.1 hil
     have hii:(i:Int)<(m:Int):=by omega
     have HM:=hid (fun k hk u (hu:Below wr.heap.size wr u)=>make_any d g n im ws[i] (HF.out.2 _ (List.getElem_mem hil)) k hn hk u (HI.out.2.2.1.below hu))
     have HJn:=hid (fun k hk=>HJ2.out.2 i im k hil hi1 him hk HI.out.2.2.2.1)
     generalize ws[i]=x at *
     clear hi1 hi2 him hil h3i
     by_cases ht0:(i:Int)=(su:Int)+(z:Int)
     ·have ht:((i:Int) == (su:Int)+(z:Int))=true:=by rw [ht0];simp
      clear ht0
      go_wp2_with fail
      refine wp_region_then 8 (by kernel_rfl) (by decide) (by kernel_rfl) (by kernel_rfl) (by kernel_rfl) (by kernel_rfl) ?_
      simp only [List.take_succ_cons,List.take_zero]
      repeat (go_big_quiet_step (first | (go_at_call 31;exact Calls.quiet_of_same (HPb.out _))))
      refine wpQuiet_nil ?_
      rintro w4 ⟨nq,rfl⟩
      simp only [List.drop_succ_cons,List.drop_zero]
      go_wp2_with fail
      refine (HM.out zb (by have:=Hms.out;omega) _ (below_drewN (Below.refl _ wr) nq)).mono ?_
      clear HM
      rintro e w5 ⟨rfl,hD5,hk5⟩
      have HE:=hid (And.intro hD5 (And.intro (HJn.out zb (by have:=Hms.out;omega)) ((HI.out.2.2.2.2.drewN nq).trans hk5)))
      clear hD5 hk5 a0 a1 c1 c3
      go_wp2_with fail
      exact ⟨⟨i+1,by have:=HI.out;omega,by have:=HI.out;omega,by go_num,_,HE.out.1,HE.out.2.1,HE.out.2.2⟩,by have:=HI.out;simp [intOf];omega⟩
     ·have ht:((i:Int) == (su:Int)+(z:Int))=false:=by simpa using ht0
      clear ht0
      have hq1:(i:Int) - (su:Int)=((i - su:Nat):Int):=by have:=HI.out;omega
      have hq2:((i - su:Nat):Int).tmod 63=(((i - su) % 63:Nat):Int):=by rw [Int.tmod_eq_emod_of_nonneg (by omega)];omega
      have hq3:(i - su) % 63<63:=Nat.mod_lt _ (by decide)
      have hq4:((i - su:Nat):Int)<=900:=by have:=HI.out;omega
      generalize i - su=df at *
      generalize df % 63=sh at *
      have hq5:(sh:Int)<=64:=by omega
      cases hbit:(bits BinOp.and IntKind.i64 (L 1 / 2 ^ sh) 1 == 1) with
      | true =>
       go_wp2_with fail
       refine (HM.out 128 (by omega) _ (Below.refl _ wr)).mono ?_
       clear HM
       rintro e w5 ⟨rfl,hD5,hk5⟩
       have HE:=hid (And.intro hD5 (And.intro (HJn.out 128 (by omega)) (HI.out.2.2.2.2.trans hk5)))
       clear hD5 hk5 a0 a1 c1 c3
       go_wp2_with fail
       exact ⟨⟨i+1,by have:=HI.out;omega,by have:=HI.out;omega,by go_num,_,HE.out.1,HE.out.2.1,HE.out.2.2⟩,by have:=HI.out;simp [intOf];omega⟩
      | false =>
       have HE:=hid (And.intro HI.out.2.2.1 (And.intro (show J (i+1) im by have:=HJn.out 0 (by omega);rwa [mkW_none] at this) HI.out.2.2.2.2))
       go_wp2_with fail
       exact ⟨⟨i+1,by have:=HI.out;omega,by have:=HI.out;omega,by go_num,_,HE.out.1,HE.out.2.1,HE.out.2.2⟩,by have:=HI.out;simp [intOf];omega⟩
    ·have hii:¬ (i:Int)<(m:Int):=by omega
     obtain rfl:i=m:=by omega
     clear hii him hi1 hi2
     go_wp2_with fail
     go_ret
     exact ⟨by rw [eq_len];rfl,_,HI.out.2.2.1,HI.out.2.2.2.1,HK2.out.2.trans HI.out.2.2.2.2⟩
  ·obtain rfl:su=m:=by omega
   clear hms hle
   go_wp2_with fail
   go_loopw [10] (fun iv wr=>iv=.int .i64 su/\wr=w2) (fun _ _=>0)
   case atStart=>exact ⟨rfl,rfl⟩
   case round =>
    obtain ⟨rfl,rfl⟩:=hrel
    go_wp2
    go_ret
    exact ⟨by rw [eq_len];rfl,_,HK2.out.1,HJ2.out.1,HK2.out.2⟩
end
section
open Go.RowKit Go.Shelf
variable {img x y:List UInt8} {n t:Nat}
theorem keepW_len (n t:Nat) (y:List UInt8):(keepW n t y).length=pieces y+3:=by simp [keepW,textW]
theorem keepW_piece {i:Nat} (h:i<pieces y):(keepW n t y)[i]? = some (((nextT t % 2*(n / 2)+1+i:Nat):Int),piece y i):=by
 unfold keepW
 rw [List.getElem?_append_left (by simpa [textW] using h),textW_eq,textWk_get _ _ h]
theorem keepW_tail (j:Nat):(keepW n t y)[pieces y+j]? = ([(-1,[]),(((nextT t % 2*(n / 2):Nat):Int),headB (nextT t) y.length (sumN y)),(-1,[])]:List WN)[j]?:=by
 unfold keepW
 rw [List.getElem?_append_right (by simp [textW])]
 simp [textW]
theorem sure_text:∀ m,m<=pieces y->sureN (keepW n t y) m=0
 | 0,_=>rfl
 | m+1,h=>by
  rw [sureN,List.getD_eq_getElem?_getD,keepW_piece (show m<pieces y by omega)]
  simp only [Option.getD_some]
  rw [if_pos (by omega)]
  exact sure_text m (by omega)
theorem sure1:sureN (keepW n t y) (pieces y+1)=pieces y+1:=by
 rw [sureN,List.getD_eq_getElem?_getD,show pieces y=pieces y+0 from rfl,keepW_tail 0]
 simp
theorem sure2:sureN (keepW n t y) (pieces y+2)=pieces y+1:=by
 rw [sureN,List.getD_eq_getElem?_getD,keepW_tail 1]
 simp only [List.getElem?_cons_succ,List.getElem?_cons_zero,Option.getD_some]
 rw [if_pos (by omega)]
 exact sure1
theorem sure3:sureN (keepW n t y) (pieces y+3)=pieces y+3:=by
 rw [sureN,List.getD_eq_getElem?_getD,keepW_tail 2]
 simp
theorem take_text:(keepW n t y).take (pieces y+1)=textW (nextT t % 2*(n / 2)) y++[(-1,[])]:=by
 unfold keepW
 rw [List.take_append,List.take_of_length_le (by simp [textW])]
 simp [textW]
theorem allW_text (img:List UInt8):allW img ((keepW n t y).take (pieces y+1))=allW img (textW (nextT t % 2*(n / 2)) y):=by
 rw [take_text,allW_append]
 simp [allW,mkW]
theorem allW_keep (img:List UInt8):allW img (keepW n t y)=mkW (allW img (textW (nextT t % 2*(n / 2)) y)) (((nextT t % 2*(n / 2):Nat):Int),headB (nextT t) y.length (sumN y)) 128:=by
 unfold keepW
 rw [allW_append]
 simp [allW,mkW]
theorem lost_J (hH:Holds img n t x) (hy:y.length<=(n / 2 - 1)*128) (m:Nat) (hm:m<(keepW n t y).length+1) :
  ∃ J:Nat->List UInt8->Prop,J (sureN (keepW n t y) m) (allW img ((keepW n t y).take (sureN (keepW n t y) m))) /\
   (∀ i im k (hi:i<(keepW n t y).length),sureN (keepW n t y) m<=i->i<m->k<=128->J i im->J (i+1) (mkW im (keepW n t y)[i] k)) /\
   ∀ im,J m im->(Holds im n t x/\decide (m=(keepW n t y).length)=false)\/Holds im n (nextT t) y:=by
 rw [keepW_len] at hm
 have hp:=pieces_le hy
 have hkl:=keepW_len n t y
 have hold:Holds (allW img (textW (nextT t % 2*(n / 2)) y)) n t x:=by have:=head_torn hH hy (show 0<128 by decide);rwa [mkW_none] at this
 have hcase:m<=pieces y\/m=pieces y+1\/m=pieces y+2\/m=pieces y+3:=by omega
 rcases hcase with h | rfl | rfl | rfl
 ·rw [sure_text m h]
  refine ⟨fun _ im=>Holds im n t x,hH,fun i im k hi _ him _ hJ => ?_,fun im hJ=>.inl ⟨hJ,decide_eq_false (by omega)⟩⟩
  have e:(keepW n t y)[i]=(((nextT t % 2*(n / 2)+1+i:Nat):Int),piece y i):=by
   have:=keepW_piece (n:=n) (t:=t) (y:=y) (i:=i) (by omega)
   rw [List.getElem?_eq_getElem hi] at this
   exact Option.some.inj this
  rw [e]
  exact text_part hJ (piece_len y i) (by omega)
 ·rw [sure1,allW_text]
  exact ⟨fun _ im=>Holds im n t x,hold,fun i im k hi h1 h2=>by omega,fun im hJ=>.inl ⟨hJ,decide_eq_false (by omega)⟩⟩
 ·rw [sure2,allW_text]
  refine ⟨fun i im=>(i=pieces y+1/\im=allW img (textW (nextT t % 2*(n / 2)) y))\/(i=pieces y+2/\(Holds im n t x\/Holds im n (nextT t) y)),.inl ⟨rfl,rfl⟩,fun i im k hi h1 h2 hk hJ => ?_,fun im hJ => ?_⟩
  ·have hi1:i=pieces y+1:=by omega
   subst hi1
   rcases hJ with ⟨_,rfl⟩ | ⟨h,_⟩
   ·have e:(keepW n t y)[pieces y+1]=(((nextT t % 2*(n / 2):Nat):Int),headB (nextT t) y.length (sumN y)):=by
     have:=keepW_tail (n:=n) (t:=t) (y:=y) 1
     rw [List.getElem?_eq_getElem hi] at this
     exact Option.some.inj this
    rw [e]
    refine .inr ⟨rfl,?_⟩
    by_cases hk2:k<128
    ·exact .inl (head_torn hH hy hk2)
    ·obtain rfl:k=128:=by omega
     rw [<- allW_keep]
     exact .inr (keep_all hH hy)
   ·omega
  ·rcases hJ with ⟨h,_⟩ | ⟨_,h | h⟩
   ·omega
   ·exact .inl ⟨h,decide_eq_false (by omega)⟩
   ·exact .inr h
 ·rw [sure3,<- hkl,List.take_length]
  exact ⟨fun _ im=>Holds im n (nextT t) y,keep_all hH hy,fun i im k hi h1 h2=>by omega,fun im hJ=>.inr hJ⟩
end
section
open Go.RowKit Go.Shelf
def rep (L:Led) (m:Cm):List UInt8:=replyL (L.err m) (if L.err m=0 then L.tell m else [])
theorem be4_inj {a b:Int} (ha:0<=a/\a<=1000000) (hb:0<=b/\b<=1000000) (h:be4 a.toNat=be4 b.toNat):a=b:=by
 simp only [be4,List.cons.injEq,and_true] at h
 obtain ⟨_,h2,h3,h4⟩:=h
 have g2:=congrArg UInt8.toNat h2
 have g3:=congrArg UInt8.toNat h3
 have g4:=congrArg UInt8.toNat h4
 simp only [UInt8.toNat_ofNat'] at g2 g3 g4
 omega
theorem flat_inj:∀ {p q:List Int},(∀ z∈p,0<=z/\z<=1000000)->(∀ z∈q,0<=z/\z<=1000000)->p.flatMap (fun z=>be4 z.toNat)=q.flatMap (fun z=>be4 z.toNat)->p=q
 | [],[],_,_,_=>rfl
 | [],b::q,_,_,h=>by simp [be4] at h
 | a::p,[],_,_,h=>by simp [be4] at h
 | a::p,b::q,hp,hq,h=>by
  rw [List.flatMap_cons,List.flatMap_cons] at h
  obtain ⟨h1,h2⟩:=List.append_inj h rfl
  rw [be4_inj (hp a (by simp)) (hq b (by simp)) h1,flat_inj (fun z hz=>hp z (by simp [hz])) (fun z hz=>hq z (by simp [hz])) h2]
theorem rep_inj {L M:Led} {m:Cm} (hI:L.Inv) (hJ:M.Inv) (hf:L.kvs.length<7000) (hg:M.kvs.length<7000) (h:rep L m=rep M m):L.err m=M.err m/\(L.err m=0->L.tell m=M.tell m):=by
 have a1:=Led.err_range L m
 have a2:=Led.err_range M m
 unfold rep replyL at h
 rw [List.cons_append,List.cons_append,List.cons_append,List.cons_append,List.cons_append,List.cons_append] at h
 simp only [List.cons.injEq,List.nil_append] at h
 obtain ⟨h1,_,_,h4⟩:=h
 have g1:=congrArg UInt8.toNat h1
 simp only [UInt8.toNat_ofNat'] at g1
 have he:L.err m=M.err m:=by omega
 refine ⟨he,fun h0 => ?_⟩
 rw [if_pos h0,if_pos (by rw [<- he];exact h0)] at h4
 exact flat_inj (Led.tell_range hI hf) (Led.tell_range hJ hg) h4
theorem chg_some (f:PT->PT) (n:Nat):∀ (l:List TN) (L:Led),(L.tube n).isSome=true->((L.chg f l).tube n).isSome=true
 | [],_,h=>h
 | t::l,L,h=>by
  refine chg_some f n l (L.putT t.1 (f t.2)) ?_
  rw [Led.putT_tube]
  split
  ·rfl
  ·exact h
theorem putT_some {L:Led} {n k:Nat} {q:PT} (h:(L.tube n).isSome=true):((L.putT k q).tube n).isSome=true:=by
 rw [Led.putT_tube]
 split
 ·rfl
 ·exact h
theorem pourL_at (L:Led) (m:Cm) (n:Nat):(L.pourL m).tube n=(((L.putT m.t ((L.tubeD m.t).less m.v)).putT m.o (((L.putT m.t ((L.tubeD m.t).less m.v)).tubeD m.o).more m.v))).tube n:=rfl
theorem act_some {L:Led} {m:Cm} {n:Nat} (h:(L.tube n).isSome=true):((L.act m).tube n).isSome=true:=by
 by_cases h1:m.k=1
 ·rw [Led.act,if_pos h1];exact h
 by_cases h2:m.k=2
 ·rw [Led.act,if_neg h1,if_pos h2];exact putT_some h
 by_cases h3:m.k=3
 ·rw [Led.act,if_neg h1,if_neg h2,if_pos h3];exact putT_some h
 by_cases h4:m.k=4
 ·rw [Led.act,if_neg h1,if_neg h2,if_neg h3,if_pos h4];rw [pourL_at];exact putT_some (putT_some (putT_some h))
 by_cases h5:m.k=5
 ·rw [Led.act,if_neg h1,if_neg h2,if_neg h3,if_neg h4,if_pos h5];rw [pourL_at];exact putT_some (putT_some h)
 by_cases h6:m.k=6
 ·rw [Led.act,if_neg h1,if_neg h2,if_neg h3,if_neg h4,if_neg h5,if_pos h6];exact putT_some h
 by_cases h7:m.k=7
 ·rw [Led.act,if_neg h1,if_neg h2,if_neg h3,if_neg h4,if_neg h5,if_neg h6,if_pos h7];exact putT_some h
 by_cases h8:m.k=8
 ·rw [Led.act,if_neg h1,if_neg h2,if_neg h3,if_neg h4,if_neg h5,if_neg h6,if_neg h7,if_pos h8];exact putT_some h
 by_cases h9:m.k=9
 ·rw [Led.act,if_neg h1,if_neg h2,if_neg h3,if_neg h4,if_neg h5,if_neg h6,if_neg h7,if_neg h8,if_pos h9];exact chg_some _ _ _ _ h
 by_cases h10:m.k=10
 ·rw [Led.act,if_neg h1,if_neg h2,if_neg h3,if_neg h4,if_neg h5,if_neg h6,if_neg h7,if_neg h8,if_neg h9,if_pos h10];exact chg_some _ _ _ _ h
 by_cases h11:m.k=11
 ·rw [Led.act,if_neg h1,if_neg h2,if_neg h3,if_neg h4,if_neg h5,if_neg h6,if_neg h7,if_neg h8,if_neg h9,if_neg h10,if_pos h11];exact chg_some _ _ _ _ h
 rw [Led.act,if_neg h1,if_neg h2,if_neg h3,if_neg h4,if_neg h5,if_neg h6,if_neg h7,if_neg h8,if_neg h9,if_neg h10,if_neg h11];exact h
theorem act_bs {L:Led} {m:Cm} (h1:m.k≠1):(L.act m).bs=L.bs:=by
 by_cases h2:m.k=2
 ·rw [Led.act,if_neg h1,if_pos h2];rfl
 by_cases h3:m.k=3
 ·rw [Led.act,if_neg h1,if_neg h2,if_pos h3];rfl
 by_cases h4:m.k=4
 ·rw [Led.act,if_neg h1,if_neg h2,if_neg h3,if_pos h4];rfl
 by_cases h5:m.k=5
 ·rw [Led.act,if_neg h1,if_neg h2,if_neg h3,if_neg h4,if_pos h5];rfl
 by_cases h6:m.k=6
 ·rw [Led.act,if_neg h1,if_neg h2,if_neg h3,if_neg h4,if_neg h5,if_pos h6];rfl
 by_cases h7:m.k=7
 ·rw [Led.act,if_neg h1,if_neg h2,if_neg h3,if_neg h4,if_neg h5,if_neg h6,if_pos h7];rfl
 by_cases h8:m.k=8
 ·rw [Led.act,if_neg h1,if_neg h2,if_neg h3,if_neg h4,if_neg h5,if_neg h6,if_neg h7,if_pos h8];rfl
 by_cases h9:m.k=9
 ·rw [Led.act,if_neg h1,if_neg h2,if_neg h3,if_neg h4,if_neg h5,if_neg h6,if_neg h7,if_neg h8,if_pos h9];exact (Led.chg_bs _ _ _).1
 by_cases h10:m.k=10
 ·rw [Led.act,if_neg h1,if_neg h2,if_neg h3,if_neg h4,if_neg h5,if_neg h6,if_neg h7,if_neg h8,if_neg h9,if_pos h10];exact (Led.chg_bs _ _ _).1
 by_cases h11:m.k=11
 ·rw [Led.act,if_neg h1,if_neg h2,if_neg h3,if_neg h4,if_neg h5,if_neg h6,if_neg h7,if_neg h8,if_neg h9,if_neg h10,if_pos h11];exact (Led.chg_bs _ _ _).1
 rw [Led.act,if_neg h1,if_neg h2,if_neg h3,if_neg h4,if_neg h5,if_neg h6,if_neg h7,if_neg h8,if_neg h9,if_neg h10,if_neg h11]
structure Agree (L M:Led):Prop where
 cont:∀ c,1<=c->c<=9->rep L (Led.cmCont c)=rep M (Led.cmCont c)
 show_:∀ t∈M.ts,rep L (cmShow t.1)=rep M (cmShow t.1)
theorem showQ_inj {p q:PT} (h:showQ p=showQ q):p=q:=by
 simp only [showQ,List.cons.injEq,and_true] at h
 obtain ⟨h1,h2,h3,h4,h5,h6,h7,h8,h9,h10⟩:=h
 cases p;cases q
 simp only at *
 simp only [PT.mk.injEq]
 omega
theorem err_show (L:Led) (n:Nat):L.err (cmShow n)=if (L.tube n).isSome=true then 0 else 4:=by
 cases h:L.tube n <;> simp [Led.err,Led.asksT,Led.asksO,Led.asksD,Led.asksB,cmShow,h,askAll,askI]
theorem err_cont (L:Led) (b:Nat):L.err (Led.cmCont b)=if L.sideN b=0 then 9 else 0:=by
 by_cases h:L.sideN b=0
 ·simp only [Led.err,Led.asksT,Led.asksO,Led.asksD,Led.asksB,Led.cmCont]
  simp [askAll,askI,h]
 ·simp only [Led.err,Led.asksT,Led.asksO,Led.asksD,Led.asksB,Led.cmCont]
  simp [askAll,askI,h]
theorem tell_show (L:Led) (n:Nat):L.tell (cmShow n)=showQ (L.tubeD n):=by simp [Led.tell,cmShow]
theorem agree_tube {L M:Led} (hI:L.Inv) (hJ:M.Inv) (hf:L.kvs.length<7000) (hg:M.kvs.length<7000) (h:Agree L M) {n:Nat} {q:PT} (hq:M.tube n=some q):L.tube n=some q:=by
 have hm:=(Led.tube_mem hJ.ok).1 hq
 obtain ⟨h1,h2⟩:=rep_inj hI hJ hf hg (h.show_ _ hm)
 rw [err_show,err_show,hq] at h1
 simp only [Option.isSome_some,if_true] at h1
 have hs:(L.tube n).isSome=true:=by
  cases hb:(L.tube n).isSome with
  | true=>rfl
  | false=>rw [hb] at h1;simp at h1
 have h3:=h2 (by rw [err_show,if_pos hs])
 rw [tell_show,tell_show,Led.tubeD_some hq] at h3
 obtain ⟨p,hp,hp2⟩:=Led.tube_of hs
 rw [hp,<- hp2,showQ_inj h3]
theorem agree_eq {L:Led} {m:Cm} (hI:L.Inv) (hm:m.Ok) (lim:Nat) (hl:lim<=32) (hf:L.kvs.length<=lim) (hJ:(L.stepL lim m).Inv) (h:Agree L (L.stepL lim m)):L.stepL lim m=L:=by
 unfold Led.stepL at *
 by_cases hc:L.err m=0/\(L.act m).kvs.length<=lim
 ·rw [if_pos hc] at *
  have hf1:L.kvs.length<7000:=by omega
  have hg1:(L.act m).kvs.length<7000:=by omega
  have htube:∀ n,(L.act m).tube n=L.tube n:=fun n=>by
   cases hq:(L.act m).tube n with
   | some q=>exact (agree_tube hI hJ hf1 hg1 h hq).symm
   | none =>
    cases hp:L.tube n with
    | none=>rfl
    | some p=>have:=act_some (m:=m) (show (L.tube n).isSome=true by rw [hp];rfl);rw [hq] at this;cases this
  have hts:(L.act m).ts=L.ts:=by
   refine eq_of_pw (key:=fun t:TN=>t.1) hJ.ok.ts hI.ok.ts (fun t => ?_)
   rw [<- Led.tube_mem hJ.ok (n:=t.1) (q:=t.2),<- Led.tube_mem hI.ok (n:=t.1) (q:=t.2),htube]
  have hk1:m.k≠1:=fun e=>by
   have h0:L.sideN m.b=0:=by
    have:=hc.1
    simp only [Led.err,Led.asksT,Led.asksO,Led.asksD,Led.asksB] at this
    simp [e,askAll,askI] at this
    omega
   have hb:=hm.b1 (by omega)
   have hn:=hm.n1 (by omega)
   have h1:=(rep_inj hI hJ hf1 hg1 (h.cont m.b hb hm.b)).1
   have h2:(L.act m).sideN m.b=m.n:=by
    rw [Led.act,if_pos e]
    unfold Led.sideN
    rw [Led.box_insB,if_pos rfl]
    rfl
   rw [err_cont,err_cont,if_pos h0,if_neg (by omega)] at h1
   cases h1
  have hk4:m.k≠4:=fun e=>by
   have h0:=(Led.no4 hc.1 e).2.2.2.2
   have h1:=htube m.o
   rw [Led.act,if_neg (by omega),if_neg (by omega),if_neg (by omega),if_pos e,pourL_at,Led.putT_tube,if_pos rfl] at h1
   rw [<- h1] at h0
   cases h0
  have hk5:m.k≠5:=fun e=>by
   obtain ⟨g1,g2,_,g4,_⟩:=Led.no5 hc.1 e
   have h1:=htube m.t
   rw [Led.act,if_neg (by omega),if_neg (by omega),if_neg (by omega),if_neg (by omega),if_pos e,pourL_at,Led.putT_tube,if_neg (by omega),Led.putT_tube,if_pos rfl] at h1
   obtain ⟨p,hp,hp2⟩:=Led.tube_of g4
   rw [hp] at h1
   have h2:=congrArg PT.left (Option.some.inj h1)
   rw [hp2] at h2 g2
   have:=hm.v1 (by omega)
   simp only [PT.less] at h2
   omega
  have hps:=Led.act_ps (L:=L) hk4 hk5
  have hbs:=act_bs (L:=L) hk1
  generalize L.act m=M at *
  cases M;cases L
  simp only at hts hps hbs
  rw [hts,hps,hbs]
 ·rw [if_neg hc]
end
section
open Go.RowKit Go.Shelf
def IsB (e:Ending) (P:Prop):Prop:=∃ r:Bool,e=.returned (.bool r)/\(r=true->P)
structure TM2 (w:World) (l:Nat) (d:Nat×Nat) (b lim cb:Nat) (L M:Led) (vt vp:Value) (k:Bk) (m:Cm) (wr:World):Prop where
 led:LedgerAt wr l d L lim
 bk:BkF 0 wr b vt vp M k
 kp:Keeps (fun g=>g=l) w wr
 has:Has wr cb m.ints
 lt:cb<wr.heap.size
 ne:¬ cb=l
theorem TM2.below {w wr w':World} {l:Nat} {d:Nat×Nat} {b lim cb:Nat} {L M:Led} {vt vp:Value} {k:Bk} {m:Cm} (h:TM2 w l d b lim cb L M vt vp k m wr) (hb:Below wr.heap.size wr w'):TM2 w l d b lim cb L M vt vp k m w' :=
 ⟨h.led.below hb,h.bk.below hb,h.kp.trans (below_toKeeps hb _),h.has.below hb h.lt,Nat.lt_of_lt_of_le h.lt hb.size,h.ne⟩
theorem TM2.done {w wr w':World} {l:Nat} {d:Nat×Nat} {b lim cb:Nat} {L M:Led} {vt vp:Value} {k:Bk} {m:Cm} (h:TM2 w l d b lim cb L M vt vp k m wr) (hl:LedgerAt w' l d L lim) (hk:Keeps (fun g=>g=l) wr w'):TM2 w l d b lim cb L M vt vp k m w':=by
 exact ⟨hl,h.bk.keepsN (S:=fun g=>g=l) (fun x hx=>by rw [hx];exact h.led.noBk) hk,h.kp.trans hk,has_keeps h.has hk h.lt h.ne,Nat.lt_of_lt_of_le h.lt hk.size,h.ne⟩
set_option maxRecDepth 8000 in
set_option maxHeartbeats 4000000 in
theorem tells2 (l:Nat) (d:Nat×Nat) (b lim:Nat) (L M:Led) (vt vp:Value) (k:Bk) (m:Cm) (hm:encB m.ints=true) (hk:12<=m.k) (w:World) (hA:LedgerAt w l d L lim) (hI:L.Inv) (hd:16<=d.1/\d.1<=256) (hJ:M.Inv) (hfM:M.kvs.length<7000) (hF:BkF 0 w b vt vp M k) :
  Calls prog 39 #[.pointer (some ⟨l,0,none⟩),.pointer (some ⟨b,0,none⟩),m.val] w fun e w'=>IsB e (rep L m=rep M m)/\LedgerAt w' l d L lim/\BkF 0 w' b vt vp M k/\Keeps (fun g=>g=l) w w':=by
 have hmo:m.Ok:=by have:=Cm.of_ok hm;have e:Cm.of m.ints=m:=rfl;rwa [e] at this
 have HEn:=hid (fun u=>refEncode_any m.ints u)
 simp only [Cm.ints] at HEn
 have HDo:=hid (fun u (hu:LedgerAt u l d L lim)=>ask_do l d L lim m hm hk hI hd u hu)
 have HEr:=hid (fun u (hu:BkF 0 u b vt vp M k)=>berr_any ⟨vt,vp,k,hu⟩ hJ hmo)
 have HQ:=hid (fun u (hu:BkF 0 u b vt vp M k) (he:M.err m=0)=>bask_any hu hJ hmo hk he)
 have hC0:=Cm.has_new w 31 m
 have hb0:Below w.heap.size w (w.alloc (.cells #[.int .i64 m.k,.int .i64 m.t,.int .i64 m.o,.int .i64 m.d,.int .i64 m.v,.int .i64 m.b,.int .i64 m.x,.int .i64 m.y,.int .i64 m.n] 31)):=(Below.refl _ w).alloc nlr _
 have hlt0:=has_new_lt w m
 have hll:=hA.lt
 have H0:=hid (show TM2 w l d b lim w.heap.size L M vt vp k m _ from ⟨hA.below hb0,hF.below hb0,below_toKeeps hb0 _,hC0,hlt0,by omega⟩)
 have HI:=hid (And.intro hJ hfM)
 obtain ⟨RL,hRL⟩:∃ RL,RL=(⟨(rep L m).toArray⟩:ByteArray):=⟨_,rfl⟩
 have HRL:=hid hRL
 unfold rep at hRL
 rw [<- hRL] at HDo
 clear hRL
 generalize (⟨(encS m.ints).toArray⟩:ByteArray)=fr at *
 unfold Cm.val at *
 clear hA hF hb0 hI hJ hfM hm hd
 obtain ⟨c0,c1,c2,c3,c4,c5,c6,c7,c8⟩:=all9.1 hC0.1
 simp only [Cm.ints] at c0 c1 c2 c3 c4 c5 c6 c7 c8
 clear hC0 hlt0
 by_cases he:M.err m=0
 ·have HRM:=hid (show rep M m=replyL ((0:Nat):Int) (M.tell m) by unfold rep;rw [if_pos he,he];rfl)
  go_enter func39,ntmps39
  go_wp2_with fail
  refine (HEn.out _).mono ?_
  clear HEn
  rintro e w1 ⟨rfl,hb1⟩
  have H1:=hid (H0.out.below hb1)
  clear H0 hb1 c0 c1 c2 c3 c4 c5 c6 c7 c8
  obtain ⟨c0,c1,c2,c3,c4,c5,c6,c7,c8⟩:=all9.1 H1.out.has.1
  simp only [Cm.ints] at c0 c1 c2 c3 c4 c5 c6 c7 c8
  generalize w.heap.size=cb at *
  go_wp2_with fail
  refine (HDo.out _ H1.out.led).mono ?_
  clear HDo
  rintro e w2 ⟨rfl,hL2,hk2⟩
  have H2:=hid (H1.out.done hL2 hk2)
  clear H1 hL2 hk2 c0 c1 c2 c3 c4 c5 c6 c7 c8
  obtain ⟨c0,c1,c2,c3,c4,c5,c6,c7,c8⟩:=all9.1 H2.out.has.1
  simp only [Cm.ints] at c0 c1 c2 c3 c4 c5 c6 c7 c8
  go_wp2_with fail
  refine (HEr.out _ H2.out.bk).mono ?_
  clear HEr
  rintro e w3 ⟨rfl,hb3⟩
  have H3:=hid (H2.out.below hb3)
  clear H2 hb3 c0 c1 c2 c3 c4 c5 c6 c7 c8
  obtain ⟨c0,c1,c2,c3,c4,c5,c6,c7,c8⟩:=all9.1 H3.out.has.1
  simp only [Cm.ints] at c0 c1 c2 c3 c4 c5 c6 c7 c8
  obtain ⟨hJ,hfM⟩:=HI.out
  clear HI
  have HQ3:=hid (HQ.out _ H3.out.bk he)
  have HTr:=hid (And.intro (Led.tell_len (m:=m) hfM) (Led.tell_range (m:=m) hJ hfM))
  rw [he]
  clear HQ hJ hfM he
  go_wp2_with fail
  refine HQ3.out.mono ?_
  clear HQ3
  rintro e w4 ⟨v4,rfl,hi4,hb4⟩
  have H4:=hid (H3.out.below hb4)
  have HR:=hid (reply_any 0 v4 (M.tell m) w4 (by omega) hi4 HTr.out.1 (fun z hz=>by have:=HTr.out.2 z hz;omega))
  clear H3 hi4 hb4 HTr c0 c1 c2 c3 c4 c5 c6 c7 c8
  go_wp2_with fail
  refine HR.out.mono ?_
  clear HR
  rintro e w5 ⟨rfl,hb5⟩
  have H5:=hid (H4.out.below hb5)
  clear H4 hb5
  obtain ⟨RM,hRM⟩:∃ RM,RM=(⟨(replyL ((0:Nat):Int) (M.tell m)).toArray⟩:ByteArray):=⟨_,rfl⟩
  rw [<- hRM]
  have HR2:=hid hRM
  clear hRM
  by_cases heq:RL=RM
  ·subst heq
   go_wp2
   go_ret
   exact ⟨⟨true,rfl,fun _=>bytes_of (by rw [HRM.out,<- HR2.out,<- HRL.out])⟩,H5.out.led,H5.out.bk,H5.out.kp⟩
  ·have hne:¬ RL.toList=RM.toList:=fun e=>heq (by rw [ByteArray.toList_eq,ByteArray.toList_eq] at e;exact ByteArray.ext (Array.toList_inj.1 e))
   clear heq
   go_wp2
   go_ret
   exact ⟨⟨false,rfl,fun e=>by cases e⟩,H5.out.led,H5.out.bk,H5.out.kp⟩
 ·have HRM:=hid (show rep M m=replyL (M.err m) [] by unfold rep;rw [if_neg he])
  go_enter func39,ntmps39
  go_wp2_with fail
  refine (HEn.out _).mono ?_
  clear HEn
  rintro e w1 ⟨rfl,hb1⟩
  have H1:=hid (H0.out.below hb1)
  clear H0 hb1 c0 c1 c2 c3 c4 c5 c6 c7 c8
  obtain ⟨c0,c1,c2,c3,c4,c5,c6,c7,c8⟩:=all9.1 H1.out.has.1
  simp only [Cm.ints] at c0 c1 c2 c3 c4 c5 c6 c7 c8
  generalize w.heap.size=cb at *
  go_wp2_with fail
  refine (HDo.out _ H1.out.led).mono ?_
  clear HDo
  rintro e w2 ⟨rfl,hL2,hk2⟩
  have H2:=hid (H1.out.done hL2 hk2)
  clear H1 hL2 hk2 c0 c1 c2 c3 c4 c5 c6 c7 c8
  obtain ⟨c0,c1,c2,c3,c4,c5,c6,c7,c8⟩:=all9.1 H2.out.has.1
  simp only [Cm.ints] at c0 c1 c2 c3 c4 c5 c6 c7 c8
  go_wp2_with fail
  refine (HEr.out _ H2.out.bk).mono ?_
  clear HEr
  rintro e w3 ⟨rfl,hb3⟩
  have H3:=hid (H2.out.below hb3)
  clear H2 hb3 c0 c1 c2 c3 c4 c5 c6 c7 c8
  obtain ⟨c0,c1,c2,c3,c4,c5,c6,c7,c8⟩:=all9.1 H3.out.has.1
  simp only [Cm.ints] at c0 c1 c2 c3 c4 c5 c6 c7 c8
  obtain ⟨hJ,hfM⟩:=HI.out
  clear HI
  have her:=Led.err_range M m
  have HR:=hid (fun u=>reply_any (M.err m).toNat (.slice none 0 0) [] u (by omega) (.inr ⟨rfl,rfl⟩) (by simp) (fun z hz=>by cases hz))
  have hee:((M.err m).toNat:Int)=M.err m:=by omega
  rw [hee] at HR
  have h0:(M.err m == 0)=false:=beq_eq_false_iff_ne.2 he
  clear HQ hJ hfM hee he
  generalize M.err m=er at *
  go_wp2_with fail
  refine (HR.out _).mono ?_
  clear HR
  rintro e w5 ⟨rfl,hb5⟩
  have H5:=hid (H3.out.below hb5)
  clear H3 hb5 c0 c1 c2 c3 c4 c5 c6 c7 c8
  obtain ⟨RM,hRM⟩:∃ RM,RM=(⟨(replyL er []).toArray⟩:ByteArray):=⟨_,rfl⟩
  rw [<- hRM]
  have HR2:=hid hRM
  clear hRM
  by_cases heq:RL=RM
  ·subst heq
   go_wp2
   go_ret
   exact ⟨⟨true,rfl,fun _=>bytes_of (by rw [HRM.out,<- HR2.out,<- HRL.out])⟩,H5.out.led,H5.out.bk,H5.out.kp⟩
  ·have hne:¬ RL.toList=RM.toList:=fun e=>heq (by rw [ByteArray.toList_eq,ByteArray.toList_eq] at e;exact ByteArray.ext (Array.toList_inj.1 e))
   clear heq
   go_wp2
   go_ret
   exact ⟨⟨false,rfl,fun e=>by cases e⟩,H5.out.led,H5.out.bk,H5.out.kp⟩
end
section
open Go.RowKit Go.Shelf
structure SB (w:World) (l:Nat) (d:Nat×Nat) (b lim:Nat) (L M:Led) (vt vp:Value) (k:Bk) (wr:World):Prop where
 led:LedgerAt wr l d L lim
 bk:BkF 0 wr b vt vp M k
 kp:Keeps (fun g=>g=l) w wr
set_option maxRecDepth 8000 in
set_option maxHeartbeats 4000000 in
theorem same2 (l:Nat) (d:Nat×Nat) (b lim:Nat) (L M:Led) (w:World) (hA:LedgerAt w l d L lim) (hI:L.Inv) (hd:16<=d.1/\d.1<=256) (hJ:M.Inv) (hfM:M.kvs.length<7000) (hX:BkX 0 w b M) :
  Calls prog 26 #[.pointer (some ⟨l,0,none⟩),.pointer (some ⟨b,0,none⟩)] w fun e w'=>IsB e (Agree L M)/\LedgerAt w' l d L lim/\BkX 0 w' b M/\Keeps (fun g=>g=l) w w':=by
 obtain ⟨vt,vp,k,hF⟩:=hX
 obtain ⟨oa,cap,rfl,_⟩:=hF.bk.tubes.form
 have H0:=hid (show SB w l d b lim L M _ vp k w from ⟨hA,hF,Keeps.refl _ _⟩)
 have HT:=hid (fun m hm hk u (hu:SB w l d b lim L M (.slice oa k.tubes.length cap) vp k u)=>tells2 l d b lim L M _ vp k m hm hk u hu.led hI hd hJ hfM hu.bk)
 have HI:=hid hJ
 clear hA hF hI hd hJ hfM
 go_enter func26,ntmps26
 go_wp2_with fail
 go_loopw [5] (fun i wr=>∃ c:Nat,1<=c/\c<=10/\i=.int .i64 c/\(∀ c',1<=c'->c'<c->rep L (Led.cmCont c')=rep M (Led.cmCont c'))/\SB w l d b lim L M (.slice oa k.tubes.length cap) vp k wr) (fun i _=>10 - (intOf i).toNat)
 case atStart=>exact ⟨1,by omega,by omega,rfl,(fun c' h1 h2=>by omega),H0.out⟩
 case round =>
  clear H0
  obtain ⟨c,hc1,hc10,rfl,hcs,hS⟩:=hrel
  have HCs:=hid hcs
  clear hcs
  by_cases hc:c<=9
  ·have hci:(c:Int)<=9:=by omega
   have HC:=hid (HT.out (Led.cmCont c) (enc_cont ⟨hc1,hc⟩) (by show 12<=13;omega) _ hS)
   unfold Cm.val Led.cmCont at HC
   have HS:=hid hS
   clear hS
   go_wp2_with fail
   refine HC.out.mono ?_
   clear HC
   rintro e w2 ⟨⟨r,rfl,hr⟩,h1,h2,h3⟩
   have HS2:=hid (show SB w l d b lim L M (.slice oa k.tubes.length cap) vp k w2 from ⟨h1,h2,HS.out.kp.trans h3⟩)
   have HR:=hid hr
   clear HS h1 h2 h3 hr
   cases r with
   | true =>
    go_wp2_with fail
    exact ⟨⟨c+1,by omega,by omega,by go_num,(fun c' g1 g2=>by
     rcases Nat.lt_or_ge c' c with g | g
     ·exact HCs.out c' g1 g
     ·obtain rfl:c'=c:=by omega
      exact HR.out trivial),HS2.out⟩,by simp [intOf];omega⟩
   | false =>
    go_wp2
    go_ret
    exact ⟨⟨false,rfl,fun e=>by cases e⟩,HS2.out.led,⟨_,_,_,HS2.out.bk⟩,HS2.out.kp⟩
  ·have hci:¬ (c:Int)<=9:=by omega
   have HS:=hid hS
   have hfew:=hS.bk.bk.few.1
   clear hS
   go_wp2_with fail
   go_loopw [7] (fun i wr=>∃ j:Nat,j<=k.tubes.length/\i=.int .i64 j/\(∀ j' (hj':j'<M.ts.length),j'<j->rep L (cmShow (M.ts[j']).1)=rep M (cmShow (M.ts[j']).1))/\SB w l d b lim L M (.slice oa k.tubes.length cap) vp k wr) (fun i _=>k.tubes.length - (intOf i).toNat)
   case atStart=>exact ⟨0,by omega,rfl,(fun j' _ h=>by omega),HS.out⟩
   case round =>
    clear HS
    obtain ⟨j,hj,rfl,hjs,hS⟩:=hrel
    have HJs:=hid hjs
    clear hjs
    have hct:=hS.bk.bk.ct
    by_cases hjl:j<k.tubes.length
    ·have hji:(j:Int)<(k.tubes.length:Int):=by omega
     obtain ⟨g,rfl,hn,hcap,hgl,t0,t1,_⟩:=hS.bk.bk.tube (m:=j) hjl
     have hjl':j<M.ts.length:=by have:=hS.bk.sim.tubes;rw [this,List.length_map] at hjl;exact hjl
     have e1:k.tubes[j]=tF M.ts[j]:=by have:=hS.bk.sim.at hjl';rwa [getD_T hjl] at this
     rw [e1] at t0 t1
     simp only [tF] at t0 t1
     have hg:=HI.out.ok.t1 _ (List.getElem_mem hjl')
     have hid1:1<=(M.ts[j]).1/\(M.ts[j]).1<=999:=⟨hg.1,hg.2.1⟩
     have hdn:=hg.2.2.donor
     have HG:=hid (And.intro hid1 hdn)
     have H1:=hid (HT.out (cmShow (M.ts[j]).1) (enc_show hid1) (by show 12<=12;omega) _ hS)
     unfold Cm.val cmShow at H1
     have HS:=hid hS
     have HE1:=hid (show k.tubes[j] 1=((M.ts[j]).2.donor:Int) by rw [e1];rfl)
     clear hS hg hid1 hdn e1
     generalize htn:(M.ts[j]).1=tn at *
     have HTn:=hid htn
     clear htn
     generalize (M.ts[j]).2.donor=td at *
     go_wp2_with fail
     refine H1.out.mono ?_
     clear H1
     rintro e w2 ⟨⟨r1,rfl,hr1⟩,h1,h2,h3⟩
     have HR1:=hid hr1
     clear hr1
     have hS2:SB w l d b lim L M (.slice (some ⟨g,0,none⟩) k.tubes.length cap) vp k w2:=⟨h1,h2,HS.out.kp.trans h3⟩
     have hct:=hS2.bk.bk.ct
     obtain ⟨g',eg,hn2,hcap2,hgl2,u0,u1,-⟩:=hS2.bk.bk.tube (m:=j) hjl
     injection eg with eg
     injection eg with eg _ _
     subst eg
     rw [HE1.out] at u1
     have HS2:=hid hS2
     have H2:=hid (HT.out (Led.cmOf td) (enc_of1 HG.out.2) (by show 12<=14;omega) _ hS2)
     unfold Cm.val Led.cmOf at H2
     clear HS h1 h2 h3 hS2 t0 t1 u0 hn2
     go_wp2_with fail
     refine H2.out.mono ?_
     clear H2
     rintro e w3 ⟨⟨r2,rfl,-⟩,h1,h2,h3⟩
     have hS3:SB w l d b lim L M (.slice (some ⟨g,0,none⟩) k.tubes.length cap) vp k w3:=⟨h1,h2,HS2.out.kp.trans h3⟩
     have HS3:=hid hS3
     have H3:=hid (HT.out (Led.cmUp tn) (enc_up HG.out.1) (by show 12<=15;omega) _ hS3)
     unfold Cm.val Led.cmUp at H3
     clear HS2 hct u1 h1 h2 h3 hS3
     go_wp2_with fail
     refine H3.out.mono ?_
     clear H3
     rintro e w4 ⟨⟨r3,rfl,-⟩,h1,h2,h3⟩
     have hS4:SB w l d b lim L M (.slice (some ⟨g,0,none⟩) k.tubes.length cap) vp k w4:=⟨h1,h2,HS3.out.kp.trans h3⟩
     have HS4:=hid hS4
     have H4:=hid (HT.out (Led.cmDown tn) (enc_down HG.out.1) (by show 12<=16;omega) _ hS4)
     unfold Cm.val Led.cmDown at H4
     clear HS3 h1 h2 h3 hS4
     go_wp2_with fail
     refine H4.out.mono ?_
     clear H4
     rintro e w5 ⟨⟨r4,rfl,-⟩,h1,h2,h3⟩
     have HS5:=hid (show SB w l d b lim L M (.slice (some ⟨g,0,none⟩) k.tubes.length cap) vp k w5 from ⟨h1,h2,HS4.out.kp.trans h3⟩)
     clear HS4 h1 h2 h3
     have HJ5:=hid (show r1=true->∀ j' (hj':j'<M.ts.length),j'<j+1->rep L (cmShow (M.ts[j']).1)=rep M (cmShow (M.ts[j']).1) from fun e j' hj' g=>by
      rcases Nat.lt_or_ge j' j with g' | g'
      ·exact HJs.out j' hj' g'
      ·obtain rfl:j'=j:=by omega
       rw [HTn.out];exact HR1.out e)
     clear HR1 HJs HTn
     cases r1 with
     | false=>(go_wp2;go_ret;exact ⟨⟨false,rfl,fun e=>by cases e⟩,HS5.out.led,⟨_,_,_,HS5.out.bk⟩,HS5.out.kp⟩)
     | true =>
      cases r2 with
      | false=>(go_wp2;go_ret;exact ⟨⟨false,rfl,fun e=>by cases e⟩,HS5.out.led,⟨_,_,_,HS5.out.bk⟩,HS5.out.kp⟩)
      | true =>
       cases r3 with
       | false=>(go_wp2;go_ret;exact ⟨⟨false,rfl,fun e=>by cases e⟩,HS5.out.led,⟨_,_,_,HS5.out.bk⟩,HS5.out.kp⟩)
       | true =>
        cases r4 with
        | false=>(go_wp2;go_ret;exact ⟨⟨false,rfl,fun e=>by cases e⟩,HS5.out.led,⟨_,_,_,HS5.out.bk⟩,HS5.out.kp⟩)
        | true =>
         go_wp2_with fail
         exact ⟨⟨j+1,by omega,by go_num,HJ5.out trivial,HS5.out⟩,by simp [intOf];omega⟩
    ·have hji:¬ (j:Int)<(k.tubes.length:Int):=by omega
     have HS:=hid hS
     clear hS
     go_wp2
     go_ret
     refine ⟨⟨true,rfl,fun _=>⟨fun c' g1 g2=>HCs.out c' g1 (by omega),fun t ht => ?_⟩⟩,HS.out.led,⟨_,_,_,HS.out.bk⟩,HS.out.kp⟩
     obtain ⟨j',hj',rfl⟩:=List.getElem_of_mem ht
     exact HJs.out j' hj' (by have:=HS.out.bk.sim.tubes;rw [this,List.length_map] at hjl;omega)
end
section
open Go.RowKit Go.Shelf
set_option maxRecDepth 8000 in
set_option maxHeartbeats 2000000 in
theorem found_any (d g n t:Nat) (img:List UInt8) (X:Led) (a0 a1 a2 a3:Int) (w:World) (hD:DiskH w d g n img) (hH:Holds img n t X.text) (hS:X.Sound) (hf:X.kvs.length<=n / 8) :
  Calls prog 60 #[.pointer (some ⟨d,0,none⟩),.agg #[.int .i64 a0,.int .i64 a1,.int .i64 a2,.int .i64 a3]] w fun e w'=>∃ l,e=.returned (.pointer (some ⟨l,0,none⟩))/\LedgerAt w' l (n,t) X (n / 8)/\w.heap.size<=l/\Below w.heap.size w w':=by
 have hb1:Below w.heap.size w (w.alloc (.cells #[.int .i64 a0,.int .i64 a1,.int .i64 a2,.int .i64 a3] 68)):=bal
 have hD1:=hD.below hb1
 obtain ⟨cap,hc1,hc2,c0⟩:=hD1.cell
 have hconv:=conv_disk hD1 cap
 have HO:=hid (open_holds n t img X hH hS hf (w.alloc (.cells #[.int .i64 a0,.int .i64 a1,.int .i64 a2,.int .i64 a3] 68)))
 have HF:=hid (fun u=>fits_nil d u)
 have Hb:=hid hb1
 clear hD hD1 hH hS hf hc1 hc2 hb1
 generalize n*128=N at *
 generalize (⟨img.toArray⟩:ByteArray)=ba at *
 go_enter func60,ntmps60
 go_wp2_with fail
 refine HO.out.mono ?_
 clear HO hconv c0
 rintro e w1 ⟨l,rfl,hA1,hl,hb1⟩
 have HX:=hid (And.intro hA1 (And.intro hl hb1))
 clear hA1 hl hb1
 go_wp2_with fail
 refine (HF.out _).mono ?_
 clear HF
 rintro e w2 ⟨rfl,rfl⟩
 go_wp2
 go_ret
 exact ⟨l,rfl,HX.out.1,by have:=Hb.out.size;have:=HX.out.2.1;omega,Hb.out.trans (HX.out.2.2.mono Hb.out.size)⟩
end
section
open Go.RowKit Go.Shelf
set_option maxRecDepth 8000 in
set_option maxHeartbeats 2000000 in
theorem lost_nil (d:Nat) (L:Nat->Int) (hL:I64 (L 0)) (w:World) :
  Calls prog 59 #[.pointer (some ⟨d,0,none⟩),.slice none 0 0,.agg #[.int .i64 (L 0),.int .i64 (L 1),.int .i64 (L 2),.int .i64 (L 3)]] w fun e w'=>e=.returned (.bool true)/\Below w.heap.size w w':=by
 have hb1:Below w.heap.size w (w.alloc (.cells #[.int .i64 (L 0),.int .i64 (L 1),.int .i64 (L 2),.int .i64 (L 3)] 68)):=bal
 obtain ⟨z,hz,hpk⟩:=lpick_val (L 0) hL 1 (by omega) (by omega)
 obtain rfl:z=0:=by omega
 have HPk:=hid (fun u=>(show Calls prog 31 #[.int .i64 (L 0),.int .i64 1] u fun e w'=>e=.returned (.int .i64 0)/\w'=u from hpk u))
 have HA:=hid (fun u=>all_nil d u)
 have Hb:=hid hb1
 clear hpk hb1 hz
 go_enter func59,ntmps59
 go_wp2_with fail
 refine (HPk.out _).mono ?_
 clear HPk
 rintro e w1 ⟨rfl,rfl⟩
 generalize w.alloc (.cells #[.int .i64 (L 0),.int .i64 (L 1),.int .i64 (L 2),.int .i64 (L 3)] 68)=w1 at *
 go_wp2_with fail
 go_loopw [8] (fun s wr=>s=.int .i64 0/\wr=w1) (fun _ _=>0)
 case atStart=>exact ⟨rfl,rfl⟩
 case round =>
  obtain ⟨rfl,rfl⟩:=hrel
  go_wp2_with fail
  refine (HA.out _).mono ?_
  clear HA
  rintro e w2 ⟨rfl,rfl⟩
  go_wp2_with fail
  go_loopw [10] (fun s wr=>s=.int .i64 0/\wr=w2) (fun _ _=>0)
  case atStart=>exact ⟨rfl,rfl⟩
  case round =>
   obtain ⟨rfl,rfl⟩:=hrel
   go_wp2
   go_ret
   exact ⟨rfl,Hb.out⟩
theorem lost_w (d g n t:Nat) (img:List UInt8) (L:Led) (s:List UInt8) (A:Nat->Int) (hA:∀ j,j<4->I64 (A j)) (B:Nat) (v:Value) (w:World) (hD:DiskH w d g n img) (hH:Holds img n t L.text) (hS:L.Sound) (hf:L.kvs.length<=n / 8) (hV:WrV B w v (L.fWr (n / 8) (n,t) s)) :
  Calls prog 59 #[.pointer (some ⟨d,0,none⟩),v,.agg #[.int .i64 (A 0),.int .i64 (A 1),.int .i64 (A 2),.int .i64 (A 3)]] w fun e w'=>∃ r img',e=.returned (.bool r)/\DiskH w' d g n img'/\Keeps (fun x=>x=g) w w'/\((r=false/\Holds img' n t L.text)\/Holds img' n (L.fTn (n / 8) t s) (L.fLed (n / 8) s).text):=by
 have hn:=hH.n1
 cases ho:L.fOn (n / 8) s with
 | false =>
  unfold Led.fWr at hV
  rw [ho] at hV
  rcases hV with ⟨_,rfl⟩ | ⟨gw,cap,_,_,_,h2,_⟩
  ·refine (lost_nil d A (hA 0 (by omega)) w).mono ?_
   rintro e w' ⟨rfl,hb⟩
   refine ⟨true,img,rfl,hD.below hb,below_toKeeps hb _,.inr ?_⟩
   unfold Led.fTn
   rw [ho,fLed_off ho]
   exact hH
  ·simp at h2
 | true =>
  have hfw:L.fWr (n / 8) (n,t) s=keepW n t (L.fLed (n / 8) s).text:=by unfold Led.fWr;rw [ho];rfl
  have hroom:=Led.text_room (fLed_sound hS (n / 8) s).inv.ok.fit hn.1 (fLed_few hf s)
  have hfit:=keep_fits (t:=t) hn.1 hroom
  rw [hfw] at hV
  have hlen:=keepW_len n t (L.fLed (n / 8) s).text
  have hpc:=pieces_le hroom
  rcases hV with ⟨h0,_⟩ | ⟨gw,cap,rfl,_,hcap,h2,cur,h3,h4⟩
  ·rw [h0] at hlen;simp at hlen
  ·obtain ⟨m,hm,hpk⟩:=lpick_val (A 0) (hA 0 (by omega)) ((keepW n t (L.fLed (n / 8) s).text).length+1) (by omega) (by omega)
   obtain ⟨J,j0,j1,j2⟩:=lost_J hH hroom m hm
   refine (lost_any d g n img gw cap _ A hA m hm (hid (fun u=>by have:=hpk u;rwa [Int.natCast_add,Int.natCast_one] at this)) J w hn.2 hD hcap (by omega) cur h3 h4 hfit.1 j0 j1).mono ?_
   rintro e w' ⟨rfl,img',hD',hJ,hk⟩
   refine ⟨_,img',rfl,hD',hk,?_⟩
   unfold Led.fTn
   rw [ho]
   rcases j2 img' hJ with ⟨h5,h6⟩ | h5
   ·exact .inl ⟨h6,h5⟩
   ·exact .inr h5
end
section
open Go.RowKit Go.Shelf
theorem findD_size {l:List UInt8} {t:Nat} {x:List UInt8} (h:findD l=some (t,x)):l.length % 128=0/\16<=l.length / 128/\l.length / 128<=256:=by
 unfold findD at h
 simp only at h
 split at h
 ·cases h
 ·omega
set_option maxRecDepth 8000 in
set_option maxHeartbeats 4000000 in
theorem bytes_any (s:ByteArray) (hs:s.size<=maxLen) (w:World) :
  Calls prog 33 #[.string s] w fun e w'=>e=.returned (.bool true)/\Below w.heap.size w w':=by
 have HO:=hid (open_any s hs w)
 have HF:=hid (fun d u=>fits_nil d u)
 unfold maxLen at hs
 go_enter func33,ntmps33
 go_wp2_with fail
 refine HO.out.mono ?_
 clear HO
 rintro e w1 ⟨hb1,⟨t,x,L,l,r,h1,_,rfl,_,_,_⟩ | ⟨_,rfl⟩⟩
 ·have hz:=findD_size h1
  have hsl:s.data.toList.length=s.size:=by simp
  rw [hsl] at hz
  have hcv:=conv_bytes s w1
  have hw3:=bytesWorld_below w1 5 s
  have HB:=hid (hb1.trans (hw3.mono hb1.size))
  have q1:(s.size:Int) % 128=0:=by omega
  obtain ⟨z,q2,q3,q4⟩:∃ z:Nat,(s.size:Int) / 128=(z:Int)/\(16:Int)<=(z:Int)/\(z:Int)<=256:=⟨s.size / 128,by omega,by omega,by omega⟩
  have q5:(s.size:Int)<=32895:=by omega
  clear hz hsl h1 hb1 hw3 hs
  generalize Lib.bytesWorld w1 5 s=w2 at *
  go_wp2_with fail
  refine (HF.out _ _).mono ?_
  rintro e w3 ⟨rfl,rfl⟩
  clear HF
  have HB2:=hid (HB.out.alloc HB.out.size (.cells #[.slice (some ⟨w1.heap.size,0,none⟩) s.size (grownCap w1 s.size 0 5)] 88))
  go_wp2
  go_ret
  exact ⟨rfl,HB2.out⟩
 ·have HB:=hid hb1
  clear hb1
  go_wp2
  go_ret
  exact ⟨rfl,HB.out⟩
end
section
open Go.RowKit Go.Shelf
theorem pair_setB {w6:World} {p l d g b b' n t:Nat} {img:List UInt8} {X:Led} (hP:PairH w6 p l d b) (hD:DiskH w6 d g n img) (hH:Holds img n t X.text) (hL:LedgerAt w6 l (n,t) X (n / 8)) (hS:X.Sound) (hX:BkX 0 w6 b' X):PairI (w6.setCell ⟨p,2,none⟩ (.pointer (some ⟨b',0,none⟩))) p l d g b' n t X:=by
 have hkp:Keeps (fun x=>x=p) w6 (w6.setCell ⟨p,2,none⟩ (.pointer (some ⟨b',0,none⟩))):=(Keeps.refl (fun x=>x=p) w6).setCell (p:=⟨p,2,none⟩) (.inl rfl) _
 obtain ⟨cl,tl⟩:=hL.tag
 obtain ⟨cd,td⟩:=hD.tag
 obtain ⟨cg,tg⟩:=hD.tagg
 exact ⟨hP.setB,⟨img,hD.keeps hkp (tag_ne td hP (by decide)) (tag_ne tg hP (by decide)),hH⟩,hL.keepsT (S:=fun x=>x=p) (fun x hx=>by rw [hx];exact hP.noNode) (tag_ne tl hP (by decide)) hkp,hS,hX.keepsN (S:=fun x=>x=p) (fun x hx=>by rw [hx];exact hP.noBk) hkp⟩
set_option maxRecDepth 8000 in
set_option maxHeartbeats 4000000 in
theorem loses_any (p l d g b n t:Nat) (L:Led) (s:ByteArray) (hs:s.size<=maxLen) (A:Nat->Int) (hA:∀ j,j<4->I64 (A j)) (w:World) (h:PairI w p l d g b n t L) :
  Calls prog 38 #[.pointer (some ⟨p,0,none⟩),.string s,.agg #[.int .i64 (A 0),.int .i64 (A 1),.int .i64 (A 2),.int .i64 (A 3)]] w fun e w'=>e=.returned (.bool true)/\∃ l' b' t' L',(l'=l\/w.heap.size<=l')/\PairI w' p l' d g b' n t' L'/\Keeps (fun x=>x=l\/x=p\/x=g) w w':=by
 have hmx:prog.follows .mixedOrders=true:=by kernel_rfl
 have hn:=h.n1
 have hb0:Below w.heap.size w (w.alloc (.cells #[.int .i64 (A 0),.int .i64 (A 1),.int .i64 (A 2),.int .i64 (A 3)] 68)):=bal
 have hN0:=RecAt.new w #[.int .i64 (A 0),.int .i64 (A 1),.int .i64 (A 2),.int .i64 (A 3)] 68
 have h0:=h.below hb0
 have hll:l<w.heap.size:=h.led.lt
 have hpw:p<w.heap.size:=h.pair.lt
 have hgl0:g<w.heap.size:=by obtain ⟨img,h1,_⟩:=h.disk;exact h1.ltg
 have HDo:=hid (do_any l (n,t) L (n / 8) s hs _ h0.led h0.snd.inv hn)
 have p0:=h0.pair.c0
 have H:=hid (And.intro h0 (And.intro hb0 hN0))
 clear h h0 hb0 hN0
 go_enter func38,ntmps38
 go_wp2_with fail
 refine HDo.out.mono ?_
 clear HDo
 generalize w.alloc (.cells #[.int .i64 (A 0),.int .i64 (A 1),.int .i64 (A 2),.int .i64 (A 3)] 68)=w0 at *
 rintro e w1 ⟨v,rfl,hV1,hL1,hk1⟩
 obtain ⟨⟨hP,⟨img,hD,hH⟩,hL,hS,hX⟩,hb0,hN0⟩:=H.out
 obtain ⟨cl,tl⟩:=hL.tag
 obtain ⟨cd,td⟩:=hD.tag
 obtain ⟨cg,tg⟩:=hD.tagg
 have hpl:¬ p=l:=tag_ne hP tl (by decide)
 have hdl:¬ d=l:=tag_ne td tl (by decide)
 have hgl:¬ g=l:=tag_ne tg tl (by decide)
 have hpg:¬ p=g:=tag_ne hP tg (by decide)
 have hpd:¬ d=p:=tag_ne td hP (by decide)
 have hP1:=hP.keeps hk1 hpl
 have hD1:=hD.keeps hk1 hdl hgl
 have hX1:=hX.keepsN (S:=fun k=>k=l) (fun x hx=>by rw [hx];exact hL.noBk) hk1
 have hN1:RecAt w1 w.heap.size #[.int .i64 (A 0),.int .i64 (A 1),.int .i64 (A 2),.int .i64 (A 3)] 68:=(hk1.block w.heap.size hN0.lt (by omega)).trans hN0
 have hf1:=fFits hn.1 hS hL.few t s.data.toList
 have HA:=hid (answers_any p l d g b n t img L s hs _ v w1 hP1 hD1 hn hX1 hS.inv hL.few hV1 hf1)
 have H1:=hid (And.intro hP1 (And.intro hD1 (And.intro hX1 (And.intro hN1 (And.intro hV1 (And.intro hS (And.intro hH (And.intro hL.few (And.intro hk1 hb0)))))))))
 obtain ⟨oa,cap,rfl,-⟩:=hV1.form
 clear H hP hD hL hS hX hP1 hD1 hX1 hL1 hk1 p0 hV1 hf1 hH tl td tg hb0 hN0 hN1
 go_wp2_with fail
 refine HA.out.mono ?_
 clear HA
 rintro e w2 ⟨b',rfl,hX2,hb2⟩
 obtain ⟨hP1,hD1,hX1,hN1,hV1,hS,hH,hfw,hk1,hb0⟩:=H1.out
 have hP2:=hP1.below hb2
 have hN2:=hN1.on hb2
 have pc1:=hP2.c1
 have a0:w2.cell? ⟨w.heap.size,0,none⟩=some (.int .i64 (A 0)):=hN2.cell 0
 have a1:w2.cell? ⟨w.heap.size,1,none⟩=some (.int .i64 (A 1)):=hN2.cell 1
 have a2:w2.cell? ⟨w.heap.size,2,none⟩=some (.int .i64 (A 2)):=hN2.cell 2
 have a3:w2.cell? ⟨w.heap.size,3,none⟩=some (.int .i64 (A 3)):=hN2.cell 3
 have HLo:=hid (fun nq=>lost_w d g n t img L s.data.toList A hA _ _ (w2.drewN nq) ((hD1.below hb2).below (below_drewN (Below.refl _ _) nq)) hH hS hfw ((hV1.below hb2).below (below_drewN (Below.refl _ _) nq)))
 have H2:=hid (And.intro (hD1.below hb2) (And.intro hP2 (And.intro hN2 (And.intro hX2 (And.intro (hX1.below hb2) (And.intro hS (And.intro hfw ((below_toKeeps hb0 (fun x=>x=l)).trans (hk1.trans (below_toKeeps hb2 _))))))))))
 clear H1 hP1 hD1 hX1 hN1 hV1 hS hH hfw hk1 hb0 hX2 hb2 hP2 hN2
 go_wp2_with fail
 refine wp_region_then 6 (by kernel_rfl) (by decide) (by kernel_rfl) (by kernel_rfl) (by kernel_rfl) (by kernel_rfl) ?_
 simp only [List.take_succ_cons,List.take_zero]
 repeat (go_big_quiet_step (fail))
 refine wpQuiet_nil ?_
 rintro w3' ⟨nq,rfl⟩
 simp only [List.drop_succ_cons,List.drop_zero]
 go_wp2_with fail
 refine (HLo.out nq).mono ?_
 clear HLo
 rintro e w3 ⟨r,img',rfl,hD3,hk3,hcase⟩
 obtain ⟨hD2,hP2,hN2,hX2,hXo,hS,hfw,hk2⟩:=H2.out
 have hkd:Keeps (fun x=>x=g) w2 w3:=((Keeps.refl (fun x=>x=g) w2).drewN nq).trans hk3
 have hP3:=hP2.keeps hkd hpg
 have hN3:RecAt w3 w.heap.size #[.int .i64 (A 0),.int .i64 (A 1),.int .i64 (A 2),.int .i64 (A 3)] 68:=(hkd.block w.heap.size hN2.lt (by omega)).trans hN2
 have hX3:=hX2.keepsN (S:=fun x=>x=g) (fun x hx=>by rw [hx];exact hD2.noBk) hkd
 have hXo3:=hXo.keepsN (S:=fun x=>x=g) (fun x hx=>by rw [hx];exact hD2.noBk) hkd
 have hK3:Keeps (fun x=>x=l\/x=p\/x=g) w w3:=(hk2.mono (fun x _ hx=>.inl hx)).trans (hkd.mono (fun x _ hx=>.inr (.inr hx)))
 obtain ⟨X,tX,hHX,hSX,hfX,hor⟩:∃ X tX,Holds img' n tX X.text/\X.Sound/\X.kvs.length<=n / 8/\((X=L/\tX=t/\r=false)\/X=L.fLed (n / 8) s.data.toList):=by
  rcases hcase with ⟨hr,hh⟩ | hh
  ·exact ⟨L,t,hh,hS,hfw,.inl ⟨rfl,rfl,hr⟩⟩
  ·exact ⟨_,_,hh,fLed_sound hS (n / 8) s.data.toList,fLed_few hfw s.data.toList,.inr rfl⟩
 have p31:=hP3.c1
 have p30:=hP3.c0
 have pf0:=hP3.fz 0
 have b0:w3.cell? ⟨w.heap.size,0,none⟩=some (.int .i64 (A 0)):=hN3.cell 0
 have b1:w3.cell? ⟨w.heap.size,1,none⟩=some (.int .i64 (A 1)):=hN3.cell 1
 have b2:w3.cell? ⟨w.heap.size,2,none⟩=some (.int .i64 (A 2)):=hN3.cell 2
 have b3:w3.cell? ⟨w.heap.size,3,none⟩=some (.int .i64 (A 3)):=hN3.cell 3
 have HFo:=hid (found_any d g n tX img' X (A 0) (A 1) (A 2) (A 3) w3.drew (hD3.below ((Below.refl _ _).drew)) hHX hSX hfX)
 have hsz3:=hK3.size
 have H3:=hid (And.intro hP3 (And.intro hD3 (And.intro hX3 (And.intro hXo3 (And.intro hK3 (And.intro hHX (And.intro hSX (And.intro hfX (And.intro hor (And.intro hS hfw))))))))))
 have hlp3:=hP3.lt
 have hlN:=hN3.lt
 clear H2 hD2 hP2 hN2 hX2 hXo hS hfw hk2 hkd hP3 hN3 hX3 hXo3 hK3 hHX hSX hfX hor hcase hD3 hk3 a0 a1 a2 a3 pc1
 go_wp2_with fail
 have hS0:w3.drew.cell? ⟨p,1,none⟩=some (.pointer (some ⟨d,0,none⟩))/\w3.drew.cell? ⟨w.heap.size,0,none⟩=some (.int .i64 (A 0))/\w3.drew.cell? ⟨w.heap.size,1,none⟩=some (.int .i64 (A 1))/\w3.drew.cell? ⟨w.heap.size,2,none⟩=some (.int .i64 (A 2))/\w3.drew.cell? ⟨w.heap.size,3,none⟩=some (.int .i64 (A 3)):=⟨p31,b0,b1,b2,b3⟩
 refine wp_region_held_drew (S:=(fun u=>u.cell? ⟨p,1,none⟩=some (.pointer (some ⟨d,0,none⟩))/\u.cell? ⟨w.heap.size,0,none⟩=some (.int .i64 (A 0))/\u.cell? ⟨w.heap.size,1,none⟩=some (.int .i64 (A 1))/\u.cell? ⟨w.heap.size,2,none⟩=some (.int .i64 (A 2))/\u.cell? ⟨w.heap.size,3,none⟩=some (.int .i64 (A 3)))) hmx hS0 (fun _ => ?_)
 change wpAnyH _ _ _ _ _ 10 (Array.replicate 10 false) _ _
 refine wpAnyH_tk 0 (some 36) (.pointer (some ⟨p,0,none⟩)) rfl rfl (by kernel_rfl) (by kernel_rfl) (by kernel_rfl) (fun _ _ _ h=>h) (.inl ⟨rfl,fun u hu => ?_⟩) hS0 ?_
 ·simp [go_sem]
 simp only [Act.put,List.setIfInBounds_toArray,List.set_cons_succ,List.set_cons_zero]
 refine wpAnyH_tk 1 (some 37) (.pointer (some ⟨p,0,none⟩)) rfl rfl (by kernel_rfl) (by kernel_rfl) (by kernel_rfl) (fun _ _ _ h=>h) (.inl ⟨rfl,fun u hu => ?_⟩) hS0 ?_
 ·simp [go_sem]
 simp only [Act.put,List.setIfInBounds_toArray,List.set_cons_succ,List.set_cons_zero]
 refine wpAnyH_tk 2 (some 38) (.pointer (some ⟨p,0,none⟩)) rfl rfl (by kernel_rfl) (by kernel_rfl) (by kernel_rfl) (fun _ _ _ h=>h) (.inl ⟨rfl,fun u hu => ?_⟩) hS0 ?_
 ·simp [go_sem]
 simp only [Act.put,List.setIfInBounds_toArray,List.set_cons_succ,List.set_cons_zero]
 refine wpAnyH_tk 3 (some 39) (.pointer (some ⟨p,1,none⟩)) rfl rfl (by kernel_rfl) (by kernel_rfl) (by kernel_rfl) (fun _ _ _ h=>h) (.inl ⟨rfl,fun u hu => ?_⟩) hS0 ?_
 ·simp [go_sem]
 simp only [Act.put,List.setIfInBounds_toArray,List.set_cons_succ,List.set_cons_zero]
 refine wpAnyH_tk 4 (some 40) (.pointer (some ⟨d,0,none⟩)) rfl rfl (by kernel_rfl) (by kernel_rfl) (by kernel_rfl) (fun _ _ _ h=>h) (.inl ⟨rfl,fun u hu => ?_⟩) hS0 ?_
 ·simp [go_sem,hu.1]
 simp only [Act.put,List.setIfInBounds_toArray,List.set_cons_succ,List.set_cons_zero]
 refine wpAnyH_tk 5 (some 41) (.agg #[.int .i64 (A 0),.int .i64 (A 1),.int .i64 (A 2),.int .i64 (A 3)]) rfl rfl (by kernel_rfl) (by kernel_rfl) (by kernel_rfl) (fun _ _ _ h=>h) (.inl ⟨rfl,fun u hu => ?_⟩) hS0 ?_
 ·simp [go_sem,hu.2.1,hu.2.2.1,hu.2.2.2.1,hu.2.2.2.2]
 simp only [Act.put,List.setIfInBounds_toArray,List.set_cons_succ,List.set_cons_zero]
 refine wpAnyH_one 6 (by kernel_rfl) rfl rfl fun K hK => ?_
 go_simp
 refine HFo.out.mono ?_
 clear HFo
 rintro e w4 ⟨l',rfl,hL4,hl4,hb4⟩
 have hB4:Below w3.heap.size w3 w4:=(Below.refl _ w3).drew.trans hb4
 have hS4:w4.cell? ⟨p,1,none⟩=some (.pointer (some ⟨d,0,none⟩))/\w4.cell? ⟨w.heap.size,0,none⟩=some (.int .i64 (A 0))/\w4.cell? ⟨w.heap.size,1,none⟩=some (.int .i64 (A 1))/\w4.cell? ⟨w.heap.size,2,none⟩=some (.int .i64 (A 2))/\w4.cell? ⟨w.heap.size,3,none⟩=some (.int .i64 (A 3)):=⟨(hB4.cell (p:=⟨p,1,none⟩) hlp3).trans p31,(hB4.cell (p:=⟨w.heap.size,0,none⟩) hlN).trans b0,(hB4.cell (p:=⟨w.heap.size,1,none⟩) hlN).trans b1,(hB4.cell (p:=⟨w.heap.size,2,none⟩) hlN).trans b2,(hB4.cell (p:=⟨w.heap.size,3,none⟩) hlN).trans b3⟩
 have q0:=(hB4.cell (p:=⟨p,0,none⟩) hlp3).trans p30
 have qf:=(hB4.frozen (p:=⟨p,0,none⟩) hlp3).trans pf0
 have H4:=hid (And.intro hL4 (And.intro hl4 hB4))
 clear hL4 hl4 hb4 hB4
 refine hK _ _ hS4 ?_
 clear hK
 refine wpAnyH_tk 7 (some 43) (.pointer (some ⟨p,0,none⟩)) rfl rfl (by kernel_rfl) (by kernel_rfl) (by kernel_rfl) (fun _ _ _ h=>h) (.inl ⟨rfl,fun u hu => ?_⟩) hS4 ?_
 ·simp [go_sem]
 simp only [Act.put,List.setIfInBounds_toArray,List.set_cons_succ,List.set_cons_zero]
 refine wpAnyH_tk 8 (some 44) (.pointer (some ⟨p,0,none⟩)) rfl rfl (by kernel_rfl) (by kernel_rfl) (by kernel_rfl) (fun _ _ _ h=>h) (.inl ⟨rfl,fun u hu => ?_⟩) hS4 ?_
 ·simp [go_sem]
 simp only [Act.put,List.setIfInBounds_toArray,List.set_cons_succ,List.set_cons_zero]
 refine wpAnyH_one 9 (by kernel_rfl) rfl rfl fun K hK => ?_
 go_simp
 refine hK _ _ (by
  have ho:∀ i,(⟨p,0,none⟩:Addr)≠⟨w.heap.size,i,none⟩:=fun i e=>by injection e with e _ _;omega
  exact ⟨(World.cell?_setCell_other _ _ _ _ (by intro e;injection e with _ e _;omega)).trans hS4.1,(World.cell?_setCell_other _ _ _ _ (ho 0)).trans hS4.2.1,(World.cell?_setCell_other _ _ _ _ (ho 1)).trans hS4.2.2.1,(World.cell?_setCell_other _ _ _ _ (ho 2)).trans hS4.2.2.2.1,(World.cell?_setCell_other _ _ _ _ (ho 3)).trans hS4.2.2.2.2⟩) ?_
 clear hK
 refine wpAnyH_done (by kernel_rfl) ?_ _
 obtain ⟨hL4,hl4,hB4⟩:=H4.out
 obtain ⟨hP3,hD3,hX3,hXo3,hK3,hHX,hSX,hfX,hor,hS,hfw⟩:=H3.out
 have hP4:=hP3.below hB4
 have hD4:=hD3.below hB4
 obtain ⟨cl4,tl4⟩:=hL4.tag
 obtain ⟨cd4,td4⟩:=hD4.tag
 obtain ⟨cg4,tg4⟩:=hD4.tagg
 have hpl':¬ p=l':=tag_ne hP4 tl4 (by decide)
 have hdl':¬ d=l':=tag_ne td4 tl4 (by decide)
 have hgl':¬ g=l':=tag_ne tg4 tl4 (by decide)
 have hkp:Keeps (fun x=>x=p) w4 (w4.setCell ⟨p,0,none⟩ (.pointer (some ⟨l',0,none⟩))):=(Keeps.refl (fun x=>x=p) w4).setCell (p:=⟨p,0,none⟩) (.inl rfl) _
 have hP5:PairH (w4.setCell ⟨p,0,none⟩ (.pointer (some ⟨l',0,none⟩))) p l' d b:=hP4.setL
 have hD5:=hD4.keeps hkp hpd (fun e=>hpg e.symm)
 have hL5:=hL4.keepsT (S:=fun x=>x=p) (fun x hx=>by rw [hx];exact hP4.noNode) (fun e=>hpl' e.symm) hkp
 have hX5:=(hX3.below hB4).keepsN (S:=fun x=>x=p) (fun x hx=>by rw [hx];exact hP4.noBk) hkp
 have hXo5:=(hXo3.below hB4).keepsN (S:=fun x=>x=p) (fun x hx=>by rw [hx];exact hP4.noBk) hkp
 have hK5:Keeps (fun x=>x=l\/x=p\/x=g) w (w4.setCell ⟨p,0,none⟩ (.pointer (some ⟨l',0,none⟩))):=(hK3.trans (below_toKeeps hB4 _)).trans (hkp.mono (fun x _ hx=>.inr (.inl hx)))
 have hl':w.heap.size<=l':=by have:w3.heap.size<=l':=hl4;omega
 have hsL:=fLed_sound hS (n / 8) s.data.toList
 have hfL:=fLed_few hfw s.data.toList
 clear H3 H4 hL4 hl4 hB4 hP3 hD3 hX3 hXo3 hK3 hP4 hD4 hkp tl4 td4 tg4 hS4 q0 qf p31 p30 pf0 b0 b1 b2 b3 hS0 hlN hlp3
 generalize w4.setCell ⟨p,0,none⟩ (.pointer (some ⟨l',0,none⟩))=w5 at *
 have q50:=hP5.c0
 rcases hor with ⟨rfl,rfl,rfl⟩ | rfl
 ·have HSm:=hid (same2 l' (n,tX) b' (n / 8) X (X.fLed (n / 8) s.data.toList) w5 hL5 hS.inv hn hsL.inv (by omega) hX5)
  have H5:=hid (And.intro hP5 (And.intro hD5 (And.intro hXo5 (And.intro hK5 (And.intro hHX (And.intro hS (And.intro hfw hL5)))))))
  have Hl:=hid (And.intro hl' (And.intro hsL.inv hfL))
  clear hP5 hD5 hL5 hX5 hXo5 hK5 hHX hS hfw hsL hfL hSX hfX hl'
  go_wp2_with fail
  refine HSm.out.mono ?_
  clear HSm
  rintro e w6 ⟨⟨r2,rfl,hag⟩,hL6,hX6,hk6⟩
  obtain ⟨hP5,hD5,hXo5,hK5,hHX,hS,hfw,hL5⟩:=H5.out
  have hP6:=hP5.keeps hk6 hpl'
  have hD6:=hD5.keeps hk6 hdl' hgl'
  have hXo6:=hXo5.keepsN (S:=fun x=>x=l') (fun x hx=>by rw [hx];exact hL5.noBk) hk6
  have hK6:Keeps (fun x=>x=l\/x=p\/x=g) w w6:=((hK5.mono (T:=fun x=>(x=l\/x=p\/x=g)\/x=l') (fun x _ hx=>.inl hx)).trans (hk6.mono (fun x _ hx=>.inr hx))).mono (fun x hx h=>by have:=Hl.out.1;rcases h with h | h;exact h;omega)
  have q62:=hP6.c2
  have q60:=hP6.c0
  have q6f:=hP6.fz 2
  cases r2 with
  | true =>
   have heq:X.fLed (n / 8) s.data.toList=X:=by
    have ha:=hag rfl
    unfold Led.fLed at ha ⊢
    cases hb:decB s.data.toList with
    | false=>rfl
    | true =>
     rw [hb] at ha
     have hI2:=Hl.out.2.1
     unfold Led.fLed at hI2
     rw [hb] at hI2
     exact agree_eq hS.inv (Cm.of_ok (dec_enc _ hb).1) (n / 8) (by omega) hfw hI2 ha
   rw [heq] at hX6
   have HE:=hid (And.intro (pair_setB hP6 hD6 hHX hL6 hS hX6) (hK6.setCell (p:=⟨p,2,none⟩) (.inl (.inr (.inl rfl))) (.pointer (some ⟨b',0,none⟩))))
   clear hag hL6 hX6 hk6 hP5 hD5 hXo5 hK5 hHX hS hfw hL5 hP6 hD6 hXo6 hK6 H5 heq
   go_wp2
   go_ret
   exact ⟨rfl,l',b',tX,X,.inr Hl.out.1,HE.out.1,HE.out.2⟩
  | false =>
   have HSm2:=hid (fun nq=>lsame_any l' (n,tX) b (n / 8) X (w6.drewN nq) (hL6.below (below_drewN (Below.refl _ _) nq)) hS.inv hn (hXo6.below (below_drewN (Below.refl _ _) nq)))
   have H6:=hid (And.intro hP6 (And.intro hD6 (And.intro hHX (And.intro hS (And.intro hK6 hL6)))))
   clear hag hL6 hX6 hk6 hP5 hD5 hXo5 hK5 hHX hS hfw hL5 hP6 hD6 hXo6 hK6 H5
   go_wp2_with fail
   refine wp_region_then 8 (by kernel_rfl) (by decide) (by kernel_rfl) (by kernel_rfl) (by kernel_rfl) (by kernel_rfl) ?_
   simp only [List.take_succ_cons,List.take_zero]
   repeat (go_big_quiet_step (fail))
   refine wpQuiet_nil ?_
   rintro w7' ⟨nq2,rfl⟩
   simp only [List.drop_succ_cons,List.drop_zero]
   go_wp2_with fail
   refine (HSm2.out nq2).mono ?_
   clear HSm2
   rintro e w7 ⟨rfl,hL7,hX7,hk7⟩
   obtain ⟨hP6,hD6,hHX,hS,hK6,hL6⟩:=H6.out
   have hk67:Keeps (fun x=>x=l') w6 w7:=((Keeps.refl (fun x=>x=l') w6).drewN nq2).trans hk7
   have HE:=hid (show PairI w7 p l' d g b n tX X/\Keeps (fun x=>x=l\/x=p\/x=g) w w7 from ⟨⟨hP6.keeps hk67 hpl',⟨img',hD6.keeps hk67 hdl' hgl',hHX⟩,hL7,hS,hX7⟩,((hK6.mono (T:=fun x=>(x=l\/x=p\/x=g)\/x=l') (fun x _ hx=>.inl hx)).trans (hk67.mono (fun x _ hx=>.inr hx))).mono (fun x hx h=>by have:=Hl.out.1;rcases h with h | h;exact h;omega)⟩)
   clear hL7 hX7 hk7 hP6 hD6 hHX hS hK6 hL6 hk67 H6 q60 q62 q6f
   go_wp2
   go_ret
   exact ⟨rfl,l',b,tX,X,.inr Hl.out.1,HE.out.1,HE.out.2⟩
 ·have HSm:=hid (lsame_any l' (n,tX) b' (n / 8) (L.fLed (n / 8) s.data.toList) w5 hL5 hSX.inv hn hX5)
  have H5:=hid (And.intro hP5 (And.intro hD5 (And.intro hK5 (And.intro hHX (And.intro hSX hl')))))
  clear hP5 hD5 hL5 hX5 hXo5 hK5 hHX hS hfw hsL hfL hSX hfX hl'
  go_wp2_with fail
  refine HSm.out.mono ?_
  clear HSm
  rintro e w6 ⟨rfl,hL6,hX6,hk6⟩
  obtain ⟨hP5,hD5,hK5,hHX,hSX,hl'⟩:=H5.out
  have hP6:=hP5.keeps hk6 hpl'
  have hD6:=hD5.keeps hk6 hdl' hgl'
  have hK6:Keeps (fun x=>x=l\/x=p\/x=g) w w6:=((hK5.mono (T:=fun x=>(x=l\/x=p\/x=g)\/x=l') (fun x _ hx=>.inl hx)).trans (hk6.mono (fun x _ hx=>.inr hx))).mono (fun x hx h=>by rcases h with h | h;exact h;omega)
  have q62:=hP6.c2
  have q6f:=hP6.fz 2
  have HE:=hid (And.intro (pair_setB hP6 hD6 hHX hL6 hSX hX6) (And.intro (hK6.setCell (p:=⟨p,2,none⟩) (.inl (.inr (.inl rfl))) (.pointer (some ⟨b',0,none⟩))) hl'))
  clear hL6 hX6 hk6 hP5 hD5 hK5 hHX hSX hl' hP6 hD6 hK6 H5
  go_wp2
  go_ret
  exact ⟨rfl,l',b',tX,_,.inr HE.out.2.2,HE.out.1,HE.out.2.1⟩
end
section
open Go.RowKit Go.Shelf
set_option maxRecDepth 8000 in
set_option maxHeartbeats 4000000 in
theorem step_lose (B wb:Nat) (v:Value) (qs:List PD) (o:OpD) (hk:o.k=6) (hls:∀ j,j<4->I64 (o.l j)) (ho:I64 o.on) (w:World) (h:WI B w wb v qs) (hl:qs.length<=900) (hq:1<=qs.length) :
  Calls prog 25 #[.pointer (some ⟨wb,0,none⟩),o.val] w (StepPost B w wb qs):=by
 obtain ⟨z,hz,hpk⟩:=lpick_val o.on ho qs.length (by omega) (by omega)
 obtain ⟨g,cap,rfl⟩:=own_form2 (by omega) h.row
 have hb0:Below w.heap.size w (w.alloc (.cells #[.int .i64 o.k,.int .i64 o.on,.int .i64 (o.c 0),.int .i64 (o.c 1),.int .i64 (o.c 2),.int .i64 (o.c 3),.int .i64 (o.c 4),.int .i64 (o.c 5),.int .i64 (o.c 6),.int .i64 (o.c 7),.int .i64 (o.c 8),.string o.fr,.int .i64 o.nn,.int .i64 (o.l 0),.int .i64 (o.l 1),.int .i64 (o.l 2),.int .i64 (o.l 3)] 70)):=(Below.refl _ w).alloc nlr _
 have h1:=h.below hb0
 have wc1:=h1.cell
 have rc1:(w.alloc (.cells #[.int .i64 o.k,.int .i64 o.on,.int .i64 (o.c 0),.int .i64 (o.c 1),.int .i64 (o.c 2),.int .i64 (o.c 3),.int .i64 (o.c 4),.int .i64 (o.c 5),.int .i64 (o.c 6),.int .i64 (o.c 7),.int .i64 (o.c 8),.string o.fr,.int .i64 o.nn,.int .i64 (o.l 0),.int .i64 (o.l 1),.int .i64 (o.l 2),.int .i64 (o.l 3)] 70)).cell? ⟨g,z,none⟩=some (.pointer (some ⟨(qs[z]).p,0,none⟩)):=by
  have:=h1.row.cells (g:=g) rfl z (.pointer (some ⟨(qs[z]).p,0,none⟩)) (by simp [ptrs,hz])
  rwa [add_zero_at2] at this
 have hbw:¬ wb=w.heap.size:=by have:=h.lt;omega
 have hgw:¬ g=w.heap.size:=by have:=(h.row.lt g rfl).2;omega
 have hzi:(z:Int)<(qs.length:Int):=by omega
 have HEn:=hid (fun u=>refEncode_any o.c u)
 have H1:=hid (And.intro h1 hb0)
 have Hpk:=hid hpk
 clear h ho h1 hb0 hpk
 have hk1:¬ o.k=1:=by omega
 have hk7:¬ o.k=7:=by omega
 have Hk:=hid hk
 clear hk
 unfold OpD.val
 go_enter func25,ntmps25
 go_wp2_with fail
 go_quiet (first | (go_at_call 31;exact Calls.quiet_of_same (Hpk.out _)))
 obtain ⟨h1,hb1⟩:=H1.out
 have h2:=h1.below (below_drewN (Below.refl _ _) nq)
 have hb2:=below_drewN hb1 nq
 clear Hpk H1 h1 hb1 wc1 rc1
 have k0:((w.alloc (.cells #[.int .i64 o.k,.int .i64 o.on,.int .i64 (o.c 0),.int .i64 (o.c 1),.int .i64 (o.c 2),.int .i64 (o.c 3),.int .i64 (o.c 4),.int .i64 (o.c 5),.int .i64 (o.c 6),.int .i64 (o.c 7),.int .i64 (o.c 8),.string o.fr,.int .i64 o.nn,.int .i64 (o.l 0),.int .i64 (o.l 1),.int .i64 (o.l 2),.int .i64 (o.l 3)] 70)).drewN nq).cell? ⟨w.heap.size,0,none⟩=some (.int .i64 o.k):=by
  show (w.alloc (.cells #[.int .i64 o.k,.int .i64 o.on,.int .i64 (o.c 0),.int .i64 (o.c 1),.int .i64 (o.c 2),.int .i64 (o.c 3),.int .i64 (o.c 4),.int .i64 (o.c 5),.int .i64 (o.c 6),.int .i64 (o.c 7),.int .i64 (o.c 8),.string o.fr,.int .i64 o.nn,.int .i64 (o.l 0),.int .i64 (o.l 1),.int .i64 (o.l 2),.int .i64 (o.l 3)] 70)).cell? _=_
  rw [World.cell?_alloc_new];rfl
 have f0:((w.alloc (.cells #[.int .i64 o.k,.int .i64 o.on,.int .i64 (o.c 0),.int .i64 (o.c 1),.int .i64 (o.c 2),.int .i64 (o.c 3),.int .i64 (o.c 4),.int .i64 (o.c 5),.int .i64 (o.c 6),.int .i64 (o.c 7),.int .i64 (o.c 8),.string o.fr,.int .i64 o.nn,.int .i64 (o.l 0),.int .i64 (o.l 1),.int .i64 (o.l 2),.int .i64 (o.l 3)] 70)).drewN nq).cell? ⟨w.heap.size,11,none⟩=some (.string o.fr):=by
  show (w.alloc (.cells #[.int .i64 o.k,.int .i64 o.on,.int .i64 (o.c 0),.int .i64 (o.c 1),.int .i64 (o.c 2),.int .i64 (o.c 3),.int .i64 (o.c 4),.int .i64 (o.c 5),.int .i64 (o.c 6),.int .i64 (o.c 7),.int .i64 (o.c 8),.string o.fr,.int .i64 o.nn,.int .i64 (o.l 0),.int .i64 (o.l 1),.int .i64 (o.l 2),.int .i64 (o.l 3)] 70)).cell? _=_
  rw [World.cell?_alloc_new];rfl
 have g0:((w.alloc (.cells #[.int .i64 o.k,.int .i64 o.on,.int .i64 (o.c 0),.int .i64 (o.c 1),.int .i64 (o.c 2),.int .i64 (o.c 3),.int .i64 (o.c 4),.int .i64 (o.c 5),.int .i64 (o.c 6),.int .i64 (o.c 7),.int .i64 (o.c 8),.string o.fr,.int .i64 o.nn,.int .i64 (o.l 0),.int .i64 (o.l 1),.int .i64 (o.l 2),.int .i64 (o.l 3)] 70)).drewN nq).cell? ⟨w.heap.size,13,none⟩=some (.int .i64 (o.l 0)):=by
  show (w.alloc (.cells #[.int .i64 o.k,.int .i64 o.on,.int .i64 (o.c 0),.int .i64 (o.c 1),.int .i64 (o.c 2),.int .i64 (o.c 3),.int .i64 (o.c 4),.int .i64 (o.c 5),.int .i64 (o.c 6),.int .i64 (o.c 7),.int .i64 (o.c 8),.string o.fr,.int .i64 o.nn,.int .i64 (o.l 0),.int .i64 (o.l 1),.int .i64 (o.l 2),.int .i64 (o.l 3)] 70)).cell? _=_
  rw [World.cell?_alloc_new];rfl
 have g1:((w.alloc (.cells #[.int .i64 o.k,.int .i64 o.on,.int .i64 (o.c 0),.int .i64 (o.c 1),.int .i64 (o.c 2),.int .i64 (o.c 3),.int .i64 (o.c 4),.int .i64 (o.c 5),.int .i64 (o.c 6),.int .i64 (o.c 7),.int .i64 (o.c 8),.string o.fr,.int .i64 o.nn,.int .i64 (o.l 0),.int .i64 (o.l 1),.int .i64 (o.l 2),.int .i64 (o.l 3)] 70)).drewN nq).cell? ⟨w.heap.size,14,none⟩=some (.int .i64 (o.l 1)):=by
  show (w.alloc (.cells #[.int .i64 o.k,.int .i64 o.on,.int .i64 (o.c 0),.int .i64 (o.c 1),.int .i64 (o.c 2),.int .i64 (o.c 3),.int .i64 (o.c 4),.int .i64 (o.c 5),.int .i64 (o.c 6),.int .i64 (o.c 7),.int .i64 (o.c 8),.string o.fr,.int .i64 o.nn,.int .i64 (o.l 0),.int .i64 (o.l 1),.int .i64 (o.l 2),.int .i64 (o.l 3)] 70)).cell? _=_
  rw [World.cell?_alloc_new];rfl
 have g2:((w.alloc (.cells #[.int .i64 o.k,.int .i64 o.on,.int .i64 (o.c 0),.int .i64 (o.c 1),.int .i64 (o.c 2),.int .i64 (o.c 3),.int .i64 (o.c 4),.int .i64 (o.c 5),.int .i64 (o.c 6),.int .i64 (o.c 7),.int .i64 (o.c 8),.string o.fr,.int .i64 o.nn,.int .i64 (o.l 0),.int .i64 (o.l 1),.int .i64 (o.l 2),.int .i64 (o.l 3)] 70)).drewN nq).cell? ⟨w.heap.size,15,none⟩=some (.int .i64 (o.l 2)):=by
  show (w.alloc (.cells #[.int .i64 o.k,.int .i64 o.on,.int .i64 (o.c 0),.int .i64 (o.c 1),.int .i64 (o.c 2),.int .i64 (o.c 3),.int .i64 (o.c 4),.int .i64 (o.c 5),.int .i64 (o.c 6),.int .i64 (o.c 7),.int .i64 (o.c 8),.string o.fr,.int .i64 o.nn,.int .i64 (o.l 0),.int .i64 (o.l 1),.int .i64 (o.l 2),.int .i64 (o.l 3)] 70)).cell? _=_
  rw [World.cell?_alloc_new];rfl
 have g3:((w.alloc (.cells #[.int .i64 o.k,.int .i64 o.on,.int .i64 (o.c 0),.int .i64 (o.c 1),.int .i64 (o.c 2),.int .i64 (o.c 3),.int .i64 (o.c 4),.int .i64 (o.c 5),.int .i64 (o.c 6),.int .i64 (o.c 7),.int .i64 (o.c 8),.string o.fr,.int .i64 o.nn,.int .i64 (o.l 0),.int .i64 (o.l 1),.int .i64 (o.l 2),.int .i64 (o.l 3)] 70)).drewN nq).cell? ⟨w.heap.size,16,none⟩=some (.int .i64 (o.l 3)):=by
  show (w.alloc (.cells #[.int .i64 o.k,.int .i64 o.on,.int .i64 (o.c 0),.int .i64 (o.c 1),.int .i64 (o.c 2),.int .i64 (o.c 3),.int .i64 (o.c 4),.int .i64 (o.c 5),.int .i64 (o.c 6),.int .i64 (o.c 7),.int .i64 (o.c 8),.string o.fr,.int .i64 o.nn,.int .i64 (o.l 0),.int .i64 (o.l 1),.int .i64 (o.l 2),.int .i64 (o.l 3)] 70)).cell? _=_
  rw [World.cell?_alloc_new];rfl
 have hlb:w.heap.size<((w.alloc (.cells #[.int .i64 o.k,.int .i64 o.on,.int .i64 (o.c 0),.int .i64 (o.c 1),.int .i64 (o.c 2),.int .i64 (o.c 3),.int .i64 (o.c 4),.int .i64 (o.c 5),.int .i64 (o.c 6),.int .i64 (o.c 7),.int .i64 (o.c 8),.string o.fr,.int .i64 o.nn,.int .i64 (o.l 0),.int .i64 (o.l 1),.int .i64 (o.l 2),.int .i64 (o.l 3)] 70)).drewN nq).heap.size:=by show w.heap.size<(w.alloc (.cells #[.int .i64 o.k,.int .i64 o.on,.int .i64 (o.c 0),.int .i64 (o.c 1),.int .i64 (o.c 2),.int .i64 (o.c 3),.int .i64 (o.c 4),.int .i64 (o.c 5),.int .i64 (o.c 6),.int .i64 (o.c 7),.int .i64 (o.c 8),.string o.fr,.int .i64 o.nn,.int .i64 (o.l 0),.int .i64 (o.l 1),.int .i64 (o.l 2),.int .i64 (o.l 3)] 70)).heap.size;simp
 have H2:=hid (And.intro h2 hb2)
 have HKF:=hid (And.intro k0 (And.intro f0 (And.intro hlb (And.intro g0 (And.intro g1 (And.intro g2 g3))))))
 clear g0 g1 g2 g3
 clear h2 hb2 k0 f0 hlb
 go_wp2_with fail
 refine (HEn.out _).mono ?_
 clear HEn
 rintro e w3 ⟨rfl,hb3⟩
 obtain ⟨h2,hb2⟩:=H2.out
 obtain ⟨k0,f0,hlb,g0,g1,g2,g3⟩:=HKF.out
 have g0:=(hb3.cell (p:=⟨w.heap.size,13,none⟩) hlb).trans g0
 have g1:=(hb3.cell (p:=⟨w.heap.size,14,none⟩) hlb).trans g1
 have g2:=(hb3.cell (p:=⟨w.heap.size,15,none⟩) hlb).trans g2
 have g3:=(hb3.cell (p:=⟨w.heap.size,16,none⟩) hlb).trans g3
 have k0:=(hb3.cell (p:=⟨w.heap.size,0,none⟩) hlb).trans k0
 have f0:=(hb3.cell (p:=⟨w.heap.size,11,none⟩) hlb).trans f0
 have h3:=h2.below hb3
 have hb4:=hb2.trans (hb3.mono hb2.size)
 have hq3:=h3.each _ (List.getElem_mem hz)
 have H3:=hid (And.intro h3 hb4)
 have HD:=hid (fun s hs=>loses_any _ _ _ _ _ _ _ _ s hs o.l hls w3 hq3)
 have HEnd:=hid (fun (w4:World) (l' b' t':Nat) (L':Led) (hl:l'=(qs[z]).l\/w3.heap.size<=l') (hI:PairI w4 (qs[z]).p l' (qs[z]).d (qs[z]).g b' (qs[z]).n t' L') (hk:Keeps (fun x=>x=(qs[z]).l\/x=(qs[z]).p\/x=(qs[z]).g) w3 w4)=>And.intro (h3.turn hz (q':=⟨(qs[z]).p,l',(qs[z]).d,(qs[z]).g,b',(qs[z]).n,t',L'⟩) ⟨rfl,rfl,hl⟩ hI hk) ((below_toKeeps hb4 (fun g=>B<=g)).trans (hk.mono (fun g _ hg=>by have:=h3.far.2 _ (List.getElem_mem hz);rcases hg with rfl | rfl | rfl;exact this.2.1;exact this.1;exact this.2.2)) |> fun x=>And.intro x ((TagK.below hb4).trans (h3.tagTurn hz hk))))
 clear H2 HKF h2 hb2 hlb h3 hb4 hq3 hb3
 have q2:(o.k == 2)=false:=by simp [Hk.out]
 have q3:(o.k == 3)=false:=by simp [Hk.out]
 have q4:(o.k == 4)=false:=by simp [Hk.out]
 have q5:(o.k == 5)=false:=by simp [Hk.out]
 clear hk1 hk7 hls
 cases hen:encB o.c with
 | true =>
  have hE:encE o.c=0:=by simp [encE,hen]
  have hsz:(⟨(encS o.c).toArray⟩:ByteArray).size<=maxLen:=by
   show (encS o.c).toArray.size<=maxLen
   have:=(enc_len o.c hen).2
   simp only [List.size_toArray];unfold maxLen;omega
  have HDs:=hid (HD.out _ hsz)
  rw [hE]
  clear HD hsz hen hE
  go_wp2_with fail
  refine HDs.out.mono ?_
  clear HDs
  rintro e w4 ⟨rfl,l',b',t',L',hl',hI4,hk4⟩
  have HX:=hid (HEnd.out w4 l' b' t' L' hl' hI4 hk4)
  clear hI4 hk4 HEnd
  go_wp2
  go_ret
  exact ⟨rfl,_,_,HX.out.1,by rw [List.length_set];omega,by rw [List.length_set];omega,HX.out.2.1,HX.out.2.2⟩
 | false =>
  have hE:encE o.c=1:=by simp [encE,hen]
  rw [hE]
  clear HD hen hE HEnd
  go_wp2
  go_ret
  exact ⟨rfl,_,_,H3.out.1,by omega,by omega,below_toKeeps H3.out.2 _,TagK.below H3.out.2⟩
set_option maxRecDepth 8000 in
set_option maxHeartbeats 4000000 in
theorem step_bytes (B wb:Nat) (v:Value) (qs:List PD) (o:OpD) (hk:o.k=7) (hs:o.fr.size<=maxLen) (w:World) (h:WI B w wb v qs)  :
  Calls prog 25 #[.pointer (some ⟨wb,0,none⟩),o.val] w (StepPost B w wb qs):=by
 have H:=hid h
 clear h
 unfold OpD.val
 rw [hk]
 go_enter func25,ntmps25
 have HB:=hid (fun u=>bytes_any o.fr hs u)
 have hb0:Below w.heap.size w (w.alloc (.cells #[.int .i64 7,.int .i64 o.on,.int .i64 (o.c 0),.int .i64 (o.c 1),.int .i64 (o.c 2),.int .i64 (o.c 3),.int .i64 (o.c 4),.int .i64 (o.c 5),.int .i64 (o.c 6),.int .i64 (o.c 7),.int .i64 (o.c 8),.string o.fr,.int .i64 o.nn,.int .i64 (o.l 0),.int .i64 (o.l 1),.int .i64 (o.l 2),.int .i64 (o.l 3)] 70)):=(Below.refl _ w).alloc nlr _
 have hW:=H.out.below hb0
 go_wp2_with fail
 refine (HB.out _).mono ?_
 rintro e w1 ⟨rfl,hb1⟩
 have hb01:=hb0.trans (hb1.mono hb0.size)
 have HE:=hid (And.intro (H.out.below hb01) (And.intro (below_toKeeps hb01 (fun g=>B<=g)) (TagK.below hb01)))
 clear hb1 hb0 hb01 hW HB H
 go_wp2
 go_ret
 exact ⟨rfl,_,_,HE.out.1,by omega,by omega,HE.out.2.1,HE.out.2.2⟩
theorem steps_to7:StepsTo 7:=by
 intro B wb v qs o h1 h7 ho hn hs hls w h hB hl hq
 by_cases e:o.k<=5
 ·exact steps_to5 B wb v qs o h1 e ho hn hs hls w h hB hl hq
 by_cases e6:o.k=6
 ·exact step_lose B wb v qs o e6 hls ho w h hl hq
 ·exact step_bytes B wb v qs o (by omega) hs w h
end
end Go.Proofs.YtalncjhldkcmaaaGreat
