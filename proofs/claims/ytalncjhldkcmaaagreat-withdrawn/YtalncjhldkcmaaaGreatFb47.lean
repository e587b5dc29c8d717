import Derived.Test.YtalncjhldkcmaaaGreatFb37
import Derived.Test.YtalncjhldkcmaaaGreatFb42
import Derived.Test.YtalncjhldkcmaaaGreatFb45
import Derived.Test.YtalncjhldkcmaaaGreatFb14
import Derived.Test.YtalncjhldkcmaaaGreatFb27
import Derived.Test.YtalncjhldkcmaaaGreatFb33
import Derived.Test.YtalncjhldkcmaaaGreatFb01
import Derived.Test.YtalncjhldkcmaaaGreatFb39
import Derived.Test.YtalncjhldkcmaaaGreatFb32
namespace Go.Proofs.YtalncjhldkcmaaaGreat
open _root_.Go.Proofs.Tryz
set_option maxHeartbeats 16000000
set_option maxRecDepth 8000
section
open Go.RowKit Go.Shelf
theorem BkX.any {B b:Nat} {w:World} {L:Led} (h:BkX B w b L):BkX 0 w b L:=by
 obtain ⟨vt,vp,k,hf⟩:=h
 exact ⟨vt,vp,k,hf.bk,hf.sim,hf.nt,hf.np,Nat.zero_le _,fun _ _=>Nat.zero_le _,fun _ _=>Nat.zero_le _⟩
theorem BkX.old {b:Nat} {w5 w6 w7:World} {L:Led} (h:BkX 0 w5 b L) (hb:Below w5.heap.size w5 w6) (hk:Keeps (fun g=>w5.heap.size<=g) w6 w7):BkX 0 w7 b L:=by
 obtain ⟨vt,vp,k,hf⟩:=h
 refine ⟨vt,vp,k,hf.bk.keeps ((below_toKeeps hb (fun g=>w5.heap.size<=g)).trans hk) (fun g hg => ?_),hf.sim,hf.nt,hf.np,hf.fb,hf.ft,hf.fp⟩
 have:=hf.bk.own_lt hg
 omega
theorem act_ask {L:Led} {m:Cm} (h:12<=m.k):L.act m=L:=by
 unfold Led.act
 rw [if_neg (by omega),if_neg (by omega),if_neg (by omega),if_neg (by omega),if_neg (by omega),if_neg (by omega),if_neg (by omega),if_neg (by omega),if_neg (by omega),if_neg (by omega),if_neg (by omega)]
theorem reply_ne (zs:List Int):¬ (⟨(replyL 3 []).toArray⟩:ByteArray).toList=(⟨(replyL 0 zs).toArray⟩:ByteArray).toList:=by
 intro e
 rw [ByteArray.toList_eq,ByteArray.toList_eq] at e
 have:=congrArg List.head? e
 simp [replyL] at this
theorem bcopy_any {b:Nat} {w:World} {L:Led} (h:BkX 0 w b L):Calls prog 58 #[.pointer (some ⟨b,0,none⟩)] w fun e w'=>∃ n,e=.returned (.pointer (some ⟨n,0,none⟩))/\BkX w.heap.size w' n L/\Below w.heap.size w w':=by
 obtain ⟨vt,vp,k,hf⟩:=h
 refine (copy_any b vt vp k w hf.bk hf.nt hf.np).mono ?_
 rintro e w' ⟨n,vt',vp',rfl,hK,hn,ht,hp,hb,hv1,hv2⟩
 exact ⟨n,rfl,⟨vt',vp',k,hK,hf.sim,hv1,hv2,hn,ht,hp⟩,hb⟩
theorem berr_any {b:Nat} {w:World} {L:Led} {m:Cm} (h:BkX 0 w b L) (hI:L.Inv) (hm:m.Ok):Calls prog 61 #[.pointer (some ⟨b,0,none⟩),m.val] w fun e w'=>e=.returned (.int .i64 (L.err m))/\Below w.heap.size w w':=by
 obtain ⟨vt,vp,k,hf⟩:=h
 have h5:=hm.b
 have h4:=hm.v
 have hk:=hm.k
 have:=errors_any b vt vp k m.ints w hf.bk (by show (0:Int)<=(m.b:Nat);omega) (by show ((m.b:Nat):Int)<10;omega) (by show (1:Int)<=(m.k:Nat);omega) (by show ((m.k:Nat):Int)<=16;omega) (by show (0:Int)<=(m.v:Nat)/\((m.v:Nat):Int)<=1000000000;omega) (hf.sim.small hI.ok)
 rw [hf.sim.err hI hm] at this
 exact this
theorem Sim.count {L:Led} {k:Bk} (hS:Sim L k) (hO:L.Ok):cntB k=L.kvs.length:=by
 have h2:L.kvs.length=L.bs.length+L.ts.length+L.ps.length:=by simp [Led.kvs];omega
 have e:L.bs.map Prod.fst=(List.range 10).filter fun i=>decide (0<k.sides i):=by
  refine eq_of_pw (key:=fun n:Nat=>n) ?_ (List.Pairwise.filter _ List.pairwise_lt_range) (fun n => ?_)
  ·exact List.pairwise_map.2 hO.bs
  ·rw [List.mem_map,List.mem_filter,List.mem_range]
   constructor
   ·rintro ⟨x,hx,rfl⟩
    have h1:=hO.b1 x hx
    refine ⟨by omega,?_⟩
    rw [decide_eq_true_eq,hS.sides x.1 (by omega)]
    unfold Led.sideN
    rw [(Led.box_mem hO).2 (show (x.1,x.2)∈L.bs from hx)]
    show (0:Int)<(x.2:Nat)
    omega
   ·rintro ⟨h1,h3⟩
    rw [decide_eq_true_eq,hS.sides n h1] at h3
    unfold Led.sideN at h3
    cases hb:L.box n with
    | none=>rw [hb] at h3;simp at h3
    | some s=>exact ⟨(n,s),(Led.box_mem hO).1 hb,rfl⟩
 have hl:=congrArg List.length e
 rw [List.length_map] at hl
 unfold cntB
 rw [List.countP_eq_length_filter,<- hl,hS.tubes,List.length_map,hS.poured.length_eq,List.length_map,h2]
 omega
theorem bcount_any {B b:Nat} {w:World} {L:Led} (h:BkX B w b L) (hO:L.Ok):Calls prog 89 #[.pointer (some ⟨b,0,none⟩)] w fun e w'=>e=.returned (.int .i64 L.kvs.length)/\∃ n,w'=w.drewN n:=by
 obtain ⟨vt,vp,k,hf⟩:=h
 have:=count_any b vt vp k w hf.bk
 rw [hf.sim.count hO] at this
 exact this
theorem WrV.form {B:Nat} {w:World} {v:Value} {ws:List WN} (h:WrV B w v ws):∃ oa cap,v=.slice oa ws.length cap/\(ws=[]->v=.slice none 0 0):=by
 rcases h with ⟨rfl,rfl⟩ | ⟨g,cap,rfl,_,_,h2,cur,h3,h4⟩
 ·exact ⟨none,0,rfl,fun _=>rfl⟩
 ·exact ⟨_,cap,rfl,fun e=>by rw [e] at h2;simp at h2⟩
theorem answers_any (p l d g b n t:Nat) (img:List UInt8) (L:Led) (s:ByteArray) (hs:s.size<=maxLen) (B:Nat) (v:Value) (w:World) (hP:PairH w p l d b) (hD:DiskH w d g n img) (hn:16<=n/\n<=256) (hX:BkX 0 w b L) (hI:L.Inv) (hf:L.kvs.length<=n / 8) (hV:WrV B w v (L.fWr (n / 8) (n,t) s.data.toList)) (hVf:fitsW n (L.fWr (n / 8) (n,t) s.data.toList)) :
  Calls prog 57 #[.pointer (some ⟨p,0,none⟩),.string s,.string ⟨(replyL (L.fErr (n / 8) s.data.toList) (L.fNum (n / 8) s.data.toList)).toArray⟩,v] w fun e w'=>∃ b',e=.returned (.pointer (some ⟨b',0,none⟩))/\BkX 0 w' b' (L.fLed (n / 8) s.data.toList)/\Below w.heap.size w w':=by
 have HDe:=hid (refDecode_any s w hs)
 have HFa:=hid (fun u (hu:Below w.heap.size w u)=>fits_any d g n img v _ B u (by omega) (hD.below hu) (hV.below hu) hVf)
 obtain ⟨oa,cap,rfl,hnil⟩:=hV.form
 clear hV hVf
 cases hb:decB s.data.toList with
 | false =>
  have hd:decC s.data.toList=zero9/\decE s.data.toList=1:=by simp [decC,decE,hb]
  rw [hd.1,hd.2] at HDe
  simp only [zero9] at HDe
  have hE:L.fErr (n / 8) s.data.toList=1/\L.fNum (n / 8) s.data.toList=[]/\L.fLed (n / 8) s.data.toList=L:=by simp [Led.fErr,Led.fNum,Led.fLed,hb]
  have hW:L.fWr (n / 8) (n,t) s.data.toList=[]:=by simp [Led.fWr,Led.fOn,hb]
  rw [hnil hW,hE.1,hE.2.1,hE.2.2]
  clear HFa hnil hW
  have HR:=hid (fun u=>reply_any 1 (.slice none 0 0) [] u (by omega) (.inr ⟨rfl,rfl⟩) (by simp) (fun z hz=>by cases hz))
  have HF:=hid (fun u=>fits_nil d u)
  clear hd hb hE
  go_enter func57,ntmps57
  go_wp2_with fail
  refine HDe.out.mono ?_
  clear HDe
  rintro e w1 ⟨rfl,hb1⟩
  have hba:Below w1.heap.size w1 (w1.alloc (.cells #[.int .i64 0,.int .i64 0,.int .i64 0,.int .i64 0,.int .i64 0,.int .i64 0,.int .i64 0,.int .i64 0,.int .i64 0] 31)):=bal
  have hB1:=hb1.trans (hba.mono hb1.size)
  have hP1:=hP.below hB1
  have p1:=hP1.c1
  have p2:=hP1.c2
  have HX1:=hid (And.intro (hX.below hB1) hB1)
  clear hba hb1 hB1 hP1
  go_wp2_with fail
  refine (HF.out _).mono ?_
  clear HF
  rintro e w2 ⟨rfl,rfl⟩
  generalize w1.alloc (.cells #[.int .i64 0,.int .i64 0,.int .i64 0,.int .i64 0,.int .i64 0,.int .i64 0,.int .i64 0,.int .i64 0,.int .i64 0] 31)=w2 at *
  have hlt:p<w2.heap.size:=Nat.lt_of_lt_of_le hP.lt HX1.out.2.size
  go_wp2_with fail
  refine (HR.out _).mono ?_
  clear HR
  rintro e w3 ⟨rfl,hb3⟩
  have p2:=(hb3.cell (p:=⟨p,2,none⟩) hlt).trans p2
  have HX3:=hid (And.intro (HX1.out.1.below hb3) (HX1.out.2.trans (hb3.mono HX1.out.2.size)))
  clear HX1 hb3 p1
  go_wp2
  go_ret
  exact ⟨b,rfl,HX3.out.1,HX3.out.2⟩
 | true =>
  have hen:=(dec_enc _ hb).1
  have hde:decE s.data.toList=0:=by simp [decE,hb]
  have hmo:=Cm.of_ok hen
  rw [hde,Cm.of_val hen] at HDe
  have hE:L.fErr (n / 8) s.data.toList=L.stepE (n / 8) (Cm.of (decC s.data.toList))/\L.fNum (n / 8) s.data.toList=L.stepN (n / 8) (Cm.of (decC s.data.toList))/\L.fLed (n / 8) s.data.toList=L.stepL (n / 8) (Cm.of (decC s.data.toList)):=by simp [Led.fErr,Led.fNum,Led.fLed,hb]
  rw [hE.1,hE.2.1,hE.2.2]
  have hW:L.fWr (n / 8) (n,t) s.data.toList=if L.stepE (n / 8) (Cm.of (decC s.data.toList))=0/\(Cm.of (decC s.data.toList)).k<12 then keepW n t (L.fLed (n / 8) s.data.toList).text else []:=by simp [Led.fWr,Led.fOn,hb]
  generalize hWs:L.fWr (n / 8) (n,t) s.data.toList=ws at *
  clear hE hen hde hb hWs
  generalize Cm.of (decC s.data.toList)=m at *
  have HW:=hid (And.intro hnil (fun (h:¬ (L.stepE (n / 8) m=0/\m.k<12))=>(by rw [hW,if_neg h]:ws=[])))
  clear hW hnil
  have HEr:=hid (fun u (hu:BkX 0 u b L)=>berr_any hu hI hmo)
  have hfew:L.kvs.length<7000:=by omega
  unfold Cm.val at *
  go_enter func57,ntmps57
  go_wp2_with fail
  refine HDe.out.mono ?_
  clear HDe
  rintro e w1 ⟨rfl,hb1⟩
  have hba:Below w1.heap.size w1 (w1.alloc (.cells #[.int .i64 m.k,.int .i64 m.t,.int .i64 m.o,.int .i64 m.d,.int .i64 m.v,.int .i64 m.b,.int .i64 m.x,.int .i64 m.y,.int .i64 m.n] 31)):=bal
  have hB1:=hb1.trans (hba.mono hb1.size)
  have hP1:=hP.below hB1
  have p1:=hP1.c1
  have p2:=hP1.c2
  have hC:=Cm.has_new w1 31 m
  have hlC:=has_new_lt w1 m
  obtain ⟨c0,c1,c2,c3,c4,c5,c6,c7,c8⟩:=all9.1 hC.1
  simp only [Cm.ints] at c0 c1 c2 c3 c4 c5 c6 c7 c8
  have HX1:=hid (And.intro (hX.below hB1) (And.intro hB1 (And.intro hC (And.intro hlC hP1.lt))))
  clear hba hb1 hB1 hP1 hC hlC
  go_wp2_with fail
  generalize w1.alloc (.cells #[.int .i64 m.k,.int .i64 m.t,.int .i64 m.o,.int .i64 m.d,.int .i64 m.v,.int .i64 m.b,.int .i64 m.x,.int .i64 m.y,.int .i64 m.n] 31)=w2 at *
  generalize w1.heap.size=cb at *
  refine wp_region_then 5 (by kernel_rfl) (by decide) (by kernel_rfl) (by kernel_rfl) (by kernel_rfl) (by kernel_rfl) ?_
  simp only [List.take_succ_cons,List.take_zero]
  repeat (go_big_quiet_step (fail))
  refine wpQuiet_nil ?_
  rintro w3 ⟨nq,rfl⟩
  simp only [List.drop_succ_cons,List.drop_zero]
  obtain ⟨hX1,hB1,hC1,hlC1,hlp1⟩:=HX1.out
  have hX2:=hX1.below (below_drewN (Below.refl _ w2) nq)
  have hB2:=below_drewN hB1 nq
  have HX2:=hid (And.intro hX2 (And.intro hB2 (And.intro (hC1.drewN nq) (And.intro (show cb<(w2.drewN nq).heap.size from hlC1) (show p<(w2.drewN nq).heap.size from hlp1)))))
  have HE1:=hid (HEr.out _ hX2)
  have p1:(w2.drewN nq).cell? ⟨p,1,none⟩=some (.pointer (some ⟨d,0,none⟩)):=p1
  have p2:(w2.drewN nq).cell? ⟨p,2,none⟩=some (.pointer (some ⟨b,0,none⟩)):=p2
  clear HX1 hX1 hB1 hC1 hlC1 hlp1 hX2 hB2 HEr c0 c1 c2 c3 c4 c5 c6 c7 c8
  generalize w2.drewN nq=w3 at *
  go_wp2_with fail
  refine HE1.out.mono ?_
  clear HE1
  rintro e w4 ⟨rfl,hb4⟩
  obtain ⟨hX3,hB3,hC3,hlC3,hlp3⟩:=HX2.out
  have p1:=(hb4.cell (p:=⟨p,1,none⟩) hlp3).trans p1
  have p2:=(hb4.cell (p:=⟨p,2,none⟩) hlp3).trans p2
  have hC4:=has_keeps hC3 (below_toKeeps hb4 (fun _=>False)) hlC3 (fun h=>h)
  have HX4:=hid (And.intro (hX3.below hb4) (And.intro (hB3.trans (hb4.mono hB3.size)) (And.intro hC4 (And.intro (Nat.lt_of_lt_of_le hlC3 hb4.size) (Nat.lt_of_lt_of_le hlp3 hb4.size)))))
  clear HX2 hX3 hB3 hC3 hlC3 hlp3 hb4 hC4
  by_cases he:L.err m=0
  ·rw [he]
   have hinv:=act_inv hI hmo he
   go_wp2_with fail
   refine (HFa.out _ HX4.out.2.1).mono ?_
   clear HFa
   rintro e w5 ⟨rfl,q5,rfl⟩
   obtain ⟨hX4,hB4,hC4,hlC4,hlp4⟩:=HX4.out
   have HX4:=hid (And.intro (hX4.below (below_drewN (Below.refl _ w4) q5)) (And.intro (below_drewN hB4 q5) (And.intro (hC4.drewN q5) (And.intro (show cb<(w4.drewN q5).heap.size from hlC4) (show p<(w4.drewN q5).heap.size from hlp4)))))
   have p1:(w4.drewN q5).cell? ⟨p,1,none⟩=some (.pointer (some ⟨d,0,none⟩)):=p1
   have p2:(w4.drewN q5).cell? ⟨p,2,none⟩=some (.pointer (some ⟨b,0,none⟩)):=p2
   clear hX4 hB4 hC4 hlC4 hlp4
   generalize w4.drewN q5=w5 at *
   have HCp:=hid (bcopy_any (HX4.out.1))
   go_wp2_with fail
   refine HCp.out.mono ?_
   clear HCp
   rintro e w6 ⟨nb,rfl,hX6,hb6⟩
   obtain ⟨hX5,hB5,hC5,hlC5,hlp5⟩:=HX4.out
   have p1:=(hb6.cell (p:=⟨p,1,none⟩) hlp5).trans p1
   have p2:=(hb6.cell (p:=⟨p,2,none⟩) hlp5).trans p2
   have hC6:=hC5.below hb6 hlC5
   obtain ⟨c0,c1,c2,c3,c4,c5,c6,c7,c8⟩:=all9.1 hC6.1
   simp only [Cm.ints] at c0 c1 c2 c3 c4 c5 c6 c7 c8
   have HDo:=hid (bdo_any hX6 hI hmo he hb6.size (by omega))
   have HOld:=hid (fun (u:World) hk=>BkX.old (w7:=u) hX5 hb6 hk)
   have HX6:=hid (And.intro (hX5.below hb6) (And.intro (hB5.trans (hb6.mono hB5.size)) (And.intro hC6 (And.intro (Nat.lt_of_lt_of_le hlC5 hb6.size) (And.intro hlp5 (And.intro hlC5 (And.intro hb6.size hB5)))))))
   unfold Cm.val at HDo
   clear HX4 hX5 hB5 hC5 hlC5 hlp5 hX6 hb6 hC6
   go_wp2_with fail
   refine HDo.out.mono ?_
   clear HDo
   rintro e w7 ⟨v7,rfl,hi7,hX7,hk7⟩
   obtain ⟨hX6,hB6,hC6,hlC6,hlp5,hlC5,hs56,hB5⟩:=HX6.out
   have hlp6:p<w6.heap.size:=Nat.lt_of_lt_of_le hlp5 hs56
   have p2:=(hk7.cell (p:=⟨p,2,none⟩) hlp6 (by show ¬ w5.heap.size<=p;omega)).trans p2
   have p1:=(hk7.cell (p:=⟨p,1,none⟩) hlp6 (by show ¬ w5.heap.size<=p;omega)).trans p1
   have c0:=(hk7.cell (p:=⟨cb,0,none⟩) hlC6 (by show ¬ w5.heap.size<=cb;omega)).trans c0
   have hdl:d<w5.heap.size:=Nat.lt_of_lt_of_le hD.lt hB5.size
   obtain ⟨cap6,_,_,dc⟩:=(hD.below hB6).cell
   have dc:=(hk7.cell (p:=⟨d,0,none⟩) (Nat.lt_of_lt_of_le hdl hs56) (by show ¬ w5.heap.size<=d;omega)).trans dc
   have hB7:Below w.heap.size w w7:=hB6.trans (hk7.toBelow (B:=w.heap.size) (fun g hg=>by have:=hB5.size;omega) (by have:=hB6.size;omega))
   have hX7b:BkX 0 w7 b L:=HOld.out w7 hk7
   have hlt7:p<w7.heap.size/\cb<w7.heap.size/\d<w7.heap.size:=by have:=hk7.size;omega
   have HX7:=hid (And.intro hX7 (And.intro hX7b (And.intro hB7 hlt7)))
   have HR0:=hid (reply_any 0 v7 (L.tell m) w7 (by omega) hi7 (Led.tell_len hfew) (fun z hz=>by have:=Led.tell_range hI hfew z hz;omega))
   have HR3:=hid (fun u=>reply_any 3 (.slice none 0 0) [] u (by omega) (.inr ⟨rfl,rfl⟩) (by simp) (fun z hz=>by cases hz))
   clear HX6 hX6 hB6 hC6 hlC6 hlp5 hlC5 hs56 hB5 hlp6 hdl hB7 hX7b hX7 hk7 hi7 hlt7 c1 c2 c3 c4 c5 c6 c7 c8
   go_wp2_with fail
   refine HR0.out.mono ?_
   clear HR0
   rintro e w8 ⟨rfl,hb8⟩
   obtain ⟨hX7,hX7b,hB7,hlp7,hlc7,hld7⟩:=HX7.out
   have p2:=(hb8.cell (p:=⟨p,2,none⟩) hlp7).trans p2
   have p1:=(hb8.cell (p:=⟨p,1,none⟩) hlp7).trans p1
   have c0:=(hb8.cell (p:=⟨cb,0,none⟩) hlc7).trans c0
   have dc:=(hb8.cell (p:=⟨d,0,none⟩) hld7).trans dc
   have hlt8:p<w8.heap.size/\cb<w8.heap.size/\d<w8.heap.size:=by have:=hb8.size;omega
   have HX8:=hid (And.intro (hX7.below hb8) (And.intro (hX7b.below hb8) (And.intro (hB7.trans (hb8.mono hB7.size)) hlt8)))
   clear HX7 hX7 hX7b hB7 hlp7 hlc7 hld7 hb8 hlt8
   go_wp2_with fail
   refine (HR3.out _).mono ?_
   clear HR3
   rintro e w9 ⟨rfl,hb9⟩
   obtain ⟨hX8,hX8b,hB8,hlp8,hlc8,hld8⟩:=HX8.out
   have p2:=(hb9.cell (p:=⟨p,2,none⟩) hlp8).trans p2
   have p1:=(hb9.cell (p:=⟨p,1,none⟩) hlp8).trans p1
   have c0:=(hb9.cell (p:=⟨cb,0,none⟩) hlc8).trans c0
   have dc:=(hb9.cell (p:=⟨d,0,none⟩) hld8).trans dc
   have HX9:=hid (And.intro (hX8.below hb9) (And.intro (hX8b.below hb9) (hB8.trans (hb9.mono hB8.size))))
   clear HX8 hX8 hX8b hB8 hlp8 hlc8 hld8 hb9
   by_cases hfit:(L.act m).kvs.length<=n / 8
   ·have hS:L.stepE (n / 8) m=0/\L.stepN (n / 8) m=L.tell m/\L.stepL (n / 8) m=L.act m:=by simp [Led.stepE,Led.stepN,Led.stepL,he,hfit]
    rw [hS.1,hS.2.1]
    have HSL:=hid hS.2.2
    clear hS
    generalize (⟨(replyL 3 []).toArray⟩:ByteArray)=full at *
    generalize (⟨(replyL 0 (L.tell m)).toArray⟩:ByteArray)=want at *
    by_cases hk12:(12:Int)<=(m.k:Int)
    ·have hw0:=HW.out.2 (fun h=>by omega)
     have hv0:=HW.out.1 hw0
     rw [hw0] at hv0 ⊢
     injection hv0 with hv1 _ hv2
     subst hv1 hv2
     clear HW hw0
     go_wp2
     go_ret
     exact ⟨nb,rfl,by rw [HSL.out];exact HX9.out.1.any,HX9.out.2.2⟩
    ·go_wp2
     go_ret
     exact ⟨nb,rfl,by rw [HSL.out];exact HX9.out.1.any,HX9.out.2.2⟩
   ·have hS:L.stepE (n / 8) m=3/\L.stepN (n / 8) m=[]/\L.stepL (n / 8) m=L:=by simp [Led.stepE,Led.stepN,Led.stepL,he,hfit]
    rw [hS.1,hS.2.1]
    have HSL:=hid hS.2.2
    have hk12:¬ (12:Int)<=(m.k:Int):=fun h=>hfit (by rw [act_ask (by omega)];exact hf)
    have hw0:=HW.out.2 (fun h=>by rw [hS.1] at h;omega)
    have hv0:=HW.out.1 hw0
    rw [hw0] at hv0 ⊢
    injection hv0 with hv1 _ hv2
    subst hv1 hv2
    clear HW hw0
    have hne:=reply_ne (L.tell m)
    have HCt:=hid (fun q=>bcount_any (HX9.out.1.below (below_drewN (Below.refl _ w9) q)) hinv.ok)
    have hq1:((n*128:Nat):Int).tdiv 128=(n:Int):=by rw [Int.tdiv_eq_ediv_of_nonneg (by omega)];omega
    have hq2:(n:Int).tdiv 8=((n / 8:Nat):Int):=by rw [Int.tdiv_eq_ediv_of_nonneg (by omega)];omega
    have hgt:((n / 8:Nat):Int)<((L.act m).kvs.length:Int):=by omega
    clear hS
    generalize (⟨(replyL 3 []).toArray⟩:ByteArray)=full at *
    generalize (⟨(replyL 0 (L.tell m)).toArray⟩:ByteArray)=want at *
    generalize (L.act m).kvs.length=cnt at *
    generalize hn8:n / 8=n8 at *
    have HN8:=hid hn8
    have hn8b:(n8:Int)<=32:=by omega
    have hw8:wrap64 (n8:Int)=(n8:Int):=by unfold wrap64;omega
    clear hn8
    go_wp2_with fail
    go_quiet (first | (go_at_call 89;exact Calls.quiet_of (HCt.out _)))
    go_wp2
    go_ret
    exact ⟨b,rfl,by rw [HN8.out,HSL.out];exact HX9.out.2.1.below (below_drewN (Below.refl _ w9) _),below_drewN HX9.out.2.2 _⟩
  ·have her:=Led.err_range L m
   have hS:L.stepE (n / 8) m=L.err m/\L.stepN (n / 8) m=[]/\L.stepL (n / 8) m=L:=by simp [Led.stepE,Led.stepN,Led.stepL,he]
   rw [hS.1,hS.2.1]
   have HSL:=hid hS.2.2
   have HR:=hid (fun u=>reply_any (L.err m).toNat (.slice none 0 0) [] u (by omega) (.inr ⟨rfl,rfl⟩) (by simp) (fun z hz=>by cases hz))
   have hee:((L.err m).toNat:Int)=L.err m:=by omega
   rw [hee] at HR
   have h0:(L.err m == 0)=false:=beq_eq_false_iff_ne.2 he
   have hw0:=HW.out.2 (fun h=>by rw [hS.1] at h;exact he h.1)
   have hv0:=HW.out.1 hw0
   rw [hw0] at hv0 ⊢
   injection hv0 with hv1 _ hv2
   subst hv1 hv2
   have HF:=hid (fun u=>fits_nil d u)
   clear hS hee HW hw0 HFa
   generalize L.err m=er at *
   generalize (⟨(replyL er []).toArray⟩:ByteArray)=rp at *
   go_wp2_with fail
   refine (HF.out _).mono ?_
   clear HF
   rintro e w5 ⟨rfl,rfl⟩
   go_wp2_with fail
   refine (HR.out _).mono ?_
   clear HR
   rintro e w6 ⟨rfl,hb6⟩
   obtain ⟨hX4,hB4,hC4,hlC4,hlp4⟩:=HX4.out
   have p2:=(hb6.cell (p:=⟨p,2,none⟩) hlp4).trans p2
   have HX6:=hid (And.intro (hX4.below hb6) (hB4.trans (hb6.mono hB4.size)))
   clear HX4 hX4 hB4 hC4 hlC4 hlp4 hb6 p1
   go_wp2
   go_ret
   exact ⟨b,rfl,by rw [HSL.out];exact HX6.out.1,HX6.out.2⟩
end
section
open Go.RowKit Go.Shelf
variable {w w':World} {p l d g b n t:Nat} {L:Led} {img:List UInt8}
theorem fLed_sound (hS:L.Sound) (lim:Nat) (s:List UInt8):(L.fLed lim s).Sound:=by
 unfold Led.fLed
 cases hb:decB s with
 | false=>exact hS
 | true=>exact Led.sound_step hS (Cm.of_ok (dec_enc s hb).1) lim
theorem fLed_few {lim:Nat} (hf:L.kvs.length<=lim) (s:List UInt8):(L.fLed lim s).kvs.length<=lim:=by
 unfold Led.fLed
 split
 ·unfold Led.stepL
  split
  ·next h=>exact h.2
  ·exact hf
 ·exact hf
structure PairI (w:World) (p l d g b n t:Nat) (L:Led):Prop where
 pair:PairH w p l d b
 disk:∃ img,DiskH w d g n img/\Holds img n t L.text
 led:LedgerAt w l (n,t) L (n / 8)
 snd:L.Sound
 bk:BkX 0 w b L
theorem PairI.n1 (h:PairI w p l d g b n t L):16<=n/\n<=256:=by obtain ⟨img,_,h2⟩:=h.disk;exact h2.n1
theorem PairI.below (h:PairI w p l d g b n t L) (hb:Below w.heap.size w w'):PairI w' p l d g b n t L:=by
 obtain ⟨img,h1,h2⟩:=h.disk
 exact ⟨h.pair.below hb,⟨img,h1.below hb,h2⟩,h.led.below hb,h.snd,h.bk.below hb⟩
theorem PairI.keepsT {S:Nat->Prop} (h:PairI w p l d g b n t L) (hS:∀ x,S x->NoNodeT w x/\NoBk w x) (hp:¬ S p) (hl:¬ S l) (hd:¬ S d) (hg:¬ S g) (hk:Keeps S w w'):PairI w' p l d g b n t L:=by
 obtain ⟨img,h1,h2⟩:=h.disk
 exact ⟨h.pair.keeps hk hp,⟨img,h1.keeps hk hd hg,h2⟩,h.led.keepsT (fun x hx=>(hS x hx).1) hl hk,h.snd,h.bk.keepsN (fun x hx=>(hS x hx).2) hk⟩
theorem PairI.kinds (h:PairI w p l d g b n t L):(∃ c,w.heap[p]? = some (.cells c 75 (0,0)))/\(∃ c,w.heap[l]? = some (.cells c 113 (0,0)))/\(∃ c,w.heap[d]? = some (.cells c 88 (0,0)))/\∃ c,w.heap[g]? = some (.cells c 5 (0,0)):=by
 obtain ⟨img,h1,h2⟩:=h.disk
 exact ⟨⟨_,h.pair⟩,h.led.tag,h1.tag,h1.tagg⟩
theorem PairI.free (h:PairI w p l d g b n t L):∀ x,(x=l\/x=p\/x=g)->NoNodeT w x/\NoBk w x:=by
 obtain ⟨img,h1,h2⟩:=h.disk
 rintro x (rfl | rfl | rfl)
 ·exact ⟨h.led.noNode,h.led.noBk⟩
 ·exact ⟨h.pair.noNode,h.pair.noBk⟩
 ·exact ⟨h1.noNode,h1.noBk⟩
def Led.fTn (L:Led) (lim t:Nat) (s:List UInt8):Nat:=if L.fOn lim s then nextT t else t
theorem fDk_eq (L:Led) (lim n t:Nat) (s:List UInt8):L.fDk lim (n,t) s=(n,L.fTn lim t s):=by
 unfold Led.fDk Led.fTn
 split <;> rfl
theorem fLed_off {lim:Nat} {s:List UInt8} (h:L.fOn lim s=false):L.fLed lim s=L:=by
 unfold Led.fLed
 unfold Led.fOn at h
 cases hb:decB s with
 | false=>rfl
 | true =>
  rw [hb] at h
  simp only [Bool.true_and,Bool.and_eq_false_iff,decide_eq_false_iff_not] at h
  rw [if_pos rfl]
  unfold Led.stepL
  split
  ·next hc =>
   rcases h with h | h
   ·exact absurd (by unfold Led.stepE;rw [if_pos hc.1,if_pos hc.2]) h
   ·exact act_ask (by omega)
  ·rfl
theorem fHolds (hH:Holds img n t L.text) (hS:L.Sound) (hf:L.kvs.length<=n / 8) (s:List UInt8):Holds (allW img (L.fWr (n / 8) (n,t) s)) n (L.fTn (n / 8) t s) (L.fLed (n / 8) s).text:=by
 unfold Led.fWr Led.fTn
 cases ho:L.fOn (n / 8) s with
 | true =>
  simp only [if_true]
  exact keep_all hH (Led.text_room (fLed_sound hS _ s).inv.ok.fit hH.n1.1 (fLed_few hf s))
 | false =>
  simp only [Bool.false_eq_true,if_false]
  rw [fLed_off ho]
  exact hH
theorem fFits (hn:16<=n) (hS:L.Sound) (hf:L.kvs.length<=n / 8) (t:Nat) (s:List UInt8):fitsW n (L.fWr (n / 8) (n,t) s):=by
 unfold Led.fWr
 split
 ·exact keep_fits hn (Led.text_room (fLed_sound hS _ s).inv.ok.fit hn (fLed_few hf s))
 ·exact ⟨(fun _ h=>by cases h),(fun _ h=>by cases h)⟩
theorem does_any (p l d g b n t:Nat) (L:Led) (s:ByteArray) (hs:s.size<=maxLen) (w:World) (h:PairI w p l d g b n t L) :
  Calls prog 35 #[.pointer (some ⟨p,0,none⟩),.string s] w fun e w'=>e=.returned (.bool true)/\∃ b' t' L',PairI w' p l d g b' n t' L'/\Keeps (fun x=>x=l\/x=p\/x=g) w w':=by
 have hn:=h.n1
 have HDo:=hid (do_any l (n,t) L (n / 8) s hs w h.led h.snd.inv hn)
 have p0:=h.pair.c0
 have H:=hid h
 clear h
 go_enter func35,ntmps35
 go_wp2_with fail
 refine HDo.out.mono ?_
 clear HDo
 rintro e w1 ⟨v,rfl,hV1,hL1,hk1⟩
 rw [fDk_eq] at hL1
 obtain ⟨hP,⟨img,hD,hH⟩,hL,hS,hX⟩:=H.out
 obtain ⟨cl,tl⟩:=hL.tag
 obtain ⟨cd,td⟩:=hD.tag
 obtain ⟨cg,tg⟩:=hD.tagg
 have hpl:¬ p=l:=tag_ne hP tl (by decide)
 have hdl:¬ d=l:=tag_ne td tl (by decide)
 have hgl:¬ g=l:=tag_ne tg tl (by decide)
 have hpg:¬ p=g:=tag_ne hP tg (by decide)
 have hpd:¬ d=p:=tag_ne td hP (by decide)
 have hP1:=hP.keeps hk1 hpl
 have hD1:=hD.keeps hk1 hdl hgl
 have hX1:=hX.keepsN (S:=fun k=>k=l) (fun x hx=>by rw [hx];exact hL.noBk) hk1
 have hf1:=fFits hn.1 hS hL.few t s.data.toList
 have HA:=hid (answers_any p l d g b n t img L s hs _ v w1 hP1 hD1 hn hX1 hS.inv hL.few hV1 hf1)
 have H1:=hid (And.intro hP1 (And.intro hD1 (And.intro hL1 (And.intro (fLed_sound hS (n / 8) s.data.toList) (And.intro hk1 (And.intro hV1 (And.intro hf1 (fHolds hH hS hL.few s.data.toList))))))))
 obtain ⟨oa,cap,rfl,-⟩:=hV1.form
 clear H hP hD hL hS hX hP1 hD1 hX1 hL1 hk1 p0 hV1 hf1 hH tl td tg
 go_wp2_with fail
 refine HA.out.mono ?_
 clear HA
 rintro e w2 ⟨b',rfl,hX2,hb2⟩
 obtain ⟨hP1,hD1,hL1,hS1,hk1,hV1,hf1,hH1⟩:=H1.out
 have hP2:=hP1.below hb2
 have hD2:=hD1.below hb2
 have hL2:=hL1.below hb2
 have hV2:=hV1.below hb2
 have pc2:=hP2.c2
 have pf2:=hP2.fz 2
 have pc1:=hP2.c1
 have hkp:Keeps (fun x=>x=p) w2 (w2.setCell ⟨p,2,none⟩ (.pointer (some ⟨b',0,none⟩))):=(Keeps.refl (fun x=>x=p) w2).setCell (p:=⟨p,2,none⟩) (.inl rfl) _
 have hP3:PairH (w2.setCell ⟨p,2,none⟩ (.pointer (some ⟨b',0,none⟩))) p l d b':=hP2.setB
 have hD3:=hD2.keeps hkp hpd (fun e=>hpg e.symm)
 have hL3:=hL2.keepsT (S:=fun x=>x=p) (fun x hx=>by rw [hx];exact hP2.noNode) (fun e=>hpl e.symm) hkp
 have hX3:=hX2.keepsN (S:=fun x=>x=p) (fun x hx=>by rw [hx];exact hP2.noBk) hkp
 have hV3:=hV2.keeps hkp (fun x c hx e=>by rw [e] at hx;exact tag_ne hx hP2 (by decide) rfl)
 have hK3:Keeps (fun x=>x=l\/x=p\/x=g) w (w2.setCell ⟨p,2,none⟩ (.pointer (some ⟨b',0,none⟩))):=((hk1.mono (fun x _ hx=>.inl hx)).trans (below_toKeeps hb2 _)).trans (hkp.mono (fun x _ hx=>.inr (.inl hx)))
 have HAl:=hid (all_any d g n img _ _ _ _ hn.2 hD3 hV3 hf1)
 have H3:=hid (And.intro hP3 (And.intro hD3 (And.intro hL3 (And.intro hS1 (And.intro hX3 (And.intro hK3 hH1))))))
 clear H1 hP1 hD1 hL1 hS1 hk1 hV1 hf1 hH1 hP2 hD2 hL2 hV2 hkp hP3 hD3 hL3 hX3 hV3 hK3 hb2 hX2
 go_wp2_with fail
 refine HAl.out.mono ?_
 clear HAl
 rintro e w4 ⟨rfl,hD4,hk4⟩
 obtain ⟨hP3,hD3,hL3,hS1,hX3,hK3,hH1⟩:=H3.out
 have hP4:=hP3.keeps hk4 hpg
 have hL4:=hL3.keepsT (S:=fun x=>x=g) (fun x hx=>by rw [hx];exact hD3.noNode) (fun e=>hgl e.symm) hk4
 have hX4:=hX3.keepsN (S:=fun x=>x=g) (fun x hx=>by rw [hx];exact hD3.noBk) hk4
 have HE:=hid (show PairI w4 p l d g b' n (L.fTn (n / 8) t s.data.toList) (L.fLed (n / 8) s.data.toList)/\Keeps (fun x=>x=l\/x=p\/x=g) w w4 from ⟨⟨hP4,⟨_,hD4,hH1⟩,hL4,hS1,hX4⟩,hK3.trans (hk4.mono (fun x _ hx=>.inr (.inr hx)))⟩)
 clear H3 hP3 hD3 hL3 hS1 hX3 hK3 hH1 hP4 hL4 hX4 hD4 hk4
 go_wp2
 go_ret
 exact ⟨rfl,b',_,_,HE.out.1,HE.out.2⟩
end
section
open Go.RowKit Go.Shelf
structure PD where
 p:Nat
 l:Nat
 d:Nat
 g:Nat
 b:Nat
 n:Nat
 t:Nat
 L:Led
def PD.I (q:PD) (w:World):Prop:=PairI w q.p q.l q.d q.g q.b q.n q.t q.L
def IsPtr (v:Value):Prop:=∃ x,v=.pointer x
def ptrs (qs:List PD):List Value:=qs.map fun q=>Value.pointer (some ⟨q.p,0,none⟩)
structure WI (B:Nat) (w:World) (wb:Nat) (v:Value) (qs:List PD):Prop where
 box:w.heap[wb]? = some (.cells #[v] 63 (0,0))
 row:w.ownsRow B 76 1 v qs.length (ptrs qs)
 all:∀ g,v.ownBlock=some g->AllC IsPtr w g
 each:∀ q∈qs,q.I w
 ps:qs.Pairwise fun a b=>a.p≠b.p
 ls:qs.Pairwise fun a b=>a.l≠b.l
 gs:qs.Pairwise fun a b=>a.g≠b.g
 far:B<=wb/\∀ q∈qs,B<=q.p/\B<=q.l/\B<=q.g
variable {B:Nat} {w w':World} {wb:Nat} {v:Value} {qs:List PD}
theorem AllC.block {C:Value->Prop} {g:Nat} (h:AllC C w g) (e:w'.heap[g]? = w.heap[g]?):AllC C w' g:=fun o v hv=>h o v (by rw [<- World.cell?_of_block (a:=⟨g,o,none⟩) e];exact hv)
theorem WI.lt (h:WI B w wb v qs):wb<w.heap.size:=(Array.getElem?_eq_some_iff.1 h.box).1
theorem WI.below (h:WI B w wb v qs) (hb:Below w.heap.size w w'):WI B w' wb v qs :=
 ⟨(hb.block wb h.lt).trans h.box,ownsRow_block h.row (fun g hg=>hb.block g (h.row.lt g hg).2),fun g hg=>(h.all g hg).block (hb.block g (h.row.lt g hg).2),fun q hq=>PairI.below (h.each q hq) hb,h.ps,h.ls,h.gs,h.far⟩
theorem WI.row_tag (h:WI B w wb v qs) {g:Nat} (hg:v.ownBlock=some g):∃ c,w.heap[g]? = some (.cells c 76 (0,0)):=by
 rcases h.row.2 with ⟨rfl,_⟩ | ⟨g',cap,cur,rfl,_,hh,_⟩
 ·simp [Value.ownBlock] at hg
 ·have:g'=g:=by simpa [Value.ownBlock] using hg
  subst this
  exact ⟨cur,hh⟩
theorem pw_set {α:Type} {R:α->α->Prop} {l:List α} {i:Nat} {x:α} (hs:∀ a b,R a b->R b a) (h:l.Pairwise R) (hx:∀ j (hj:j<l.length),j≠i->R l[j] x):(l.set i x).Pairwise R:=by
 refine List.pairwise_iff_getElem.2 (fun a c ha hc hac => ?_)
 rw [List.length_set] at ha hc
 rw [List.getElem_set,List.getElem_set]
 split
 ·next e =>
  split
  ·omega
  ·exact hs _ _ (hx c hc (by omega))
 ·split
  ·next e=>exact hx a ha (by omega)
  ·exact List.pairwise_iff_getElem.1 h a c ha hc hac
theorem pw_ne {α:Type} {f:α->Nat} {l:List α} (h:l.Pairwise fun a b=>f a≠f b) {i j:Nat} (hi:i<l.length) (hj:j<l.length) (hne:j≠i):f l[j]≠f l[i]:=by
 rcases Nat.lt_or_gt_of_ne hne with h1 | h1
 ·exact List.pairwise_iff_getElem.1 h j i hj hi h1
 ·exact fun e=>List.pairwise_iff_getElem.1 h i j hi hj h1 e.symm
theorem WI.turn (h:WI B w wb v qs) {i:Nat} (hi:i<qs.length) {q':PD} (hq:q'.p=qs[i].p/\q'.g=qs[i].g/\(q'.l=qs[i].l\/w.heap.size<=q'.l)) (hI:q'.I w') (hk:Keeps (fun x=>x=qs[i].l\/x=qs[i].p\/x=qs[i].g) w w'):WI B w' wb v (qs.set i q'):=by
 have hqi:=h.each _ (List.getElem_mem hi)
 obtain ⟨⟨cp,tp⟩,⟨cl,tl⟩,⟨cd,td⟩,⟨cg,tg⟩⟩:=PairI.kinds hqi
 have hS:=PairI.free hqi
 have hwb:¬ (wb=qs[i].l\/wb=qs[i].p\/wb=qs[i].g):=by
  rintro (e | e | e)
  ·exact tag_ne h.box tl (by decide) e
  ·exact tag_ne h.box tp (by decide) e
  ·exact tag_ne h.box tg (by decide) e
 have hrow:∀ g,v.ownBlock=some g->¬ (g=qs[i].l\/g=qs[i].p\/g=qs[i].g):=by
  intro g hg
  obtain ⟨cr,tr⟩:=h.row_tag hg
  rintro (e | e | e)
  ·exact tag_ne tr tl (by decide) e
  ·exact tag_ne tr tp (by decide) e
  ·exact tag_ne tr tg (by decide) e
 have hlen:(qs.set i q').length=qs.length:=List.length_set ..
 have hptr:ptrs (qs.set i q')=ptrs qs:=by
  unfold ptrs
  rw [List.map_set,hq.1]
  apply List.ext_getElem
  ·simp
  ·intro j h1 h2
   rw [List.getElem_set]
   split
   ·next e=>subst e;simp
   ·rfl
 have hBw:B<=w.heap.size:=by have:=h.far.1;have:=h.lt;omega
 refine ⟨(hk.block wb h.lt hwb).trans h.box,?_,fun g hg=>(h.all g hg).block (hk.block g (h.row.lt g hg).2 (hrow g hg)),?_,?_,?_,?_,⟨h.far.1,?_⟩⟩
 ·rw [hlen,hptr];exact ownsRow_block h.row (fun g hg=>hk.block g (h.row.lt g hg).2 (hrow g hg))
 ·intro q hq2
  obtain ⟨j,hj,rfl⟩:=List.getElem_of_mem hq2
  rw [hlen] at hj
  rw [List.getElem_set]
  split
  ·exact hI
  ·next hne =>
   have hqj:=h.each _ (List.getElem_mem hj)
   obtain ⟨⟨cpj,tpj⟩,⟨clj,tlj⟩,⟨cdj,tdj⟩,⟨cgj,tgj⟩⟩:=PairI.kinds hqj
   refine PairI.keepsT hqj hS ?_ ?_ ?_ ?_ hk
   ·rintro (e | e | e)
    ·exact tag_ne tpj tl (by decide) e
    ·exact pw_ne (f:=PD.p) h.ps hi hj (fun e=>hne e.symm) e
    ·exact tag_ne tpj tg (by decide) e
   ·rintro (e | e | e)
    ·exact pw_ne (f:=PD.l) h.ls hi hj (fun e=>hne e.symm) e
    ·exact tag_ne tlj tp (by decide) e
    ·exact tag_ne tlj tg (by decide) e
   ·rintro (e | e | e)
    ·exact tag_ne tdj tl (by decide) e
    ·exact tag_ne tdj tp (by decide) e
    ·exact tag_ne tdj tg (by decide) e
   ·rintro (e | e | e)
    ·exact tag_ne tgj tl (by decide) e
    ·exact tag_ne tgj tp (by decide) e
    ·exact pw_ne (f:=PD.g) h.gs hi hj (fun e=>hne e.symm) e
 ·refine pw_set (fun a b h e=>h e.symm) h.ps (fun j hj hne => ?_)
  rw [hq.1];exact pw_ne (f:=PD.p) h.ps hi hj hne
 ·refine pw_set (fun a b h e=>h e.symm) h.ls (fun j hj hne => ?_)
  rcases hq.2.2 with e | e
  ·rw [e];exact pw_ne (f:=PD.l) h.ls hi hj hne
  ·have:=(h.each _ (List.getElem_mem hj)).led.lt;omega
 ·refine pw_set (fun a b h e=>h e.symm) h.gs (fun j hj hne => ?_)
  rw [hq.2.1];exact pw_ne (f:=PD.g) h.gs hi hj hne
 ·intro q hq2
  obtain ⟨j,hj,rfl⟩:=List.getElem_of_mem hq2
  rw [hlen] at hj
  rw [List.getElem_set]
  split
  ·have:=h.far.2 _ (List.getElem_mem hi)
   rw [hq.1,hq.2.1]
   refine ⟨this.1,?_,this.2.2⟩
   rcases hq.2.2 with e | e
   ·rw [e];exact this.2.1
   ·omega
  ·exact h.far.2 _ (List.getElem_mem hj)
theorem AllC.noNode {g:Nat} (h:AllC IsPtr w g):NoNodeT w g/\NoBk w g:=by
 refine ⟨⟨fun a l c e => ?_,fun o k e => ?_⟩,fun z y e _ => ?_⟩
 ·obtain ⟨x,hx⟩:=h _ _ e;cases hx
 ·obtain ⟨x,hx⟩:=h _ _ e;cases hx
 ·obtain ⟨x,hx⟩:=h _ _ e;cases hx
theorem WI.cell (h:WI B w wb v qs):w.cell? ⟨wb,0,none⟩=some v:=by simp only [World.cell?,h.box];rfl
theorem WI.fz (h:WI B w wb v qs):w.frozen? ⟨wb,0,none⟩=false:=by simp [World.frozen?,h.box]
theorem WI.noNode (h:WI B w wb v qs):NoNodeT w wb/\NoBk w wb:=by
 have hv:(v=.slice none 0 0)\/∃ g n c,v=.slice (some ⟨g,0,none⟩) n c:=by
  rcases h.row.2 with ⟨hv,_⟩ | ⟨g,cap,cur,hv,_⟩
  ·exact .inl hv
  ·exact .inr ⟨g,_,cap,hv⟩
 refine ⟨⟨fun a l c e => ?_,fun o k e => ?_⟩,fun z y e _ => ?_⟩
 ·rw [h.cell] at e
  injection e with e
  have hg:v.ownBlock=some a.block:=by
   rcases hv with hv | ⟨g,n,c',hv⟩
   ·rw [hv] at e;cases e
   ·rw [hv] at e ⊢;cases e;rfl
  exact (h.all _ hg).noNode.1.2
 ·simp only [World.cell?,h.box] at e
  match o,e with
  | 0,e =>
   injection e with e
   have e:v=Value.int .u32 k:=e
   rcases hv with hv | ⟨g,n,c',hv⟩
   ·rw [hv] at e;cases e
   ·rw [hv] at e;cases e
  | o+1,e=>simp at e
 ·rw [h.cell] at e
  injection e with e
  rcases hv with hv | ⟨g,n,c',hv⟩
  ·rw [hv] at e;cases e
  ·rw [hv] at e;cases e
theorem WI.more (h:WI B w wb v qs) {q:PD} (hq:q.I w) (hn:∀ x∈qs,x.p≠q.p/\x.l≠q.l/\x.g≠q.g) (hf:B<=q.p/\B<=q.l/\B<=q.g) {v7:Value} {w7:World} (ho:w7.ownsRow B 76 1 v7 (qs.length+1) (ptrs qs++[.pointer (some ⟨q.p,0,none⟩)])) (hg:w.grownBy w7 v.ownBlock) (ha:∀ g,v7.ownBlock=some g->AllC IsPtr w7 g) :
  WI B (w7.setCell ⟨wb,0,none⟩ v7) wb v7 (qs++[q]):=by
 have hk7:Keeps (fun g=>v.ownBlock=some g) w w7:=(Keeps.refl _ w).grown hg (fun k e=>.inl e)
 have hrow:∀ g,v.ownBlock=some g->∃ c,w.heap[g]? = some (.cells c 76 (0,0)):=fun g e=>h.row_tag e
 have hwb:¬ v.ownBlock=some wb:=fun e=>by
  obtain ⟨c,t⟩:=hrow wb e
  exact tag_ne t h.box (by decide) rfl
 have hbox7:w7.heap[wb]? = some (.cells #[v] 63 (0,0)):=(hk7.block wb h.lt hwb).trans h.box
 have hks:Keeps (fun x=>x=wb) w7 (w7.setCell ⟨wb,0,none⟩ v7):=(Keeps.refl (fun x=>x=wb) w7).setCell (p:=⟨wb,0,none⟩) (.inl rfl) _
 have hk8:Keeps (fun x=>v.ownBlock=some x\/x=wb) w (w7.setCell ⟨wb,0,none⟩ v7):=(hk7.mono (fun g _ e=>.inl e)).trans (hks.mono (fun g _ e=>.inr e))
 have hS:∀ g,(v.ownBlock=some g\/g=wb)->NoNodeT w g/\NoBk w g:=by
  rintro g (e | rfl)
  ·exact (h.all g e).noNode
  ·exact h.noNode
 have hI8:∀ x:PD,x.I w->x.I (w7.setCell ⟨wb,0,none⟩ v7):=by
  intro x hx
  obtain ⟨⟨cp,tp⟩,⟨cl,tl⟩,⟨cd,td⟩,⟨cg,tg⟩⟩:=PairI.kinds hx
  refine PairI.keepsT hx hS ?_ ?_ ?_ ?_ hk8
  ·rintro (e | e)
   ·obtain ⟨c,t⟩:=hrow _ e;exact tag_ne t tp (by decide) rfl
   ·exact tag_ne tp h.box (by decide) e
  ·rintro (e | e)
   ·obtain ⟨c,t⟩:=hrow _ e;exact tag_ne t tl (by decide) rfl
   ·exact tag_ne tl h.box (by decide) e
  ·rintro (e | e)
   ·obtain ⟨c,t⟩:=hrow _ e;exact tag_ne t td (by decide) rfl
   ·exact tag_ne td h.box (by decide) e
  ·rintro (e | e)
   ·obtain ⟨c,t⟩:=hrow _ e;exact tag_ne t tg (by decide) rfl
   ·exact tag_ne tg h.box (by decide) e
 have hg7:∀ g,v7.ownBlock=some g->¬ g=wb:=by
  intro g e
  rcases ho.2 with ⟨hv,_⟩ | ⟨g',cap,cur,hv,_,hh,_⟩
  ·rw [hv] at e;simp [Value.ownBlock] at e
  ·have:g'=g:=by rw [hv] at e;simpa [Value.ownBlock] using e
   subst this
   exact tag_ne hh hbox7 (by decide)
 refine ⟨heap_setCell_same w7 wb 0 _ _ _ hbox7,?_,fun g e=>(ha g e).block (hks.block g (ho.lt g e).2 (hg7 g e)),?_,?_,?_,?_,⟨h.far.1,?_⟩⟩
 ·rw [List.length_append]
  have:ptrs (qs++[q])=ptrs qs++[.pointer (some ⟨q.p,0,none⟩)]:=by simp [ptrs]
  rw [this]
  exact ownsRow_block ho (fun g e=>hks.block g (ho.lt g e).2 (hg7 g e))
 ·intro x hx
  rcases List.mem_append.1 hx with hx | hx
  ·exact hI8 x (h.each x hx)
  ·rw [List.mem_singleton.1 hx];exact hI8 q hq
 ·exact List.pairwise_append.2 ⟨h.ps,List.pairwise_singleton _ _,fun a ha c hc=>by rw [List.mem_singleton.1 hc];exact (hn a ha).1⟩
 ·exact List.pairwise_append.2 ⟨h.ls,List.pairwise_singleton _ _,fun a ha c hc=>by rw [List.mem_singleton.1 hc];exact (hn a ha).2.1⟩
 ·exact List.pairwise_append.2 ⟨h.gs,List.pairwise_singleton _ _,fun a ha c hc=>by rw [List.mem_singleton.1 hc];exact (hn a ha).2.2⟩
 ·intro x hx
  rcases List.mem_append.1 hx with hx | hx
  ·exact h.far.2 x hx
  ·rw [List.mem_singleton.1 hx];exact hf
def TagK (w w':World):Prop:=∀ (g:Nat) (c:Array Value) (t:TypeId),w.heap[g]? = some (.cells c t (0,0))->t≠113->t≠75->t≠76->t≠63->t≠5->w'.heap[g]? = w.heap[g]?
theorem TagK.trans {a b c:World} (h:TagK a b) (k:TagK b c):TagK a c:=fun g x t hg h1 h2 h3 h4 h5=>(k g x t ((h g x t hg h1 h2 h3 h4 h5).trans hg) h1 h2 h3 h4 h5).trans (h g x t hg h1 h2 h3 h4 h5)
theorem TagK.below {a b:World} (h:Below a.heap.size a b):TagK a b:=fun g _ _ hg _ _ _ _ _=>h.block g (Array.getElem?_eq_some_iff.1 hg).1
theorem TagK.keeps {S:Nat->Prop} {a b:World} (h:Keeps S a b) (hS:∀ g,S g->∃ c t,a.heap[g]? = some (.cells c t (0,0))/\(t=113\/t=75\/t=76\/t=63\/t=5)):TagK a b:=by
 intro g c t hg h1 h2 h3 h4 h5
 refine h.block g (Array.getElem?_eq_some_iff.1 hg).1 (fun hs => ?_)
 obtain ⟨c',t',hg',ht⟩:=hS g hs
 rw [hg] at hg'
 injection hg' with hg'
 injection hg' with _ e _
 subst e
 rcases ht with rfl | rfl | rfl | rfl | rfl
 ·exact h1 rfl
 ·exact h2 rfl
 ·exact h3 rfl
 ·exact h4 rfl
 ·exact h5 rfl
theorem WI.tagTurn (h:WI B w wb v qs) {i:Nat} (hi:i<qs.length) (hk:Keeps (fun x=>x=qs[i].l\/x=qs[i].p\/x=qs[i].g) w w'):TagK w w':=by
 obtain ⟨⟨cp,tp⟩,⟨cl,tl⟩,⟨cd,td⟩,⟨cg,tg⟩⟩:=PairI.kinds (h.each _ (List.getElem_mem hi))
 refine TagK.keeps hk ?_
 rintro x (rfl | rfl | rfl)
 ·exact ⟨_,_,tl,.inl rfl⟩
 ·exact ⟨_,_,tp,.inr (.inl rfl)⟩
 ·exact ⟨_,_,tg,.inr (.inr (.inr (.inr rfl)))⟩
theorem WI.tagMore (h:WI B w wb v qs) {w7:World} {v7:Value} (hg:w.grownBy w7 v.ownBlock):TagK w (w7.setCell ⟨wb,0,none⟩ v7):=by
 have hk7:Keeps (fun g=>v.ownBlock=some g) w w7:=(Keeps.refl _ w).grown hg (fun k e=>.inl e)
 have hks:Keeps (fun x=>x=wb) w7 (w7.setCell ⟨wb,0,none⟩ v7):=(Keeps.refl (fun x=>x=wb) w7).setCell (p:=⟨wb,0,none⟩) (.inl rfl) _
 have hk8:Keeps (fun x=>v.ownBlock=some x\/x=wb) w (w7.setCell ⟨wb,0,none⟩ v7):=(hk7.mono (fun g _ e=>.inl e)).trans (hks.mono (fun g _ e=>.inr e))
 refine TagK.keeps hk8 ?_
 rintro g (e | rfl)
 ·obtain ⟨c,t⟩:=h.row_tag e
  exact ⟨c,_,t,.inr (.inr (.inl rfl))⟩
 ·exact ⟨_,_,h.box,.inr (.inr (.inr (.inl rfl)))⟩
end
end Go.Proofs.YtalncjhldkcmaaaGreat
