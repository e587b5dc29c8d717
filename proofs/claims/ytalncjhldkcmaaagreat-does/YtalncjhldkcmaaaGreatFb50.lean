import Derived.Test.YtalncjhldkcmaaaGreatFb48
import Derived.Test.YtalncjhldkcmaaaGreatFb49
import Derived.Test.YtalncjhldkcmaaaGreatFb07
import Derived.Deep.RegionHeld3
namespace Go.Proofs.YtalncjhldkcmaaaGreat
open _root_.Go.Proofs.Tryz
set_option maxHeartbeats 16000000
set_option maxRecDepth 8000
section
open Go.RowKit Go.Shelf
theorem add_zero_at2 (g j:Nat):(⟨g,0,none⟩:Addr).add j=⟨g,j,none⟩:=by unfold Addr.add;split <;> simp_all
theorem again_any (p l d g b n t:Nat) (L:Led) (w:World) (h:PairI w p l d g b n t L) :
  Calls prog 36 #[.pointer (some ⟨p,0,none⟩)] w fun e w'=>e=.returned (.bool true)/\∃ l',w.heap.size<=l'/\PairI w' p l' d g b n t L/\Keeps (fun x=>x=p) w w':=by
 have hn:=h.n1
 obtain ⟨hP,⟨img,hD,hH⟩,hL,hS,hX⟩:=h
 have HO:=hid (opens_any d g n t img L w hD hH hS hL.few)
 have p1:=hP.c1
 have H:=hid (And.intro hP (And.intro hD (And.intro hH (And.intro hS hX))))
 clear hP hD hH hL hS hX
 go_enter func36,ntmps36
 go_wp2_with fail
 refine HO.out.mono ?_
 clear HO
 rintro e w1 ⟨l',rfl,hL1,hl1,hb1⟩
 obtain ⟨hP,hD,hH,hS,hX⟩:=H.out
 have hP1:=hP.below hb1
 have hD1:=hD.below hb1
 have hX1:=hX.below hb1
 have pc0:=hP1.c0
 have pf0:=hP1.fz 0
 obtain ⟨cd,td⟩:=hD1.tag
 obtain ⟨cg,tg⟩:=hD1.tagg
 obtain ⟨cl,tl⟩:=hL1.tag
 have hpd:¬ d=p:=tag_ne td hP1 (by decide)
 have hpg:¬ g=p:=tag_ne tg hP1 (by decide)
 have hpl:¬ l'=p:=tag_ne tl hP1 (by decide)
 have hdl:¬ d=l':=tag_ne td tl (by decide)
 have hgl:¬ g=l':=tag_ne tg tl (by decide)
 have hkp:Keeps (fun x=>x=p) w1 (w1.setCell ⟨p,0,none⟩ (.pointer (some ⟨l',0,none⟩))):=(Keeps.refl (fun x=>x=p) w1).setCell (p:=⟨p,0,none⟩) (.inl rfl) _
 have hP2:PairH (w1.setCell ⟨p,0,none⟩ (.pointer (some ⟨l',0,none⟩))) p l' d b:=hP1.setL
 have hD2:=hD1.keeps hkp hpd hpg
 have hL2:=hL1.keepsT (S:=fun x=>x=p) (fun x hx=>by rw [hx];exact hP1.noNode) hpl hkp
 have hX2:=hX1.keepsN (S:=fun x=>x=p) (fun x hx=>by rw [hx];exact hP1.noBk) hkp
 have pc2:=hP2.c2
 have HSm:=hid (lsame_any l' (n,t) b (n / 8) L _ hL2 hS.inv hn hX2)
 have H2:=hid (And.intro hP2 (And.intro hD2 (And.intro hH (And.intro hS (And.intro hL2 ((below_toKeeps hb1 (fun x=>x=p)).trans hkp))))))
 have Hl:=hid hl1
 clear H hP hD hH hS hX hP1 hD1 hX1 hL1 hkp hP2 hD2 hL2 hX2 hb1 td tg tl hl1
 go_wp2_with fail
 refine HSm.out.mono ?_
 clear HSm
 rintro e w3 ⟨rfl,hL3,hX3,hk3⟩
 obtain ⟨hP2,hD2,hH,hS,hL2,hk2⟩:=H2.out
 have HE:=hid (show PairI w3 p l' d g b n t L/\Keeps (fun x=>x=p) w w3 from ⟨⟨hP2.keeps hk3 (fun e=>hpl e.symm),⟨img,hD2.keeps hk3 hdl hgl,hH⟩,hL3,hS,hX3⟩,((hk2.mono (T:=fun x=>x=p\/x=l') (fun x _ hx=>.inl hx)).trans (hk3.mono (fun x _ hx=>.inr hx))).mono (fun x hx h=>by have:=Hl.out;omega)⟩)
 clear H2 hP2 hD2 hH hS hL2 hk2 hL3 hX3 hk3 pc0 pf0 pc2
 go_wp2
 go_ret
 exact ⟨rfl,l',Hl.out,HE.out.1,HE.out.2⟩
end
section
open Go.RowKit Go.Shelf
theorem wp_append_allD {P:Program} {C:Value->Prop} (w:World) {o:Oper} {a:Act} {K:Act->World->Prop} {Q:Exit->Act->World->Prop} (d:Option Tmp) (hd:o.dst=d) (s x:Operand) (t:TypeId)
  (ho:o.op=.call { callee:=.builtin .append,args:=#[s,x],argTypes:=#[t,t] })
  (base:Nat) (e:TypeId) (i:TypeInfo) (z:Value) (bytes:Nat) (ht:P.underlying t=some (.slice e)) (hi:P.info? e=some i) (hz:i.zero=some z) (hz0:z.cells=#[z]) (hzC:C z)
  (hCo:∀ u,C u->u.oneCell'=true) (hsize:i.size=1) (hby:i.bytes=bytes)
  (v:Value) (n:Nat) (xs:List Value) (hs:a.eval s=v) (hown:w.ownsRow base e 1 v n xs) (hall:∀ g,v.ownBlock=some g->AllC C w g) (hxs:∀ v∈xs,C v)
  (ad:Addr) (m c:Nat) (news:List Value) (hx:a.eval x=.slice (some ad) m c) (hl:news.length=m) (hnews:∀ j u,news[j]? = some u->w.cell? (ad.add j)=some u) (hn:∀ u∈news,C u)
  (h63:n+m<=maxLen) (hbytes:(n+m)*bytes<=140737488355328) (hbase:base<=w.heap.size)
  (h:∀ v' w',w'.ownsRow base e 1 v' (n+m) (xs++news)->w.grownBy w' v.ownBlock->(∀ g,v'.ownBlock=some g->AllC C w' g)->K (a.put d v') w'):Oper.wp P o a w K Q:=by
 subst hd
 obtain ⟨v',w',hr,h2,h3,h4⟩:=run_append_all (C:=C) (P:=P) w base t o.type e i z bytes ht hi hz hz0 hzC hCo hsize hby v n xs hown hall hxs ad m c news hl hnews hn h63 hbytes hbase
 unfold Oper.wp execOp
 simp only [ho,resolve,invoke,builtin,Sem.run_bind,Sem.run_pure,Result.andThen_ok,List.map_toArray,List.map_cons,List.map_nil,hs,hx,hr]
 exact h v' w' h2 h3 h4
theorem fork_disk {w2:World} {B0 D n:Nat} {v:Value} {img:List UInt8} (hn:16<=n/\n<=256) (hl:img.length=n*128) (ho:w2.ownsRow B0 5 1 v (0+n*128) ([]++Lib.byteCells img)) (ha:∀ g,v.ownBlock=some g->AllC IsU8 w2 g) (hD:w2.heap[D]? = some (.cells #[.slice none 0 0] 88 (0,0))) :
  ∃ g cap,v=.slice (some ⟨g,0,none⟩) (n*128) cap/\B0<=g/\g<w2.heap.size/\DiskH (w2.setCell ⟨D,0,none⟩ v) D g n img:=by
 rcases ho.2 with ⟨_,hv⟩ | ⟨g,cap,cur,hv,hB,hh,h1,h2,h3,h4⟩
 ·omega
 ·rw [Nat.zero_add] at hv h1 h4
  rw [List.nil_append,Nat.mul_one] at h4
  subst hv
  have hne:¬ g=D:=tag_ne hh hD (by decide)
  have hk:Keeps (fun x=>x=D) w2 (w2.setCell ⟨D,0,none⟩ (.slice (some ⟨g,0,none⟩) (n*128) cap)):=(Keeps.refl (fun x=>x=D) w2).setCell (p:=⟨D,0,none⟩) (.inl rfl) _
  refine ⟨g,cap,rfl,hB,(Array.getElem?_eq_some_iff.1 hh).1,⟨cap,h1,h2,heap_setCell_same w2 D 0 _ _ _ hD⟩,⟨cur,keeps_same hk hne hh,h4,allC_cur hh (ha g rfl)⟩,hl⟩
theorem PairI.askedN {w w':World} {p l d g b n t:Nat} {L:Led} (h:PairI w p l d g b n t L) (hL:LedgerAt w' l (n,t) L (n / 8)) (hk:Keeps (fun x=>x=l) w w'):PairI w' p l d g b n t L:=by
 obtain ⟨⟨cp,tp⟩,⟨cl,tl⟩,⟨cd,td⟩,⟨cg,tg⟩⟩:=h.kinds
 obtain ⟨img,h1,h2⟩:=h.disk
 exact ⟨h.pair.keeps hk (tag_ne tp tl (by decide)),⟨img,h1.keeps hk (tag_ne td tl (by decide)) (tag_ne tg tl (by decide)),h2⟩,hL,h.snd,h.bk.keepsN (S:=fun x=>x=l) (fun x hx=>by rw [hx];exact h.led.noBk) hk⟩
def pairW (w5:World) (l D nb:Nat):World:=(w5.alloc (.cells #[.pointer (some ⟨l,0,none⟩),.pointer (some ⟨D,0,none⟩),.pointer (some ⟨nb,0,none⟩)] 75)).alloc (.cells #[.pointer (some ⟨w5.heap.size,0,none⟩)] 76)
theorem pairW_below (w5:World) (l D nb:Nat):Below w5.heap.size w5 (pairW w5 l D nb):=((Below.refl _ w5).alloc nlr _).alloc (by simp) _
theorem pairW_pair (w5:World) (l D nb:Nat):PairH (pairW w5 l D nb) w5.heap.size l D nb:=by
 unfold PairH pairW
 rw [Below.heap_alloc _ _ _ (by simp)]
 exact World.alloc_heap_new w5 _
theorem pairW_cell (w5:World) (l D nb:Nat):∀ j u,[Value.pointer (some ⟨w5.heap.size,0,none⟩)][j]? = some u->(pairW w5 l D nb).cell? ((⟨w5.heap.size+1,0,none⟩:Addr).add j)=some u:=by
 have:=one_cell (w5.alloc (.cells #[.pointer (some ⟨l,0,none⟩),.pointer (some ⟨D,0,none⟩),.pointer (some ⟨nb,0,none⟩)] 75)) (.pointer (some ⟨w5.heap.size,0,none⟩)) 76
 simpa [pairW] using this
theorem pairW_size (w5:World) (l D nb:Nat):(pairW w5 l D nb).heap.size=w5.heap.size+2:=by simp [pairW]
theorem forks_any (B wb:Nat) (v:Value) (qs:List PD) (z:Nat) (hz:z<qs.length) (w:World) (h:WI B w wb v qs) (hB:B<=w.heap.size) (hl:qs.length<=1000) :
  Calls prog 37 #[.pointer (some ⟨wb,0,none⟩),.pointer (some ⟨(qs[z]).p,0,none⟩)] w (StepPost B w wb qs):=by
 have hmx:prog.follows .mixedOrders=true:=by kernel_rfl
 have hqz:=h.each _ (List.getElem_mem hz)
 obtain ⟨hP,⟨img,hD,hH⟩,hL,hS,hX⟩:=hqz
 have hn:=hH.n1
 have hb0:Below w.heap.size w (w.alloc (.cells #[.slice none 0 0] 88)):=(Below.refl _ w).alloc nlr _
 have hN0:=RecAt.new w #[.slice none 0 0] 88
 have hs0:(w.alloc (.cells #[.slice none 0 0] 88)).heap.size=w.heap.size+1:=by simp
 have hP0:=hP.below hb0
 have hD0:=hD.below hb0
 have p1:=hP0.c1
 obtain ⟨cap,hc1,hc2,dc⟩:=hD0.cell
 have n0:(w.alloc (.cells #[.slice none 0 0] 88)).cell? ⟨w.heap.size,0,none⟩=some (.slice none 0 0):=hN0.cell 0
 have f0:(w.alloc (.cells #[.slice none 0 0] 88)).frozen? ⟨w.heap.size,0,none⟩=false:=hN0.fz 0
 have hpw:(qs[z]).p<w.heap.size:=hP.lt
 have hdw:(qs[z]).d<w.heap.size:=hD.lt
 have hpD:¬ (qs[z]).p=w.heap.size:=by omega
 have hdD:¬ (qs[z]).d=w.heap.size:=by omega
 have HLt:=hid (fun x (hx:x∈qs)=>And.intro (h.each x hx).led.lt (PairI.ltg (h.each x hx)))
 have H:=hid (And.intro h (And.intro hb0 (And.intro hN0 (And.intro hD0 (And.intro hs0 (And.intro hH (And.intro hS (And.intro hL.few hB))))))))
 obtain ⟨ib,hib,hz0,hz1,hz2⟩:=info_parts Tryz.infoByte
 have hbl:(Lib.byteCells img).length=(qs[z]).n*128:=by simp [Lib.byteCells,hD.len]
 have hnews:∀ j u,(Lib.byteCells img)[j]? = some u->(w.alloc (.cells #[.slice none 0 0] 88)).drew.cell? ((⟨(qs[z]).g,0,none⟩:Addr).add j)=some u:=by
  intro j u hu
  have hj:j<img.length:=by have:=(List.getElem?_eq_some_iff.1 hu).1;rw [hbl,<- hD.len] at this;exact this
  rw [addr_add]
  show (w.alloc (.cells #[.slice none 0 0] 88)).cell? _=_
  rw [hD0.byte hj,<- hu]
  simp [Lib.byteCells,hj]
 have HN:=hid hnews
 have HBl:=hid hbl
 clear hs0 hN0 hb0 hD0 hP0 hS hH hX hL hD hP h hB hnews hbl
 generalize hpz:(qs[z]).p=p at *
 generalize hdz:(qs[z]).d=d at *
 generalize hgz:(qs[z]).g=g at *
 generalize hnz:(qs[z]).n=n at *
 have HZ:=hid (And.intro hpz (And.intro hdz (And.intro hgz hnz)))
 clear hpz hdz hgz hnz
 go_enter func37,ntmps37
 go_wp2_with fail
 generalize hw0:w.alloc (.cells #[.slice none 0 0] 88)=w0 at *
 generalize hDe:w.heap.size=D at *
 have HD:=hid (And.intro hw0 hDe)
 clear hw0 hDe
 have hsz0:D<=w0.drew.heap.size:=by have:=H.out.2.2.2.2.1;show D<=w0.heap.size;omega
 have hS0:w0.drew.cell? ⟨p,1,none⟩=some (.pointer (some ⟨d,0,none⟩))/\w0.drew.cell? ⟨d,0,none⟩=some (.slice (some ⟨g,0,none⟩) (n*128) cap):=⟨p1,dc⟩
 have n0d:w0.drew.cell? ⟨D,0,none⟩=some (.slice none 0 0):=n0
 refine wp_region_held_drew (S:=(fun u=>u.cell? ⟨p,1,none⟩=some (.pointer (some ⟨d,0,none⟩))/\u.cell? ⟨d,0,none⟩=some (.slice (some ⟨g,0,none⟩) (n*128) cap))) hmx hS0 (fun _ => ?_)
 change wpAnyH _ _ _ _ _ 16 (Array.replicate 16 false) _ _
 refine wpAnyH_tk 0 (some 9) (.pointer (some ⟨D,0,none⟩)) rfl rfl (by kernel_rfl) (by kernel_rfl) (by kernel_rfl) (fun _ _ _ h=>h) (.inl ⟨rfl,fun u hu => ?_⟩) hS0 ?_
 ·simp [go_sem]
 simp only [Act.put,List.setIfInBounds_toArray,List.set_cons_succ,List.set_cons_zero]
 refine wpAnyH_tk 1 (some 10) (.pointer (some ⟨D,0,none⟩)) rfl rfl (by kernel_rfl) (by kernel_rfl) (by kernel_rfl) (fun _ _ _ h=>h) (.inl ⟨rfl,fun u hu => ?_⟩) hS0 ?_
 ·simp [go_sem]
 simp only [Act.put,List.setIfInBounds_toArray,List.set_cons_succ,List.set_cons_zero]
 refine wpAnyH_tk 2 (some 11) (.pointer (some ⟨D,0,none⟩)) rfl rfl (by kernel_rfl) (by kernel_rfl) (by kernel_rfl) (fun _ _ _ h=>h) (.inl ⟨rfl,fun u hu => ?_⟩) hS0 ?_
 ·simp [go_sem]
 simp only [Act.put,List.setIfInBounds_toArray,List.set_cons_succ,List.set_cons_zero]
 refine wpAnyH_tk 3 (some 12) (.pointer (some ⟨D,0,none⟩)) rfl rfl (by kernel_rfl) (by kernel_rfl) (by kernel_rfl) (fun _ _ _ h=>h) (.inl ⟨rfl,fun u hu => ?_⟩) hS0 ?_
 ·simp [go_sem]
 simp only [Act.put,List.setIfInBounds_toArray,List.set_cons_succ,List.set_cons_zero]
 refine wpAnyH_tk 5 (some 14) (.pointer (some ⟨p,0,none⟩)) rfl rfl (by kernel_rfl) (by kernel_rfl) (by kernel_rfl) (fun _ _ _ h=>h) (.inl ⟨rfl,fun u hu => ?_⟩) hS0 ?_
 ·simp [go_sem]
 simp only [Act.put,List.setIfInBounds_toArray,List.set_cons_succ,List.set_cons_zero]
 refine wpAnyH_tk 6 (some 15) (.pointer (some ⟨p,0,none⟩)) rfl rfl (by kernel_rfl) (by kernel_rfl) (by kernel_rfl) (fun _ _ _ h=>h) (.inl ⟨rfl,fun u hu => ?_⟩) hS0 ?_
 ·simp [go_sem]
 simp only [Act.put,List.setIfInBounds_toArray,List.set_cons_succ,List.set_cons_zero]
 refine wpAnyH_tk 7 (some 16) (.pointer (some ⟨p,1,none⟩)) rfl rfl (by kernel_rfl) (by kernel_rfl) (by kernel_rfl) (fun _ _ _ h=>h) (.inl ⟨rfl,fun u hu => ?_⟩) hS0 ?_
 ·simp [go_sem]
 simp only [Act.put,List.setIfInBounds_toArray,List.set_cons_succ,List.set_cons_zero]
 refine wpAnyH_tk 8 (some 17) (.pointer (some ⟨d,0,none⟩)) rfl rfl (by kernel_rfl) (by kernel_rfl) (by kernel_rfl) (fun _ _ _ h=>h) (.inl ⟨rfl,fun u hu => ?_⟩) hS0 ?_
 ·simp [go_sem,hu.1]
 simp only [Act.put,List.setIfInBounds_toArray,List.set_cons_succ,List.set_cons_zero]
 refine wpAnyH_tk 9 (some 18) (.pointer (some ⟨d,0,none⟩)) rfl rfl (by kernel_rfl) (by kernel_rfl) (by kernel_rfl) (fun _ _ _ h=>h) (.inl ⟨rfl,fun u hu => ?_⟩) hS0 ?_
 ·simp [go_sem]
 simp only [Act.put,List.setIfInBounds_toArray,List.set_cons_succ,List.set_cons_zero]
 refine wpAnyH_tk 10 (some 19) (.pointer (some ⟨d,0,none⟩)) rfl rfl (by kernel_rfl) (by kernel_rfl) (by kernel_rfl) (fun _ _ _ h=>h) (.inl ⟨rfl,fun u hu => ?_⟩) hS0 ?_
 ·simp [go_sem]
 simp only [Act.put,List.setIfInBounds_toArray,List.set_cons_succ,List.set_cons_zero]
 refine wpAnyH_tk 11 (some 20) (.slice (some ⟨g,0,none⟩) (n*128) cap) rfl rfl (by kernel_rfl) (by kernel_rfl) (by kernel_rfl) (fun _ _ _ h=>h) (.inl ⟨rfl,fun u hu => ?_⟩) hS0 ?_
 ·simp [go_sem,hu.2]
 simp only [Act.put,List.setIfInBounds_toArray,List.set_cons_succ,List.set_cons_zero]
 refine wpAnyH_one 4 (by kernel_rfl) rfl rfl fun K hK => ?_
 go_simp
 refine hK _ _ hS0 ?_
 clear hK
 refine wpAnyH_one 12 (by kernel_rfl) rfl rfl fun K hK => ?_
 refine wp_append_allD (C:=IsU8) _ (some 21) rfl (.tmp 13) (.tmp 20) 51 rfl D 5 ib (.int .u8 0) 1 underlying51 hib hz0 rfl ⟨_,rfl⟩ (fun u hu=>by obtain ⟨x,rfl⟩:=hu;rfl) hz1 hz2 (.slice none 0 0) 0 [] rfl (World.ownsRow_nil _ _ _ _) (fun g hg=>by cases hg) (fun v hv=>by cases hv) ⟨g,0,none⟩ (n*128) cap (Lib.byteCells img) rfl HBl.out HN.out (byteCells_u8 img) (by unfold maxLen;omega) (by omega) hsz0 ?_
 intro v2 w2 ho2 hg2 ha2
 have hD1:=H.out.2.2.2.2.1
 have hb2:Below w0.heap.size w0 w2:=((Below.refl _ w0).drew).grown hg2 nlr (fun k hk=>by cases hk)
 have p1:=(hb2.cell (p:=⟨p,1,none⟩) (by show p<_;omega)).trans p1
 have dc:=(hb2.cell (p:=⟨d,0,none⟩) (by show d<_;omega)).trans dc
 have n0:=(hb2.cell (p:=⟨D,0,none⟩) (by show D<_;omega)).trans n0
 have f0:=(hb2.frozen (p:=⟨D,0,none⟩) (by show D<_;omega)).trans f0
 obtain ⟨g2,cap2,rfl,hg21,hg22,hDk⟩:=fork_disk (B0:=D) hn H.out.2.2.2.1.len ho2 ha2 ((hb2.block D (by omega)).trans H.out.2.2.1)
 refine hK _ _ ⟨p1,dc⟩ ?_
 clear hK
 simp only [Act.put,List.setIfInBounds_toArray,List.set_cons_succ,List.set_cons_zero]
 refine wpAnyH_tk 13 (some 22) (.pointer (some ⟨D,0,none⟩)) rfl rfl (by kernel_rfl) (by kernel_rfl) (by kernel_rfl) (fun _ _ _ h=>h) (.inl ⟨rfl,fun u hu => ?_⟩) ⟨p1,dc⟩ ?_
 ·simp [go_sem]
 simp only [Act.put,List.setIfInBounds_toArray,List.set_cons_succ,List.set_cons_zero]
 refine wpAnyH_tk 14 (some 23) (.pointer (some ⟨D,0,none⟩)) rfl rfl (by kernel_rfl) (by kernel_rfl) (by kernel_rfl) (fun _ _ _ h=>h) (.inl ⟨rfl,fun u hu => ?_⟩) ⟨p1,dc⟩ ?_
 ·simp [go_sem]
 simp only [Act.put,List.setIfInBounds_toArray,List.set_cons_succ,List.set_cons_zero]
 refine wpAnyH_one 15 (by kernel_rfl) rfl rfl fun K hK => ?_
 have HDk:=hid (And.intro hg21 (And.intro hg22 (And.intro hDk hb2)))
 clear hg21 hg22 hDk ho2 ha2 hg2 hb2 hD1
 go_simp
 refine hK _ _ ⟨(World.cell?_setCell_other _ ⟨D,0,none⟩ ⟨p,1,none⟩ _ (by intro e;injection e with e _ _;omega)).trans p1,(World.cell?_setCell_other _ ⟨D,0,none⟩ ⟨d,0,none⟩ _ (by intro e;injection e with e _ _;omega)).trans dc⟩ ?_
 clear hK
 refine wpAnyH_done (by kernel_rfl) ?_ _
 obtain ⟨hg21,hg22,hDk,hb2⟩:=HDk.out
 obtain ⟨h,hb0,hN0,hD0,hs0,hH,hS,hfw,hBD⟩:=H.out
 have hkD:Keeps (fun x=>x=D) w2 (w2.setCell ⟨D,0,none⟩ (.slice (some ⟨g2,0,none⟩) (n*128) cap2)):=(Keeps.refl (fun x=>x=D) w2).setCell (p:=⟨D,0,none⟩) (.inl rfl) _
 have hDw:=HD.out.2
 have hB02:Below w.heap.size w w2:=(hDw ▸ hb0:Below w.heap.size w w0).trans (hb2.mono (by omega))
 have hB3:Below w.heap.size w (w2.setCell ⟨D,0,none⟩ (.slice (some ⟨g2,0,none⟩) (n*128) cap2)):=hB02.trans (hkD.toBelow (fun k hk=>by omega) hB02.size)
 have hW3:=h.below hB3
 have HO:=hid (opens_any D g2 n (qs[z]).t img (qs[z]).L _ hDk hH hS hfw)
 have H3:=hid (And.intro hW3 (And.intro hB3 (And.intro hDk (And.intro hH (And.intro hS (And.intro hfw (And.intro hBD (And.intro hg21 (And.intro hDw HZ.out)))))))))
 clear H HDk HD HZ hg21 hg22 hDk hb2 h hb0 hN0 hD0 hs0 hH hS hfw hBD hkD hB02 hB3 hW3 p1 dc n0 f0 hsz0 hS0 n0d HN HBl hDw
 generalize w2.setCell ⟨D,0,none⟩ (.slice (some ⟨g2,0,none⟩) (n*128) cap2)=w3 at *
 go_wp2_with fail
 refine HO.out.mono ?_
 clear HO
 rintro e w4 ⟨l',rfl,hL4,hl4,hb4⟩
 obtain ⟨hW3,hB3,hDk,hH,hS,hfw,hBD,hg21,hDw,hpz,hdz,hgz,hnz⟩:=H3.out
 have hW4:=hW3.below hb4
 have hB4:Below w.heap.size w w4:=hB3.trans (hb4.mono hB3.size)
 have hDk4:=hDk.below hb4
 have hqz:=hW4.each _ (List.getElem_mem hz)
 obtain ⟨gr,capr,rfl⟩:=own_form2 (by omega) hW4.row
 have wc:w4.cell? ⟨wb,0,none⟩=some (.slice (some ⟨gr,0,none⟩) qs.length capr):=hW4.cell
 have p2:w4.cell? ⟨p,2,none⟩=some (.pointer (some ⟨(qs[z]).b,0,none⟩)):=by rw [<- hpz];exact hqz.pair.c2
 have HCp:=hid (bcopy_any (b:=(qs[z]).b) (L:=(qs[z]).L) (w:=w4.drew) (hqz.bk.below ((Below.refl _ w4).drew)))
 have H4:=hid (And.intro hW4 (And.intro hB4 (And.intro hDk4 (And.intro hL4 (And.intro hl4 (And.intro hH (And.intro hS (And.intro hBD (And.intro hg21 (And.intro hDw (And.intro hpz hB3.size)))))))))))
 have hpw4:p<w4.heap.size:=by rw [<- hpz];exact hqz.pair.lt
 have hwb4:wb<w4.heap.size:=hW4.lt
 clear H3 hW3 hB3 hDk hH hS hfw hBD hg21 hDw hW4 hB4 hDk4 hqz hL4 hl4 hb4 hpz hdz hgz hnz
 go_wp2_with fail
 obtain ⟨bz,hbz⟩:∃ bz,bz=(qs[z]).b:=⟨_,rfl⟩
 rw [<- hbz] at p2 HCp
 have HBz:=hid hbz
 clear hbz
 have HTg:=hid (show ¬ gr=p/\¬ wb=p/\B<=w4.heap.size by
  obtain ⟨hW4,_,_,_,_,_,_,_,_,_,hpz,_⟩:=H4.out
  obtain ⟨cr,tr⟩:=hW4.row_tag (g:=gr) rfl
  have tp:=(hW4.each _ (List.getElem_mem hz)).pair
  rw [hpz] at tp
  exact ⟨tag_ne tr tp (by decide),tag_ne hW4.box tp (by decide),by have:=hW4.far.1;have:=hW4.lt;omega⟩)
 obtain ⟨ip,hip,hp0,hp1,hp2⟩:=info_parts Tryz.infoPairP
 refine Code.wp_mono (Q:=fun e a' w8=>∃ nb w5 g7 cap7 w7,e=.normal/\a'={ tmps:=#[.pointer (some ⟨wb,0,none⟩),.pointer (some ⟨p,0,none⟩),undef,undef,.bool false,.pointer (some ⟨D,0,none⟩),.pointer (some ⟨l',0,none⟩),.agg #[.slice none 0 0],.pointer (some ⟨D,0,none⟩),.pointer (some ⟨D,0,none⟩),.pointer (some ⟨D,0,none⟩),.pointer (some ⟨D,0,none⟩),.pointer (some ⟨D,0,none⟩),.slice none 0 0,.pointer (some ⟨p,0,none⟩),.pointer (some ⟨p,0,none⟩),.pointer (some ⟨p,1,none⟩),.pointer (some ⟨d,0,none⟩),.pointer (some ⟨d,0,none⟩),.pointer (some ⟨d,0,none⟩),.slice (some ⟨g,0,none⟩) (n*128) cap,.slice (some ⟨g2,0,none⟩) (n*128) cap2,.pointer (some ⟨D,0,none⟩),.pointer (some ⟨D,0,none⟩),.pointer (some ⟨D,0,none⟩),.pointer (some ⟨l',0,none⟩),.pointer (some ⟨l',0,none⟩),.bool false,.pointer (some ⟨wb,0,none⟩),.pointer (some ⟨wb,0,none⟩),.pointer (some ⟨wb,0,none⟩),.pointer (some ⟨wb,0,none⟩),.slice (some ⟨gr,0,none⟩) qs.length capr,.pointer (some ⟨l',0,none⟩),.pointer (some ⟨D,0,none⟩),.pointer (some ⟨p,0,none⟩),.pointer (some ⟨p,0,none⟩),.pointer (some ⟨p,2,none⟩),.pointer (some ⟨bz,0,none⟩),.pointer (some ⟨nb,0,none⟩),.agg #[.pointer (some ⟨l',0,none⟩),.pointer (some ⟨D,0,none⟩),.pointer (some ⟨nb,0,none⟩)],.pointer (some ⟨w5.heap.size,0,none⟩),.slice (some ⟨w5.heap.size+1,0,none⟩) 1 1,.slice (some ⟨g7,0,none⟩) (qs.length+1) cap7,.pointer (some ⟨wb,0,none⟩),.pointer (some ⟨wb,0,none⟩),undef,undef,undef,undef,undef,undef],defers:=[] }/\w8=w7.setCell ⟨wb,0,none⟩ (.slice (some ⟨g7,0,none⟩) (qs.length+1) cap7)/\BkX w4.heap.size w5 nb (qs[z]).L/\Below w4.heap.size w4 w5/\w7.ownsRow B 76 1 (.slice (some ⟨g7,0,none⟩) (qs.length+1) cap7) (qs.length+1) (ptrs qs++[.pointer (some ⟨w5.heap.size,0,none⟩)])/\(pairW w5 l' D nb).grownBy w7 (some gr)/\∀ g,Value.ownBlock (.slice (some ⟨g7,0,none⟩) (qs.length+1) cap7)=some g->AllC IsPtr w7 g) ?imp ?reg
 case reg =>
  have hS0:w4.drew.cell? ⟨p,2,none⟩=some (.pointer (some ⟨bz,0,none⟩)):=p2
  have wcd:w4.drew.cell? ⟨wb,0,none⟩=some (.slice (some ⟨gr,0,none⟩) qs.length capr):=wc
  refine wp_region_held_drew (S:=fun u=>u.cell? ⟨p,2,none⟩=some (.pointer (some ⟨bz,0,none⟩))) hmx hS0 (fun _ => ?_)
  change wpAnyH _ _ _ _ _ 19 (Array.replicate 19 false) _ _
  refine wpAnyH_tk 0 (some 28) (.pointer (some ⟨wb,0,none⟩)) rfl rfl (by kernel_rfl) (by kernel_rfl) (by kernel_rfl) (fun _ _ _ h=>by obtain ⟨_,_,_,_,_,h,_⟩:=h;cases h) (.inl ⟨rfl,fun u hu => ?_⟩) hS0 ?_
  ·simp [go_sem]
  simp only [Act.put,List.setIfInBounds_toArray,List.set_cons_succ,List.set_cons_zero]
  refine wpAnyH_tk 1 (some 29) (.pointer (some ⟨wb,0,none⟩)) rfl rfl (by kernel_rfl) (by kernel_rfl) (by kernel_rfl) (fun _ _ _ h=>by obtain ⟨_,_,_,_,_,h,_⟩:=h;cases h) (.inl ⟨rfl,fun u hu => ?_⟩) hS0 ?_
  ·simp [go_sem]
  simp only [Act.put,List.setIfInBounds_toArray,List.set_cons_succ,List.set_cons_zero]
  refine wpAnyH_tk 2 (some 30) (.pointer (some ⟨wb,0,none⟩)) rfl rfl (by kernel_rfl) (by kernel_rfl) (by kernel_rfl) (fun _ _ _ h=>by obtain ⟨_,_,_,_,_,h,_⟩:=h;cases h) (.inl ⟨rfl,fun u hu => ?_⟩) hS0 ?_
  ·simp [go_sem]
  simp only [Act.put,List.setIfInBounds_toArray,List.set_cons_succ,List.set_cons_zero]
  refine wpAnyH_tk 3 (some 31) (.pointer (some ⟨wb,0,none⟩)) rfl rfl (by kernel_rfl) (by kernel_rfl) (by kernel_rfl) (fun _ _ _ h=>by obtain ⟨_,_,_,_,_,h,_⟩:=h;cases h) (.inl ⟨rfl,fun u hu => ?_⟩) hS0 ?_
  ·simp [go_sem]
  simp only [Act.put,List.setIfInBounds_toArray,List.set_cons_succ,List.set_cons_zero]
  refine wpAnyH_tk 5 (some 33) (.pointer (some ⟨l',0,none⟩)) rfl rfl (by kernel_rfl) (by kernel_rfl) (by kernel_rfl) (fun _ _ _ h=>by obtain ⟨_,_,_,_,_,h,_⟩:=h;cases h) (.inl ⟨rfl,fun u hu => ?_⟩) hS0 ?_
  ·simp [go_sem]
  simp only [Act.put,List.setIfInBounds_toArray,List.set_cons_succ,List.set_cons_zero]
  refine wpAnyH_tk 6 (some 34) (.pointer (some ⟨D,0,none⟩)) rfl rfl (by kernel_rfl) (by kernel_rfl) (by kernel_rfl) (fun _ _ _ h=>by obtain ⟨_,_,_,_,_,h,_⟩:=h;cases h) (.inl ⟨rfl,fun u hu => ?_⟩) hS0 ?_
  ·simp [go_sem]
  simp only [Act.put,List.setIfInBounds_toArray,List.set_cons_succ,List.set_cons_zero]
  refine wpAnyH_tk 7 (some 35) (.pointer (some ⟨p,0,none⟩)) rfl rfl (by kernel_rfl) (by kernel_rfl) (by kernel_rfl) (fun _ _ _ h=>by obtain ⟨_,_,_,_,_,h,_⟩:=h;cases h) (.inl ⟨rfl,fun u hu => ?_⟩) hS0 ?_
  ·simp [go_sem]
  simp only [Act.put,List.setIfInBounds_toArray,List.set_cons_succ,List.set_cons_zero]
  refine wpAnyH_tk 8 (some 36) (.pointer (some ⟨p,0,none⟩)) rfl rfl (by kernel_rfl) (by kernel_rfl) (by kernel_rfl) (fun _ _ _ h=>by obtain ⟨_,_,_,_,_,h,_⟩:=h;cases h) (.inl ⟨rfl,fun u hu => ?_⟩) hS0 ?_
  ·simp [go_sem]
  simp only [Act.put,List.setIfInBounds_toArray,List.set_cons_succ,List.set_cons_zero]
  refine wpAnyH_tk 9 (some 37) (.pointer (some ⟨p,2,none⟩)) rfl rfl (by kernel_rfl) (by kernel_rfl) (by kernel_rfl) (fun _ _ _ h=>by obtain ⟨_,_,_,_,_,h,_⟩:=h;cases h) (.inl ⟨rfl,fun u hu => ?_⟩) hS0 ?_
  ·simp [go_sem]
  simp only [Act.put,List.setIfInBounds_toArray,List.set_cons_succ,List.set_cons_zero]
  refine wpAnyH_tk 10 (some 38) (.pointer (some ⟨bz,0,none⟩)) rfl rfl (by kernel_rfl) (by kernel_rfl) (by kernel_rfl) (fun _ _ _ h=>by obtain ⟨_,_,_,_,_,h,_⟩:=h;cases h) (.inl ⟨rfl,fun u hu => ?_⟩) hS0 ?_
  ·simp [go_sem,hu]
  simp only [Act.put,List.setIfInBounds_toArray,List.set_cons_succ,List.set_cons_zero]
  refine wpAnyH_two 4 11 (by kernel_rfl) rfl rfl rfl rfl (fun K hK => ?_) (fun K hK => ?_)
  go_simp
  refine hK _ _ hS0 ?_
  clear hK
  refine wpAnyH_one 11 (by kernel_rfl) rfl rfl fun K hK => ?_
  all_goals
   go_simp
   refine HCp.out.mono ?_
   rintro e w5 ⟨nb,rfl,hX5,hb5⟩
   have hX5:BkX w4.heap.size w5 nb (qs[z]).L:=hX5
   have hB5:Below w4.heap.size w4 w5:=(Below.refl _ w4).drew.trans hb5
   have hs5:=hB5.size
   have hS5:=(hB5.cell (p:=⟨p,2,none⟩) hpw4).trans p2
   have wc5:=(hB5.cell (p:=⟨wb,0,none⟩) hwb4).trans wc
   have hba:=(Below.refl _ w5).alloc nlr (.cells #[.pointer (some ⟨l',0,none⟩),.pointer (some ⟨D,0,none⟩),.pointer (some ⟨nb,0,none⟩)] 75)
   have hS6:=(hba.cell (p:=⟨p,2,none⟩) (by show p<_;omega)).trans hS5
   have wc6:=(hba.cell (p:=⟨wb,0,none⟩) (by show wb<_;omega)).trans wc5
   have hS7:=((pairW_below w5 l' D nb).cell (p:=⟨p,2,none⟩) (by show p<_;omega)).trans hS5
   have wc7:=((pairW_below w5 l' D nb).cell (p:=⟨wb,0,none⟩) (by show wb<_;omega)).trans wc5
   have HX5:=hid (And.intro hX5 hB5)
   clear hX5 hb5 hB5 hba
   refine hK _ _ hS5 ?_
   clear hK
  rotate_left 1
  refine wpAnyH_two 4 12 (by kernel_rfl) rfl rfl rfl rfl (fun K hK => ?_) (fun K hK => ?_)
  go_simp
  refine hK _ _ hS5 ?_
  clear hK
  refine wpAnyH_one 12 (by kernel_rfl) rfl rfl fun K hK => ?_
  rotate_left 2
  iterate 1 (refine wpAnyH_one 12 (by kernel_rfl) rfl rfl fun K hK => ?_;rotate_left 1)
  all_goals
   go_simp
   refine hK _ _ hS5 ?_
   clear hK
  rotate_left 1
  refine wpAnyH_two 4 13 (by kernel_rfl) rfl rfl rfl rfl (fun K hK => ?_) (fun K hK => ?_)
  go_simp
  refine hK _ _ hS5 ?_
  clear hK
  refine wpAnyH_one 13 (by kernel_rfl) rfl rfl fun K hK => ?_
  rotate_left 2
  iterate 2 (refine wpAnyH_one 13 (by kernel_rfl) rfl rfl fun K hK => ?_;rotate_left 1)
  all_goals
   go_simp
   refine hK _ _ hS6 ?_
   clear hK
  rotate_left 1
  refine wpAnyH_two 4 14 (by kernel_rfl) rfl rfl rfl rfl (fun K hK => ?_) (fun K hK => ?_)
  go_simp
  refine hK _ _ hS6 ?_
  clear hK
  refine wpAnyH_one 14 (by kernel_rfl) rfl rfl fun K hK => ?_
  rotate_left 2
  iterate 3 (refine wpAnyH_one 14 (by kernel_rfl) rfl rfl fun K hK => ?_;rotate_left 1)
  all_goals
   go_simp
   refine hK _ _ hS7 ?_
   clear hK
   change wpAnyH _ _ _ _ _ _ _ _ (pairW w5 l' D nb)
  rotate_left 1
  refine wpAnyH_one 4 (by kernel_rfl) rfl rfl fun K hK => ?_
  go_simp
  refine hK _ _ hS7 ?_
  clear hK
  all_goals
   refine wpAnyH_one 15 (by kernel_rfl) rfl rfl fun K hK => ?_
   have hW6:=H4.out.1.below (HX5.out.2.trans ((pairW_below w5 l' D nb).mono (by omega)))
   have hsW:=pairW_size w5 l' D nb
   refine wp_append_allD (C:=IsPtr) (pairW w5 l' D nb) (some 43) rfl (.tmp 32) (.tmp 42) 61 rfl B 76 ip (.pointer none) 8 underlying61 hip hp0 rfl ⟨_,rfl⟩ (fun u hu=>by obtain ⟨x,rfl⟩:=hu;rfl) hp1 hp2 (.slice (some ⟨gr,0,none⟩) qs.length capr) qs.length (ptrs qs) rfl hW6.row hW6.all (fun u hu=>by obtain ⟨x,_,rfl⟩:=List.mem_map.1 hu;exact ⟨_,rfl⟩) ⟨w5.heap.size+1,0,none⟩ 1 1 [.pointer (some ⟨w5.heap.size,0,none⟩)] rfl rfl (pairW_cell w5 l' D nb) (fun u hu=>by simp at hu;subst hu;exact ⟨_,rfl⟩) (by unfold maxLen;omega) (by omega) (by have:=HTg.out.2.2;omega) ?_
   intro v7 w7 ho7 hg7 ha7
   obtain ⟨g7,cap7,rfl⟩:=own_form ho7
   obtain ⟨wc8,wf8⟩:=hW6.grown_box hg7
   have hS8:w7.cell? ⟨p,2,none⟩=some (.pointer (some ⟨bz,0,none⟩)):=hg7.cell hS7 (fun e=>HTg.out.1 (by simpa [Value.ownBlock] using e.symm))
   refine hK _ _ hS8 ?_
   clear hK
   simp only [Act.put,List.setIfInBounds_toArray,List.set_cons_succ,List.set_cons_zero]
   refine wpAnyH_tk 16 (some 44) (.pointer (some ⟨wb,0,none⟩)) rfl rfl (by kernel_rfl) (by kernel_rfl) (by kernel_rfl) (fun _ _ _ h=>by obtain ⟨_,_,_,_,_,h,_⟩:=h;cases h) (.inl ⟨rfl,fun u hu => ?_⟩) hS8 ?_
   ·simp [go_sem]
   simp only [Act.put,List.setIfInBounds_toArray,List.set_cons_succ,List.set_cons_zero]
   refine wpAnyH_tk 17 (some 45) (.pointer (some ⟨wb,0,none⟩)) rfl rfl (by kernel_rfl) (by kernel_rfl) (by kernel_rfl) (fun _ _ _ h=>by obtain ⟨_,_,_,_,_,h,_⟩:=h;cases h) (.inl ⟨rfl,fun u hu => ?_⟩) hS8 ?_
   ·simp [go_sem]
   simp only [Act.put,List.setIfInBounds_toArray,List.set_cons_succ,List.set_cons_zero]
   refine wpAnyH_one 18 (by kernel_rfl) rfl rfl fun K hK => ?_
   have HF:=hid (And.intro ho7 (And.intro hg7 ha7))
   clear ho7 hg7 ha7 hW6
   go_simp
   refine hK _ _ ((World.cell?_setCell_other _ ⟨wb,0,none⟩ ⟨p,2,none⟩ _ (by intro e;injection e with e _ _;exact HTg.out.2.1 e)).trans hS8) ?_
   clear hK
   refine wpAnyH_done (by kernel_rfl) ?_ _
   exact ⟨nb,w5,g7,cap7,w7,rfl,rfl,rfl,HX5.out.1,HX5.out.2,HF.out.1,HF.out.2.1,HF.out.2.2⟩
 case imp =>
  rintro e a' w8 ⟨nb,w5,g7,cap7,w7,rfl,rfl,rfl,hX5,hB5,ho7,hg7,ha7⟩
  obtain ⟨hW4,hB4,hDk4,hL4,hl4,hH,hS,hBD,hg21,hDw,hpz,hw3⟩:=H4.out
  have hBW:Below w4.heap.size w4 (pairW w5 l' D nb):=hB5.trans ((pairW_below w5 l' D nb).mono hB5.size)
  have hW6:=hW4.below hBW
  have hq:PD.I ⟨w5.heap.size,l',D,g2,nb,n,(qs[z]).t,(qs[z]).L⟩ (pairW w5 l' D nb):=⟨pairW_pair w5 l' D nb,⟨img,hDk4.below hBW,hH⟩,hL4.below hBW,hS,(hX5.any).below (pairW_below w5 l' D nb)⟩
  have hW8:=hW6.more hq (fun x hx=>⟨by have:=(hW4.each x hx).pair.lt;have:=hB5.size;show x.p≠w5.heap.size;omega,by have:=(HLt.out x hx).1;show x.l≠l';omega,by have:=(HLt.out x hx).2;show x.g≠g2;omega⟩) ⟨by have:=HTg.out.2.2;have:=hB5.size;show B<=w5.heap.size;omega,by show B<=l';omega,by show B<=g2;omega⟩ ho7 hg7 ha7
  have hk7:Keeps (fun g=>B<=g) w w7:=((below_toKeeps hB4 (fun g=>B<=g)).trans (below_toKeeps hBW _)).grown hg7 (fun k e=>.inl (by have:=(hW6.row.lt k (by simpa [Value.ownBlock] using e)).1;exact this))
  have hk8:Keeps (fun g=>B<=g) w (w7.setCell ⟨wb,0,none⟩ (.slice (some ⟨g7,0,none⟩) (qs.length+1) cap7)):=hk7.setCell (p:=⟨wb,0,none⟩) (.inl hW6.far.1) _
  have ht8:TagK w (w7.setCell ⟨wb,0,none⟩ (.slice (some ⟨g7,0,none⟩) (qs.length+1) cap7)):=((TagK.below hB4).trans (TagK.below hBW)).trans (hW6.tagMore hg7)
  have hz8:z<(qs++[(⟨w5.heap.size,l',D,g2,nb,n,(qs[z]).t,(qs[z]).L⟩:PD)]).length:=by simp;omega
  have hqz8:=hW8.each _ (List.mem_append_left _ (List.getElem_mem hz))
  have hqn8:=hW8.each _ (List.mem_append_right _ (List.mem_singleton.2 rfl))
  have p28:=hqz8.pair.c2
  rw [hpz] at p28
  have HSm:=hid (lsame_any l' (n,(qs[z]).t) (qs[z]).b (n / 8) (qs[z]).L _ hqn8.led hS.inv hn hqz8.bk)
  have H8:=hid (And.intro hW8 (And.intro hk8 (And.intro ht8 (And.intro hqn8 (show B<=l' by omega)))))
  rw [HBz.out] at *
  clear hW4 hB4 hDk4 hL4 hl4 hH hS hBD hg21 hDw hpz hw3 hBW hW6 hq hW8 hk7 hk8 ht8 hqz8 hqn8 ho7 hg7 ha7 hX5 hB5 H4 HTg HLt wc p2 HCp hz8 hip hp0 hp1 hp2
  generalize w7.setCell ⟨wb,0,none⟩ (.slice (some ⟨g7,0,none⟩) (qs.length+1) cap7)=w8 at *
  go_wp2_with fail
  refine HSm.out.mono ?_
  clear HSm
  rintro e w9 ⟨rfl,hL9,_,hk9⟩
  obtain ⟨hW8,hk8,ht8,hqn8,hBl⟩:=H8.out
  have hi8:qs.length<(qs++[(⟨w5.heap.size,l',D,g2,nb,n,(qs[z]).t,(qs[z]).L⟩:PD)]).length:=by simp
  have hqe:(qs++[(⟨w5.heap.size,l',D,g2,nb,n,(qs[z]).t,(qs[z]).L⟩:PD)])[qs.length]'hi8=⟨w5.heap.size,l',D,g2,nb,n,(qs[z]).t,(qs[z]).L⟩:=by simp
  have hI9:PD.I ⟨w5.heap.size,l',D,g2,nb,n,(qs[z]).t,(qs[z]).L⟩ w9:=PairI.askedN hqn8 hL9 hk9
  have hk9':Keeps (fun x=>x=((qs++[(⟨w5.heap.size,l',D,g2,nb,n,(qs[z]).t,(qs[z]).L⟩:PD)])[qs.length]'hi8).l\/x=((qs++[(⟨w5.heap.size,l',D,g2,nb,n,(qs[z]).t,(qs[z]).L⟩:PD)])[qs.length]'hi8).p\/x=((qs++[(⟨w5.heap.size,l',D,g2,nb,n,(qs[z]).t,(qs[z]).L⟩:PD)])[qs.length]'hi8).g) w8 w9:=by
   rw [hqe];exact hk9.mono (fun x _ hx=>.inl hx)
  have hW9:=hW8.turn hi8 (q':=⟨w5.heap.size,l',D,g2,nb,n,(qs[z]).t,(qs[z]).L⟩) (by rw [hqe];exact ⟨rfl,rfl,.inl rfl⟩) hI9 hk9'
  have HE:=hid (show StepPost B w wb qs (.returned (.bool true)) w9 from ⟨rfl,_,_,hW9,by rw [List.length_set];simp,by rw [List.length_set];simp,hk8.trans (hk9.mono (fun x _ hx=>by rw [hx];exact hBl)),ht8.trans (hW8.tagTurn hi8 hk9')⟩)
  clear hW8 hk8 ht8 hqn8 hi8 hqe hI9 hk9' hW9 hL9 hk9 H8 p28
  go_wp2
  go_ret
  exact HE.out
end
section
open Go.RowKit Go.Shelf
def OpD.cell (o:OpD) (j:Nat):Value:=[Value.int .i64 o.k,.int .i64 o.on,.int .i64 (o.c 0),.int .i64 (o.c 1),.int .i64 (o.c 2),.int .i64 (o.c 3),.int .i64 (o.c 4),.int .i64 (o.c 5),.int .i64 (o.c 6),.int .i64 (o.c 7),.int .i64 (o.c 8),.string o.fr,.int .i64 o.nn,.int .i64 (o.l 0),.int .i64 (o.l 1),.int .i64 (o.l 2),.int .i64 (o.l 3)].getD j undef
def OpsIn (w:World) (v:Value) (n:Nat) (R:Nat->OpD):Prop:=∃ oa cap,v=.slice oa n cap/\n<=maxLen/\∀ i,i<n->∃ a:Addr,oa=some a/\a.block<w.heap.size/\(∀ j,j<17->w.cell? (a.add (i*17+j))=some ((R i).cell j))/\I64 (R i).on/\I64 (R i).nn/\(R i).fr.size<=maxLen/\∀ j,j<4->I64 ((R i).l j)
theorem lpick_256 (w:World):Calls prog 31 #[.int .i64 256,.int .i64 300] w fun e w'=>e=.returned (.int .i64 (256:Nat))/\w'=w:=by
 go_enter func31,ntmps31
 go_wp2
 go_ret
 exact ⟨rfl,rfl⟩
theorem PairI.asked {w w':World} {p l d g b n t:Nat} {L:Led} (h:PairI w p l d g b n t L) (hL:LedgerAt w' l (n,t) L (n / 8)) (hX:BkX 0 w' b L) (hk:Keeps (fun x=>x=l) w w'):PairI w' p l d g b n t L:=by
 obtain ⟨⟨cp,tp⟩,⟨cl,tl⟩,⟨cd,td⟩,⟨cg,tg⟩⟩:=h.kinds
 obtain ⟨img,h1,h2⟩:=h.disk
 exact ⟨h.pair.keeps hk (tag_ne tp tl (by decide)),⟨img,h1.keeps hk (tag_ne td tl (by decide)) (tag_ne tg tl (by decide)),h2⟩,hL,h.snd,hX⟩
def StepsTo (hi:Int):Prop:=∀ (B wb:Nat) (v:Value) (qs:List PD) (o:OpD),1<=o.k->o.k<=hi->I64 o.on->I64 o.nn->o.fr.size<=maxLen->(∀ j,j<4->I64 (o.l j))->∀ w:World,WI B w wb v qs->B<=w.heap.size->qs.length<=900->1<=qs.length ->
  Calls prog 25 #[.pointer (some ⟨wb,0,none⟩),o.val] w (StepPost B w wb qs)
structure PW (w:World) (wb:Nat) (m:Nat) (wr:World):Prop where
 wi:∃ v qs,WI w.heap.size wr wb v qs/\1<=qs.length/\qs.length<=m
 bel:Below w.heap.size w wr
theorem PW.step {w:World} {wb m:Nat} {wr w':World} (h:PW w wb m wr) {e:Ending} {v:Value} {qs:List PD} (hv:WI w.heap.size wr wb v qs/\1<=qs.length/\qs.length<=m) (hp:StepPost w.heap.size wr wb qs e w'):e=.returned (.bool true)/\PW w wb (m+1) w'/\TagK wr w':=by
 obtain ⟨he,v',qs',h1,h2,h3,h4,h5⟩:=hp
 exact ⟨he,⟨⟨v',qs',h1,by omega,by omega⟩,below_keeps h.bel h4 (fun _ e=>e)⟩,h5⟩
theorem lplays_any (hi:Int) (h3:3<=hi) (HSt:Hid (StepsTo hi)) (v:Value) (n:Nat) (R:Nat->OpD) (w:World) (hR:OpsIn w v n R) :
  Calls prog 11 #[v,.int .i64 hi] w fun e w'=>e=.returned (.bool true)/\Below w.heap.size w w':=by
 have HR:=hid hR
 obtain ⟨oa,cap,rfl,hn,hel⟩:=hR
 have HEl:=hid hel
 clear hel HR
 have hb0:Below w.heap.size w (w.alloc (.cells #[.slice none 0 0] 63)):=(Below.refl _ w).alloc nlr _
 have hW0:WI w.heap.size (w.alloc (.cells #[.slice none 0 0] 63)) w.heap.size (.slice none 0 0) []:=⟨heap_alloc_new w _,World.ownsRow_nil _ _ _ _,(fun g hg=>by simp [Value.ownBlock] at hg),(fun q hq=>by cases hq),List.Pairwise.nil,List.Pairwise.nil,List.Pairwise.nil,⟨Nat.le_refl _,fun q hq=>by cases hq⟩⟩
 have HBg:=hid (begins_any w.heap.size w.heap.size (.slice none 0 0) [] 256 256 (by omega) (hid (fun u=>lpick_256 u)) _ hW0 hb0.size (by simp))
 have HB0:=hid hb0
 clear hb0 hW0
 go_enter func11,ntmps11
 go_wp2_with fail
 refine HBg.out.mono ?_
 clear HBg
 rintro e w1 ⟨rfl,v1,qs1,hW1,h1,h2,h3,h4,h5⟩
 have hP1:PW w w.heap.size 1 w1:=⟨⟨v1,qs1,hW1,by have:=h3 ⟨by omega,by omega⟩;omega,by simpa using h1⟩,below_keeps HB0.out h4 (fun _ e=>e)⟩
 have HP:=hid hP1
 clear HB0 hW1 h1 h2 h3 h4 h5 hP1
 generalize hwb:w.heap.size=wb at *
 have HWb:=hid hwb
 clear hwb
 go_wp2_with fail
 go_loopg [6,8] 3 (fun gk okv iv wr=>∃ j:Nat,j+gk=3/\okv=.bool true/\iv=.int .i64 j/\PW w wb (1+j) wr/\wr.heap[w1.heap.size]? = some (.cells #[.int .i64 1,.int .i64 0,.int .i64 0,.int .i64 0,.int .i64 0,.int .i64 1,.int .i64 0,.int .i64 0,.int .i64 3,.int .i64 2,.int .i64 5,.int .i64 0,.int .i64 2,.int .i64 100,.int .i64 1,.int .i64 0,.int .i64 1,.int .i64 0,.int .i64 12,.int .i64 5,.int .i64 0,.int .i64 0,.int .i64 0,.int .i64 0,.int .i64 0,.int .i64 0,.int .i64 0] 31 (0,0)))
 case atStart =>
  refine ⟨0,by omega,rfl,rfl,?_,?_⟩
  ·exact ⟨HP.out.wi.elim fun v h=>h.elim fun qs h=>⟨v,qs,h.1.below ((Below.refl _ w1).alloc nlr _),h.2⟩,HP.out.bel.trans (((Below.refl _ w1).alloc nlr _).mono HP.out.bel.size)⟩
  ·exact heap_alloc_new w1 _
 case round =>
  clear HP
  generalize w1.heap.size=cb at *
  obtain ⟨j,hj3,rfl,rfl,hP,hC⟩:=hrel
  have hj:j=0\/j=1\/j=2\/j=3:=by omega
  rcases hj with e | e | e | e
  ·subst e
   have c0:wr.cell? ⟨cb,0,none⟩=some (.int .i64 1):=by simp only [World.cell?,hC];rfl
   have c1:wr.cell? ⟨cb,1,none⟩=some (.int .i64 0):=by simp only [World.cell?,hC];rfl
   have c2:wr.cell? ⟨cb,2,none⟩=some (.int .i64 0):=by simp only [World.cell?,hC];rfl
   have c3:wr.cell? ⟨cb,3,none⟩=some (.int .i64 0):=by simp only [World.cell?,hC];rfl
   have c4:wr.cell? ⟨cb,4,none⟩=some (.int .i64 0):=by simp only [World.cell?,hC];rfl
   have c5:wr.cell? ⟨cb,5,none⟩=some (.int .i64 1):=by simp only [World.cell?,hC];rfl
   have c6:wr.cell? ⟨cb,6,none⟩=some (.int .i64 0):=by simp only [World.cell?,hC];rfl
   have c7:wr.cell? ⟨cb,7,none⟩=some (.int .i64 0):=by simp only [World.cell?,hC];rfl
   have c8:wr.cell? ⟨cb,8,none⟩=some (.int .i64 3):=by simp only [World.cell?,hC];rfl
   obtain ⟨v,qs,hv⟩:=hP.wi
   have HS:=hid (HSt.out w.heap.size wb v qs ⟨2,0,fun i=>([1,0,0,0,0,1,0,0,3]:List Int).getD i 0,⟨#[]⟩,0,fun _=>0⟩ (by decide) (show (2:Int)<=hi by omega) ⟨by decide,by decide⟩ ⟨by decide,by decide⟩ (by decide) (fun _ _=>⟨by show (-9223372036854775808:Int)<=0;decide,by show (0:Int)<=9223372036854775807;decide⟩) wr hv.1 hP.bel.size (by omega) hv.2.1)
   have HPP:=hid hP
   have HV:=hid hv
   have HCC:=hid hC
   unfold OpD.val at HS
   clear hP hv hC
   go_wp2_with fail
   refine HS.out.mono ?_
   clear HS
   intro e w2 hsp
   obtain ⟨rfl,hP2,ht2⟩:=HPP.out.step HV.out hsp
   have HE:=hid (And.intro hP2 ((ht2 cb _ _ HCC.out (by decide) (by decide) (by decide) (by decide) (by decide)).trans HCC.out))
   clear HPP HV HCC hsp hP2 ht2
   go_wp2_with fail
   go_roundg 2
   case measure=>omega
   case rel=>exact ⟨1,by omega,rfl,by go_num,HE.out.1,HE.out.2⟩
  ·subst e
   have c0:wr.cell? ⟨cb,9,none⟩=some (.int .i64 2):=by simp only [World.cell?,hC];rfl
   have c1:wr.cell? ⟨cb,10,none⟩=some (.int .i64 5):=by simp only [World.cell?,hC];rfl
   have c2:wr.cell? ⟨cb,11,none⟩=some (.int .i64 0):=by simp only [World.cell?,hC];rfl
   have c3:wr.cell? ⟨cb,12,none⟩=some (.int .i64 2):=by simp only [World.cell?,hC];rfl
   have c4:wr.cell? ⟨cb,13,none⟩=some (.int .i64 100):=by simp only [World.cell?,hC];rfl
   have c5:wr.cell? ⟨cb,14,none⟩=some (.int .i64 1):=by simp only [World.cell?,hC];rfl
   have c6:wr.cell? ⟨cb,15,none⟩=some (.int .i64 0):=by simp only [World.cell?,hC];rfl
   have c7:wr.cell? ⟨cb,16,none⟩=some (.int .i64 1):=by simp only [World.cell?,hC];rfl
   have c8:wr.cell? ⟨cb,17,none⟩=some (.int .i64 0):=by simp only [World.cell?,hC];rfl
   obtain ⟨v,qs,hv⟩:=hP.wi
   have HS:=hid (HSt.out w.heap.size wb v qs ⟨2,0,fun i=>([2,5,0,2,100,1,0,1,0]:List Int).getD i 0,⟨#[]⟩,0,fun _=>0⟩ (by decide) (show (2:Int)<=hi by omega) ⟨by decide,by decide⟩ ⟨by decide,by decide⟩ (by decide) (fun _ _=>⟨by show (-9223372036854775808:Int)<=0;decide,by show (0:Int)<=9223372036854775807;decide⟩) wr hv.1 hP.bel.size (by omega) hv.2.1)
   have HPP:=hid hP
   have HV:=hid hv
   have HCC:=hid hC
   unfold OpD.val at HS
   clear hP hv hC
   go_wp2_with fail
   refine HS.out.mono ?_
   clear HS
   intro e w2 hsp
   obtain ⟨rfl,hP2,ht2⟩:=HPP.out.step HV.out hsp
   have HE:=hid (And.intro hP2 ((ht2 cb _ _ HCC.out (by decide) (by decide) (by decide) (by decide) (by decide)).trans HCC.out))
   clear HPP HV HCC hsp hP2 ht2
   go_wp2_with fail
   go_roundg 1
   case measure=>omega
   case rel=>exact ⟨2,by omega,rfl,by go_num,HE.out.1,HE.out.2⟩
  ·subst e
   have c0:wr.cell? ⟨cb,18,none⟩=some (.int .i64 12):=by simp only [World.cell?,hC];rfl
   have c1:wr.cell? ⟨cb,19,none⟩=some (.int .i64 5):=by simp only [World.cell?,hC];rfl
   have c2:wr.cell? ⟨cb,20,none⟩=some (.int .i64 0):=by simp only [World.cell?,hC];rfl
   have c3:wr.cell? ⟨cb,21,none⟩=some (.int .i64 0):=by simp only [World.cell?,hC];rfl
   have c4:wr.cell? ⟨cb,22,none⟩=some (.int .i64 0):=by simp only [World.cell?,hC];rfl
   have c5:wr.cell? ⟨cb,23,none⟩=some (.int .i64 0):=by simp only [World.cell?,hC];rfl
   have c6:wr.cell? ⟨cb,24,none⟩=some (.int .i64 0):=by simp only [World.cell?,hC];rfl
   have c7:wr.cell? ⟨cb,25,none⟩=some (.int .i64 0):=by simp only [World.cell?,hC];rfl
   have c8:wr.cell? ⟨cb,26,none⟩=some (.int .i64 0):=by simp only [World.cell?,hC];rfl
   obtain ⟨v,qs,hv⟩:=hP.wi
   have HS:=hid (HSt.out w.heap.size wb v qs ⟨2,0,fun i=>([12,5,0,0,0,0,0,0,0]:List Int).getD i 0,⟨#[]⟩,0,fun _=>0⟩ (by decide) (show (2:Int)<=hi by omega) ⟨by decide,by decide⟩ ⟨by decide,by decide⟩ (by decide) (fun _ _=>⟨by show (-9223372036854775808:Int)<=0;decide,by show (0:Int)<=9223372036854775807;decide⟩) wr hv.1 hP.bel.size (by omega) hv.2.1)
   have HPP:=hid hP
   have HV:=hid hv
   have HCC:=hid hC
   unfold OpD.val at HS
   clear hP hv hC
   go_wp2_with fail
   refine HS.out.mono ?_
   clear HS
   intro e w2 hsp
   obtain ⟨rfl,hP2,ht2⟩:=HPP.out.step HV.out hsp
   have HE:=hid (And.intro hP2 ((ht2 cb _ _ HCC.out (by decide) (by decide) (by decide) (by decide) (by decide)).trans HCC.out))
   clear HPP HV HCC hsp hP2 ht2
   go_wp2_with fail
   go_roundg 0
   case measure=>omega
   case rel=>exact ⟨3,by omega,rfl,by go_num,HE.out.1,HE.out.2⟩
  ·subst e
   have HPP:=hid hP
   clear hP hC
   go_wp2_with fail
   go_loopg [6,9] 60 (fun gk okv iv wr=>∃ j:Nat,j+gk=60/\j<=n/\okv=.bool true/\iv=.int .i64 j/\PW w wb (4+j) wr)
   case atStart=>exact ⟨0,by omega,by omega,rfl,rfl,HPP.out⟩
   case round =>
    clear HPP
    obtain ⟨j,hj60,hjn,rfl,rfl,hP⟩:=hrel
    have HJ:=hid hj60
    clear hj60
    by_cases hlt:j<n/\j<60
    ·obtain ⟨a,rfl,hab,hcell,ho,hnn,hfs,hls⟩:=HEl.out j hlt.1
     have hl1:(j:Int)<(n:Int):=by omega
     have hl2:(j:Int)<60:=by omega
     have hab:a.block<w.heap.size:=by have:=HWb.out;omega
     have hbw:=hP.bel
     have x0:wr.cell? (a.add (j*17))=some (.int .i64 (R j).k):=by exact (hbw.cell (by rw [Addr.add_block];exact hab)).trans (hcell 0 (by omega))
     have x1:wr.cell? ⟨(a.add (j*17)).block,(a.add (j*17)).off+1,none⟩=some (.int .i64 (R j).on):=by show wr.cell? ((a.add (j*17)).add 1)=_;rw [Addr.addadd];exact (hbw.cell (by rw [Addr.add_block];exact hab)).trans (hcell 1 (by omega))
     have x2:wr.cell? ⟨(a.add (j*17)).block,(a.add (j*17)).off+2,none⟩=some (.int .i64 ((R j).c 0)):=by show wr.cell? ((a.add (j*17)).add 2)=_;rw [Addr.addadd];exact (hbw.cell (by rw [Addr.add_block];exact hab)).trans (hcell 2 (by omega))
     have x3:wr.cell? ⟨(a.add (j*17)).block,(a.add (j*17)).off+3,none⟩=some (.int .i64 ((R j).c 1)):=by show wr.cell? ((a.add (j*17)).add 3)=_;rw [Addr.addadd];exact (hbw.cell (by rw [Addr.add_block];exact hab)).trans (hcell 3 (by omega))
     have x4:wr.cell? ⟨(a.add (j*17)).block,(a.add (j*17)).off+4,none⟩=some (.int .i64 ((R j).c 2)):=by show wr.cell? ((a.add (j*17)).add 4)=_;rw [Addr.addadd];exact (hbw.cell (by rw [Addr.add_block];exact hab)).trans (hcell 4 (by omega))
     have x5:wr.cell? ⟨(a.add (j*17)).block,(a.add (j*17)).off+5,none⟩=some (.int .i64 ((R j).c 3)):=by show wr.cell? ((a.add (j*17)).add 5)=_;rw [Addr.addadd];exact (hbw.cell (by rw [Addr.add_block];exact hab)).trans (hcell 5 (by omega))
     have x6:wr.cell? ⟨(a.add (j*17)).block,(a.add (j*17)).off+6,none⟩=some (.int .i64 ((R j).c 4)):=by show wr.cell? ((a.add (j*17)).add 6)=_;rw [Addr.addadd];exact (hbw.cell (by rw [Addr.add_block];exact hab)).trans (hcell 6 (by omega))
     have x7:wr.cell? ⟨(a.add (j*17)).block,(a.add (j*17)).off+7,none⟩=some (.int .i64 ((R j).c 5)):=by show wr.cell? ((a.add (j*17)).add 7)=_;rw [Addr.addadd];exact (hbw.cell (by rw [Addr.add_block];exact hab)).trans (hcell 7 (by omega))
     have x8:wr.cell? ⟨(a.add (j*17)).block,(a.add (j*17)).off+8,none⟩=some (.int .i64 ((R j).c 6)):=by show wr.cell? ((a.add (j*17)).add 8)=_;rw [Addr.addadd];exact (hbw.cell (by rw [Addr.add_block];exact hab)).trans (hcell 8 (by omega))
     have x9:wr.cell? ⟨(a.add (j*17)).block,(a.add (j*17)).off+9,none⟩=some (.int .i64 ((R j).c 7)):=by show wr.cell? ((a.add (j*17)).add 9)=_;rw [Addr.addadd];exact (hbw.cell (by rw [Addr.add_block];exact hab)).trans (hcell 9 (by omega))
     have x10:wr.cell? ⟨(a.add (j*17)).block,(a.add (j*17)).off+10,none⟩=some (.int .i64 ((R j).c 8)):=by show wr.cell? ((a.add (j*17)).add 10)=_;rw [Addr.addadd];exact (hbw.cell (by rw [Addr.add_block];exact hab)).trans (hcell 10 (by omega))
     have x11:wr.cell? ⟨(a.add (j*17)).block,(a.add (j*17)).off+11,none⟩=some (.string (R j).fr):=by show wr.cell? ((a.add (j*17)).add 11)=_;rw [Addr.addadd];exact (hbw.cell (by rw [Addr.add_block];exact hab)).trans (hcell 11 (by omega))
     have x12:wr.cell? ⟨(a.add (j*17)).block,(a.add (j*17)).off+12,none⟩=some (.int .i64 (R j).nn):=by show wr.cell? ((a.add (j*17)).add 12)=_;rw [Addr.addadd];exact (hbw.cell (by rw [Addr.add_block];exact hab)).trans (hcell 12 (by omega))
     have x13:wr.cell? ⟨(a.add (j*17)).block,(a.add (j*17)).off+13,none⟩=some (.int .i64 ((R j).l 0)):=by show wr.cell? ((a.add (j*17)).add 13)=_;rw [Addr.addadd];exact (hbw.cell (by rw [Addr.add_block];exact hab)).trans (hcell 13 (by omega))
     have x14:wr.cell? ⟨(a.add (j*17)).block,(a.add (j*17)).off+14,none⟩=some (.int .i64 ((R j).l 1)):=by show wr.cell? ((a.add (j*17)).add 14)=_;rw [Addr.addadd];exact (hbw.cell (by rw [Addr.add_block];exact hab)).trans (hcell 14 (by omega))
     have x15:wr.cell? ⟨(a.add (j*17)).block,(a.add (j*17)).off+15,none⟩=some (.int .i64 ((R j).l 2)):=by show wr.cell? ((a.add (j*17)).add 15)=_;rw [Addr.addadd];exact (hbw.cell (by rw [Addr.add_block];exact hab)).trans (hcell 15 (by omega))
     have x16:wr.cell? ⟨(a.add (j*17)).block,(a.add (j*17)).off+16,none⟩=some (.int .i64 ((R j).l 3)):=by show wr.cell? ((a.add (j*17)).add 16)=_;rw [Addr.addadd];exact (hbw.cell (by rw [Addr.add_block];exact hab)).trans (hcell 16 (by omega))
     have HPP:=hid hP
     have HO:=hid (And.intro ho (And.intro hnn (And.intro hfs hls)))
     clear hcell ho hnn hfs hls hbw hP
     by_cases hk:1<=(R j).k/\(R j).k<=hi
     ·obtain ⟨v,qs,hv⟩:=HPP.out.wi
      have HS:=hid (HSt.out w.heap.size wb v qs (R j) hk.1 hk.2 HO.out.1 HO.out.2.1 HO.out.2.2.1 HO.out.2.2.2 wr hv.1 HPP.out.bel.size (by omega) hv.2.1)
      have HV:=hid hv
      obtain ⟨hk1,hk3⟩:=hk
      unfold OpD.val at HS
      clear hv HO
      go_wp2_with fail
      refine HS.out.mono ?_
      clear HS x0 x1 x2 x3 x4 x5 x6 x7 x8 x9 x10 x11 x12 x13 x14 x15 x16
      intro e w2 hsp
      obtain ⟨rfl,hP2,_⟩:=HPP.out.step HV.out hsp
      have HE:=hid hP2
      clear HPP HV hsp hP2
      go_wp2_with fail
      go_roundg (59 - j)
      case measure=>have:=HJ.out;omega
      case rel=>exact ⟨j+1,by have:=HJ.out;omega,by omega,rfl,by go_num,HE.out⟩
     ·have HE:=hid (show PW w wb (4+(j+1)) wr from ⟨HPP.out.wi.elim fun v h=>h.elim fun qs h=>⟨v,qs,h.1,h.2.1,by omega⟩,HPP.out.bel⟩)
      clear HPP HO
      by_cases hk1:1<=(R j).k
      ·have hk3:¬ (R j).k<=hi:=fun h=>hk ⟨hk1,h⟩
       clear hk
       go_wp2_with fail
       go_roundg (59 - j)
       case measure=>have:=HJ.out;omega
       case rel=>exact ⟨j+1,by have:=HJ.out;omega,by omega,rfl,by go_num,HE.out⟩
      ·clear hk
       go_wp2_with fail
       go_roundg (59 - j)
       case measure=>have:=HJ.out;omega
       case rel=>exact ⟨j+1,by have:=HJ.out;omega,by omega,rfl,by go_num,HE.out⟩
    ·have HPP:=hid hP
     have hge:¬ ((j:Int)<(n:Int)/\(j:Int)<60):=by omega
     obtain ⟨v,qs,hWI,hq1,hq2⟩:=hP.wi
     obtain ⟨gr,capr,rfl⟩:=own_form2 (by omega) hWI.row
     have HV:=hid (And.intro hWI hP.bel)
     have hq100:qs.length<=64:=by have:=HJ.out;omega
     clear HEl hP hlt HPP
     by_cases hA:(j:Int)<(n:Int)
     ·have hB:¬ (j:Int)<60:=fun h=>hge ⟨hA,h⟩
      clear hge
      go_wp2_with fail
      go_loopg [6,10] qs.length (fun gk okv iv wr=>∃ i:Nat,i+gk=qs.length/\okv=.bool true/\iv=.int .i64 i/\WI w.heap.size wr wb (.slice (some ⟨gr,0,none⟩) qs.length capr) qs/\Below w.heap.size w wr)
      case atStart=>exact ⟨0,by omega,rfl,rfl,HV.out.1,HV.out.2⟩
      case round =>
       clear HV
       obtain ⟨i,hil,rfl,rfl,hWI,hbl⟩:=hrel
       have HIl:=hid hil
       clear hil
       have wc:=hWI.cell
       by_cases hlti:i<qs.length
       ·have hii:(i:Int)<(qs.length:Int):=by omega
        have rc:wr.cell? ⟨gr,i,none⟩=some (.pointer (some ⟨(qs[i]).p,0,none⟩)):=by
         have:=hWI.row.cells (g:=gr) rfl i (.pointer (some ⟨(qs[i]).p,0,none⟩)) (by simp [ptrs,hlti])
         rwa [add_zero_at2] at this
        have hqi:=hWI.each _ (List.getElem_mem hlti)
        have p0:=hqi.pair.c0
        have p2:=hqi.pair.c2
        have HSm:=hid (fun nq=>lsame_any (qs[i]).l ((qs[i]).n,(qs[i]).t) (qs[i]).b ((qs[i]).n / 8) (qs[i]).L (wr.drewN nq) (hqi.led.below (below_drewN (Below.refl _ wr) nq)) hqi.snd.inv (PairI.n1 hqi) (hqi.bk.below (below_drewN (Below.refl _ wr) nq)))
        have HWI:=hid (And.intro hWI hbl)
        have HQI:=hid hqi
        clear hWI hbl hqi
        go_wp2_with fail
        refine wp_region_then 20 (by kernel_rfl) (by decide) (by kernel_rfl) (by kernel_rfl) (by kernel_rfl) (by kernel_rfl) ?_
        simp only [List.take_succ_cons,List.take_zero]
        repeat (go_big_quiet_step (fail))
        refine wpQuiet_nil ?_
        rintro w2 ⟨nq,rfl⟩
        simp only [List.drop_succ_cons,List.drop_zero]
        go_wp2_with fail
        refine (HSm.out nq).mono ?_
        clear HSm
        rintro e w3 ⟨rfl,hL3,hX3,hk3⟩
        have hq2:PairI (wr.drewN nq) (qs[i]).p (qs[i]).l (qs[i]).d (qs[i]).g (qs[i]).b (qs[i]).n (qs[i]).t (qs[i]).L:=PairI.below HQI.out (below_drewN (Below.refl _ wr) nq)
        have hW2:=HWI.out.1.below (below_drewN (Below.refl _ wr) nq)
        have hI3:PD.I qs[i] w3:=PairI.asked hq2 hL3 hX3 hk3
        have hW3:=hW2.turn hlti (q':=qs[i]) ⟨rfl,rfl,.inl rfl⟩ hI3 (hk3.mono (fun g _ e=>.inl e))
        rw [List.set_getElem_self] at hW3
        have HE:=hid (And.intro hW3 (below_keeps (below_drewN HWI.out.2 nq) hk3 (fun g e=>by rw [e];exact (HWI.out.1.far.2 _ (List.getElem_mem hlti)).2.1)))
        clear HWI HQI hL3 hX3 hk3 hq2 hW2 hI3 hW3 wc rc p0 p2
        go_wp2_with fail
        go_roundg (qs.length - (i+1))
        case measure=>have:=HIl.out;omega
        case rel=>exact ⟨i+1,by have:=HIl.out;omega,rfl,by go_num,HE.out.1,HE.out.2⟩
       ·have hii:¬ (i:Int)<(qs.length:Int):=by omega
        have HBl:=hid hbl
        clear hWI hbl
        go_wp2
        go_ret
        exact ⟨rfl,HBl.out⟩
     ·clear hge
      go_wp2_with fail
      go_loopg [6,10] qs.length (fun gk okv iv wr=>∃ i:Nat,i+gk=qs.length/\okv=.bool true/\iv=.int .i64 i/\WI w.heap.size wr wb (.slice (some ⟨gr,0,none⟩) qs.length capr) qs/\Below w.heap.size w wr)
      case atStart=>exact ⟨0,by omega,rfl,rfl,HV.out.1,HV.out.2⟩
      case round =>
       clear HV
       obtain ⟨i,hil,rfl,rfl,hWI,hbl⟩:=hrel
       have HIl:=hid hil
       clear hil
       have wc:=hWI.cell
       by_cases hlti:i<qs.length
       ·have hii:(i:Int)<(qs.length:Int):=by omega
        have rc:wr.cell? ⟨gr,i,none⟩=some (.pointer (some ⟨(qs[i]).p,0,none⟩)):=by
         have:=hWI.row.cells (g:=gr) rfl i (.pointer (some ⟨(qs[i]).p,0,none⟩)) (by simp [ptrs,hlti])
         rwa [add_zero_at2] at this
        have hqi:=hWI.each _ (List.getElem_mem hlti)
        have p0:=hqi.pair.c0
        have p2:=hqi.pair.c2
        have HSm:=hid (fun nq=>lsame_any (qs[i]).l ((qs[i]).n,(qs[i]).t) (qs[i]).b ((qs[i]).n / 8) (qs[i]).L (wr.drewN nq) (hqi.led.below (below_drewN (Below.refl _ wr) nq)) hqi.snd.inv (PairI.n1 hqi) (hqi.bk.below (below_drewN (Below.refl _ wr) nq)))
        have HWI:=hid (And.intro hWI hbl)
        have HQI:=hid hqi
        clear hWI hbl hqi
        go_wp2_with fail
        refine wp_region_then 20 (by kernel_rfl) (by decide) (by kernel_rfl) (by kernel_rfl) (by kernel_rfl) (by kernel_rfl) ?_
        simp only [List.take_succ_cons,List.take_zero]
        repeat (go_big_quiet_step (fail))
        refine wpQuiet_nil ?_
        rintro w2 ⟨nq,rfl⟩
        simp only [List.drop_succ_cons,List.drop_zero]
        go_wp2_with fail
        refine (HSm.out nq).mono ?_
        clear HSm
        rintro e w3 ⟨rfl,hL3,hX3,hk3⟩
        have hq2:PairI (wr.drewN nq) (qs[i]).p (qs[i]).l (qs[i]).d (qs[i]).g (qs[i]).b (qs[i]).n (qs[i]).t (qs[i]).L:=PairI.below HQI.out (below_drewN (Below.refl _ wr) nq)
        have hW2:=HWI.out.1.below (below_drewN (Below.refl _ wr) nq)
        have hI3:PD.I qs[i] w3:=PairI.asked hq2 hL3 hX3 hk3
        have hW3:=hW2.turn hlti (q':=qs[i]) ⟨rfl,rfl,.inl rfl⟩ hI3 (hk3.mono (fun g _ e=>.inl e))
        rw [List.set_getElem_self] at hW3
        have HE:=hid (And.intro hW3 (below_keeps (below_drewN HWI.out.2 nq) hk3 (fun g e=>by rw [e];exact (HWI.out.1.far.2 _ (List.getElem_mem hlti)).2.1)))
        clear HWI HQI hL3 hX3 hk3 hq2 hW2 hI3 hW3 wc rc p0 p2
        go_wp2_with fail
        go_roundg (qs.length - (i+1))
        case measure=>have:=HIl.out;omega
        case rel=>exact ⟨i+1,by have:=HIl.out;omega,rfl,by go_num,HE.out.1,HE.out.2⟩
       ·have hii:¬ (i:Int)<(qs.length:Int):=by omega
        have HBl:=hid hbl
        clear hWI hbl
        go_wp2
        go_ret
        exact ⟨rfl,HBl.out⟩
theorem found_law (hS:StepsTo 5) (v:Value) (n:Nat) (R:Nat->OpD) (w:World) (hR:OpsIn w v n R) :
  Calls prog 8 #[v] w fun e w'=>e=.returned (.bool true)/\Below w.heap.size w w':=by
 have HP:=hid (lplays_any 5 (by decide) (hid hS) v n R w hR)
 clear hR hS
 go_enter func8,ntmps8
 go_wp2_with fail
 refine HP.out.mono ?_
 clear HP
 rintro e w1 ⟨rfl,hb⟩
 have HB:=hid hb
 clear hb
 go_wp2
 go_ret
 exact ⟨rfl,HB.out⟩
end
end Go.Proofs.YtalncjhldkcmaaaGreat
