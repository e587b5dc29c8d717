import Derived.Test.YtalncjhldkcmaaaGreatFb50
namespace Go.Proofs.YtalncjhldkcmaaaGreat
set_option maxHeartbeats 16000000
set_option maxRecDepth 8000
section
open Go.RowKit Go.Shelf
theorem step_pair (B wb:Nat) (v:Value) (qs:List PD) (o:OpD) (hk:2<=o.k/\o.k<=5) (ho:I64 o.on) (hs:o.fr.size<=maxLen) (w:World) (h:WI B w wb v qs) (hl:qs.length<=900) (hq:1<=qs.length) :
  Calls Tryz.prog 25 #[.pointer (some ⟨wb,0,none⟩),o.val] w (StepPost B w wb qs):=by
 obtain ⟨z,hz,hpk⟩:=lpick_val o.on ho qs.length (by omega) (by omega)
 obtain ⟨g,cap,rfl⟩:=own_form2 (by omega) h.row
 have hb0:Below w.heap.size w (w.alloc (.cells #[.int .i64 o.k,.int .i64 o.on,.int .i64 (o.c 0),.int .i64 (o.c 1),.int .i64 (o.c 2),.int .i64 (o.c 3),.int .i64 (o.c 4),.int .i64 (o.c 5),.int .i64 (o.c 6),.int .i64 (o.c 7),.int .i64 (o.c 8),.string o.fr,.int .i64 o.nn,.int .i64 (o.l 0),.int .i64 (o.l 1),.int .i64 (o.l 2),.int .i64 (o.l 3)] 70)):=(Below.refl _ w).alloc nlr _
 have h1:=h.below hb0
 have wc1:=h1.cell
 have rc1:(w.alloc (.cells #[.int .i64 o.k,.int .i64 o.on,.int .i64 (o.c 0),.int .i64 (o.c 1),.int .i64 (o.c 2),.int .i64 (o.c 3),.int .i64 (o.c 4),.int .i64 (o.c 5),.int .i64 (o.c 6),.int .i64 (o.c 7),.int .i64 (o.c 8),.string o.fr,.int .i64 o.nn,.int .i64 (o.l 0),.int .i64 (o.l 1),.int .i64 (o.l 2),.int .i64 (o.l 3)] 70)).cell? ⟨g,z,none⟩=some (.pointer (some ⟨(qs[z]).p,0,none⟩)):=by
  have:=h1.row.cells (g:=g) rfl z (.pointer (some ⟨(qs[z]).p,0,none⟩)) (by simp [ptrs,hz])
  rwa [add_zero_at2] at this
 have hbw:¬ wb=w.heap.size:=by have:=h.lt;omega
 have hgw:¬ g=w.heap.size:=by have:=(h.row.lt g rfl).2;omega
 have hzi:(z:Int)<(qs.length:Int):=by omega
 have HEn:=hid (fun u=>refEncode_any o.c u)
 have H1:=hid (And.intro h1 hb0)
 have Hpk:=hid hpk
 clear h ho h1 hb0 hpk
 have hk1:¬ o.k=1:=by omega
 have hk7:¬ o.k=7:=by omega
 unfold OpD.val
 go_enter Tryz.func25,Tryz.ntmps25
 go_wp2_with fail
 go_quiet (first | (go_at_call 31;exact Calls.quiet_of_same (Hpk.out _)))
 obtain ⟨h1,hb1⟩:=H1.out
 have h2:=h1.below (below_drewN (Below.refl _ _) nq)
 have hb2:=below_drewN hb1 nq
 clear Hpk H1 h1 hb1 wc1 rc1
 have k0:((w.alloc (.cells #[.int .i64 o.k,.int .i64 o.on,.int .i64 (o.c 0),.int .i64 (o.c 1),.int .i64 (o.c 2),.int .i64 (o.c 3),.int .i64 (o.c 4),.int .i64 (o.c 5),.int .i64 (o.c 6),.int .i64 (o.c 7),.int .i64 (o.c 8),.string o.fr,.int .i64 o.nn,.int .i64 (o.l 0),.int .i64 (o.l 1),.int .i64 (o.l 2),.int .i64 (o.l 3)] 70)).drewN nq).cell? ⟨w.heap.size,0,none⟩=some (.int .i64 o.k):=by
  show (w.alloc (.cells #[.int .i64 o.k,.int .i64 o.on,.int .i64 (o.c 0),.int .i64 (o.c 1),.int .i64 (o.c 2),.int .i64 (o.c 3),.int .i64 (o.c 4),.int .i64 (o.c 5),.int .i64 (o.c 6),.int .i64 (o.c 7),.int .i64 (o.c 8),.string o.fr,.int .i64 o.nn,.int .i64 (o.l 0),.int .i64 (o.l 1),.int .i64 (o.l 2),.int .i64 (o.l 3)] 70)).cell? _=_
  rw [World.cell?_alloc_new];rfl
 have f0:((w.alloc (.cells #[.int .i64 o.k,.int .i64 o.on,.int .i64 (o.c 0),.int .i64 (o.c 1),.int .i64 (o.c 2),.int .i64 (o.c 3),.int .i64 (o.c 4),.int .i64 (o.c 5),.int .i64 (o.c 6),.int .i64 (o.c 7),.int .i64 (o.c 8),.string o.fr,.int .i64 o.nn,.int .i64 (o.l 0),.int .i64 (o.l 1),.int .i64 (o.l 2),.int .i64 (o.l 3)] 70)).drewN nq).cell? ⟨w.heap.size,11,none⟩=some (.string o.fr):=by
  show (w.alloc (.cells #[.int .i64 o.k,.int .i64 o.on,.int .i64 (o.c 0),.int .i64 (o.c 1),.int .i64 (o.c 2),.int .i64 (o.c 3),.int .i64 (o.c 4),.int .i64 (o.c 5),.int .i64 (o.c 6),.int .i64 (o.c 7),.int .i64 (o.c 8),.string o.fr,.int .i64 o.nn,.int .i64 (o.l 0),.int .i64 (o.l 1),.int .i64 (o.l 2),.int .i64 (o.l 3)] 70)).cell? _=_
  rw [World.cell?_alloc_new];rfl
 have hlb:w.heap.size<((w.alloc (.cells #[.int .i64 o.k,.int .i64 o.on,.int .i64 (o.c 0),.int .i64 (o.c 1),.int .i64 (o.c 2),.int .i64 (o.c 3),.int .i64 (o.c 4),.int .i64 (o.c 5),.int .i64 (o.c 6),.int .i64 (o.c 7),.int .i64 (o.c 8),.string o.fr,.int .i64 o.nn,.int .i64 (o.l 0),.int .i64 (o.l 1),.int .i64 (o.l 2),.int .i64 (o.l 3)] 70)).drewN nq).heap.size:=by show w.heap.size<(w.alloc (.cells #[.int .i64 o.k,.int .i64 o.on,.int .i64 (o.c 0),.int .i64 (o.c 1),.int .i64 (o.c 2),.int .i64 (o.c 3),.int .i64 (o.c 4),.int .i64 (o.c 5),.int .i64 (o.c 6),.int .i64 (o.c 7),.int .i64 (o.c 8),.string o.fr,.int .i64 o.nn,.int .i64 (o.l 0),.int .i64 (o.l 1),.int .i64 (o.l 2),.int .i64 (o.l 3)] 70)).heap.size;simp
 have H2:=hid (And.intro h2 hb2)
 have HKF:=hid (And.intro k0 (And.intro f0 hlb))
 clear h2 hb2 k0 f0 hlb
 go_wp2_with fail
 refine (HEn.out _).mono ?_
 clear HEn
 rintro e w3 ⟨rfl,hb3⟩
 obtain ⟨h2,hb2⟩:=H2.out
 obtain ⟨k0,f0,hlb⟩:=HKF.out
 have k0:=(hb3.cell (p:=⟨w.heap.size,0,none⟩) hlb).trans k0
 have f0:=(hb3.cell (p:=⟨w.heap.size,11,none⟩) hlb).trans f0
 have h3:=h2.below hb3
 have hb4:=hb2.trans (hb3.mono hb2.size)
 have hq3:=h3.each _ (List.getElem_mem hz)
 have H3:=hid (And.intro h3 hb4)
 have HD:=hid (fun s hs=>does_any _ _ _ _ _ _ _ _ s hs w3 hq3)
 have HA:=hid (again_any _ _ _ _ _ _ _ _ w3 hq3)
 have HFk:=hid (forks_any B wb _ qs z hz w3 h3 (by have:=h3.far.1;have:=h3.lt;omega) (by omega))
 have HEnd:=hid (fun (w4:World) (l' b' t':Nat) (L':Led) (hl:l'=(qs[z]).l\/w3.heap.size<=l') (hI:PairI w4 (qs[z]).p l' (qs[z]).d (qs[z]).g b' (qs[z]).n t' L') (hk:Keeps (fun x=>x=(qs[z]).l\/x=(qs[z]).p\/x=(qs[z]).g) w3 w4)=>And.intro (h3.turn hz (q':=⟨(qs[z]).p,l',(qs[z]).d,(qs[z]).g,b',(qs[z]).n,t',L'⟩) ⟨rfl,rfl,hl⟩ hI hk) ((below_toKeeps hb4 (fun g=>B<=g)).trans (hk.mono (fun g _ hg=>by have:=h3.far.2 _ (List.getElem_mem hz);rcases hg with rfl | rfl | rfl;exact this.2.1;exact this.1;exact this.2.2)) |> fun x=>And.intro x ((TagK.below hb4).trans (h3.tagTurn hz hk))))
 clear H2 HKF h2 hb2 hlb h3 hb4 hq3 hb3
 have hkk:o.k=2\/o.k=3\/o.k=4\/o.k=5:=by omega
 rcases hkk with e | e | e | e
 ·have q2:(o.k == 2)=true:=by simp [e]
  clear hk hk1 hk7 e HA HFk
  cases hen:encB o.c with
  | true =>
   have hE:encE o.c=0:=by simp [encE,hen]
   have hsz:(⟨(encS o.c).toArray⟩:ByteArray).size<=maxLen:=by
    show (encS o.c).toArray.size<=maxLen
    have:=(enc_len o.c hen).2
    simp only [List.size_toArray];unfold maxLen;omega
   have HDs:=hid (HD.out _ hsz)
   rw [hE]
   clear HD hsz hen hE
   go_wp2_with fail
   refine HDs.out.mono ?_
   clear HDs
   rintro e w4 ⟨rfl,b',t',L',hI4,hk4⟩
   have HX:=hid (HEnd.out w4 _ b' t' L' (.inl rfl) hI4 hk4)
   clear hI4 hk4 HEnd
   go_wp2
   go_ret
   exact ⟨rfl,_,_,HX.out.1,by rw [List.length_set];omega,by rw [List.length_set];omega,HX.out.2.1,HX.out.2.2⟩
  | false =>
   have hE:encE o.c=1:=by simp [encE,hen]
   rw [hE]
   clear HD hen hE HEnd
   go_wp2
   go_ret
   exact ⟨rfl,_,_,H3.out.1,by omega,by omega,below_toKeeps H3.out.2 _,TagK.below H3.out.2⟩
 ·have q2:(o.k == 2)=false:=by simp [e]
  have q3:(o.k == 3)=true:=by simp [e]
  clear hk hk1 hk7 e HA HFk
  have HDs:=hid (HD.out o.fr hs)
  generalize encE o.c=ee at *
  clear HD
  go_wp2_with fail
  refine HDs.out.mono ?_
  clear HDs
  rintro e w4 ⟨rfl,b',t',L',hI4,hk4⟩
  have HX:=hid (HEnd.out w4 _ b' t' L' (.inl rfl) hI4 hk4)
  clear hI4 hk4 HEnd
  go_wp2
  go_ret
  exact ⟨rfl,_,_,HX.out.1,by rw [List.length_set];omega,by rw [List.length_set];omega,HX.out.2.1,HX.out.2.2⟩
 ·have q2:(o.k == 2)=false:=by simp [e]
  have q3:(o.k == 3)=false:=by simp [e]
  have q4:(o.k == 4)=true:=by simp [e]
  clear hk hk1 hk7 e HD HFk
  generalize encE o.c=ee at *
  go_wp2_with fail
  refine HA.out.mono ?_
  clear HA
  rintro e w4 ⟨rfl,l',hl',hI4,hk4⟩
  have HX:=hid (HEnd.out w4 l' _ _ _ (.inr hl') hI4 (hk4.mono (fun x _ hx=>.inr (.inl hx))))
  clear hI4 hk4 HEnd
  go_wp2
  go_ret
  exact ⟨rfl,_,_,HX.out.1,by rw [List.length_set];omega,by rw [List.length_set];omega,HX.out.2.1,HX.out.2.2⟩
 ·have q2:(o.k == 2)=false:=by simp [e]
  have q3:(o.k == 3)=false:=by simp [e]
  have q4:(o.k == 4)=false:=by simp [e]
  have q5:(o.k == 5)=true:=by simp [e]
  clear hk hk1 hk7 e HD HA HEnd
  generalize encE o.c=ee at *
  go_wp2_with fail
  refine HFk.out.mono ?_
  clear HFk
  rintro e w4 ⟨rfl,v4,qs4,hW4,h41,h42,h43,h44⟩
  have HX:=hid (show StepPost B w wb qs (.returned (.bool true)) w4 from ⟨rfl,v4,qs4,hW4,h41,h42,(below_toKeeps H3.out.2 (fun g=>B<=g)).trans h43,(TagK.below H3.out.2).trans h44⟩)
  clear hW4 h41 h42 h43 h44
  go_wp2
  go_ret
  exact HX.out
theorem steps_to5:StepsTo 5:=by
 intro B wb v qs o h1 h5 ho hn hs _ w h hB hl hq
 by_cases e:o.k=1
 ·exact step_open B wb v qs o e hn w h hB hl
 ·exact step_pair B wb v qs o ⟨by omega,h5⟩ ho hs w h hl hq
end
end Go.Proofs.YtalncjhldkcmaaaGreat
