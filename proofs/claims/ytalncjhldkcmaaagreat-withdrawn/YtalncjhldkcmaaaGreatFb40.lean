import Derived.Test.YtalncjhldkcmaaaGreatFb36
import Derived.Test.YtalncjhldkcmaaaGreatFb35
import Derived.Test.YtalncjhldkcmaaaGreatFb37
import Derived.Test.YtalncjhldkcmaaaGreatFb38
namespace Go.Proofs.YtalncjhldkcmaaaGreat
open _root_.Go.Proofs.Tryz
set_option maxHeartbeats 16000000
set_option maxRecDepth 8000
section
open Go.RowKit Go.Shelf
variable {B b:Nat} {w w':World} {vt vp:Value} {L:Led} {k:Bk} {m:Cm}
theorem bdo_box (h:BkF B w b vt vp L k) (_hI:L.Inv) (hm:m.Ok) (hk:((m.k:Nat):Int)=1) (_he:L.err m=0) (_hB:B<=w.heap.size):Calls prog 63 #[.pointer (some ⟨b,0,none⟩),m.val] w (DoPost B w b L m):=by
 have hC0:=Cm.has_new w 31 m
 have hb0:=Cm.hb w m
 have hlt0:=has_new_lt w m
 have hF0:=h.below hb0
 have hK0:=hF0.bk
 have hkn:m.k=1:=by omega
 unfold Cm.val
 rw [hk] at hC0 hb0 hF0 hK0 hlt0 ⊢
 go_enter func63,ntmps63
 go_wp2_with (go_at_call 90;refine (find_any b _ _ k _ _ hK0).mono ?_;rintro e w' ⟨rfl,rfl⟩)
 generalize w.alloc (.cells #[.int .i64 1,.int .i64 m.t,.int .i64 m.o,.int .i64 m.d,.int .i64 m.v,.int .i64 m.b,.int .i64 m.x,.int .i64 m.y,.int .i64 m.n] 31)=w1 at *
 have c5:=hC0.1 5 (by omega)
 have c8:=hC0.1 8 (by omega)
 simp only [Cm.ints] at c5 c8
 have hmb:=hm.b
 have hs5:=hK0.side m.b (by omega)
 have fz5:=hK0.fz m.b
 have hb10:(m.b:Int)<10:=by omega
 have hbl:=h.bk.lt
 have hne:¬ w.heap.size=b:=by omega
 have HF:=hid hF0
 have HB0:=hid hb0
 clear hC0 hF0 hK0 hb0
 go_region
 go_wp2
 go_ret
 have hX:BkX B ((w1.setCell ⟨b,m.b,none⟩ (.int .i64 m.n)).drew) b (L.act m):=by
  refine ⟨vt,vp,_,(HF.out.bk.setSide (j:=m.b) (by omega) m.n).drew,?_,h.nt,h.np,h.fb,h.ft,h.fp⟩
  have e:L.act m={ L with bs:=insB L.bs m.b m.n }:=by simp [Led.act,hkn]
  rw [e]
  exact h.sim.newBox
 refine ⟨_,rfl,.inr ⟨rfl,by simp [Led.tell,hkn]⟩,?_,?_⟩
 ·exact hX
 ·exact ((kp_new HB0.out).set1 h.fb _ _).drew
theorem bdo_flip (h:BkF B w b vt vp L k) (hI:L.Inv) (hm:m.Ok) (hk:((m.k:Nat):Int)=11) (_he:L.err m=0) (_hB:B<=w.heap.size):Calls prog 63 #[.pointer (some ⟨b,0,none⟩),m.val] w (DoPost B w b L m):=by
 have hC0:=Cm.has_new w 31 m
 have hb0:=Cm.hb w m
 have hlt0:=has_new_lt w m
 have hF0:=h.below hb0
 have hK0:=hF0.bk
 have hkn:m.k=11:=by omega
 unfold Cm.val
 rw [hk] at hC0 hb0 hF0 hK0 hlt0 ⊢
 go_enter func63,ntmps63
 go_wp2_with (go_at_call 90;refine (find_any b _ _ k _ _ hK0).mono ?_;rintro e w' ⟨rfl,rfl⟩)
 generalize w.alloc (.cells #[.int .i64 11,.int .i64 m.t,.int .i64 m.o,.int .i64 m.d,.int .i64 m.v,.int .i64 m.b,.int .i64 m.x,.int .i64 m.y,.int .i64 m.n] 31)=w1 at *
 have c5:=hC0.1 5 (by omega)
 simp only [Cm.ints] at c5
 have hmb:=hm.b
 have hb1:=hm.b1 (by omega)
 have hsd:0<=k.sides m.b/\k.sides m.b<=1000000:=by
  rw [h.sim.sides m.b (by omega)]
  have:=Led.sideN_lt hI.ok m.b
  omega
 have HF:=hid hF0
 have HB0:=hid hb0
 have HT:=hid (bturned_any b vt vp k m.b true (by omega) w1 hK0 (h.sim.small hI.ok) hsd)
 clear hC0 hF0 hK0 hb0
 go_wp2_with fail
 refine HT.out.mono ?_
 rintro e w2 ⟨rfl,hK2,hk2⟩
 have HX:=hid (show BkX B w2 b (L.act m) from by
  refine h.tubes ?_ hK2 (by simp)
  have e1:L.act m=L.mvB m.b (flipXY (L.sideN m.b)):=by
   rw [<- Led.flip_act hI hb1]
   simp [Led.act,hkn,Led.cmFlip]
  rw [e1]
  have:=h.sim.flip hI hb1
  rw [h.sim.sides m.b (by omega)]
  exact this)
 have HK:=hid ((kp_new (B:=B) HB0.out).trans (hk2.mono (fun g _ hg=>h.ft g hg)))
 clear hK2 hk2
 go_wp2
 go_ret
 exact ⟨_,rfl,.inr ⟨rfl,by simp [Led.tell,hkn]⟩,HX.out,HK.out⟩
end
section
open Go.RowKit Go.Shelf
theorem open_bad (n:Nat) (h:n<16\/256<n) (hn:n<=1000) (s:ByteArray) (hs:s.size=n*128) (w:World) :
  Calls prog 30 #[.string s] w fun e w'=>e=.returned (.tuple #[.pointer none,.slice none 0 0,.int .i64 2])/\Below w.heap.size w w':=by
 refine (open_any s (by rw [hs];unfold maxLen;omega) w).mono ?_
 rintro e w' ⟨hb,⟨t,x,L,l,r,h1,_⟩ | ⟨_,h2⟩⟩
 ·exfalso
  unfold findD at h1
  have hl:s.data.toList.length=n*128:=by rw [<- hs];simp
  rw [hl] at h1
  simp only at h1
  rw [if_pos (by omega)] at h1
  cases h1
 ·exact ⟨h2,hb⟩
theorem opens_any (d g n t:Nat) (img:List UInt8) (L:Led) (w:World) (hD:DiskH w d g n img) (hH:Holds img n t L.text) (hS:L.Sound) (hf:L.kvs.length<=n / 8) :
  Calls prog 32 #[.pointer (some ⟨d,0,none⟩)] w fun e w'=>∃ l,e=.returned (.pointer (some ⟨l,0,none⟩))/\LedgerAt w' l (n,t) L (n / 8)/\w.heap.size<=l/\Below w.heap.size w w':=by
 obtain ⟨cap,hc1,hc2,c0⟩:=hD.cell
 have hconv:=conv_disk hD cap
 have HO:=hid (open_holds n t img L hH hS hf w)
 have HF:=hid (fun u=>fits_nil d u)
 have HAl:=hid (fun u=>all_nil d u)
 clear hD hH hS hf hc1 hc2
 generalize n*128=N at *
 generalize (⟨img.toArray⟩:ByteArray)=ba at *
 go_enter func32,ntmps32
 go_wp2_with fail
 refine HO.out.mono ?_
 clear HO hconv c0
 rintro e w1 ⟨l,rfl,hA1,hl,hb1⟩
 have HX:=hid (And.intro hA1 (And.intro hl hb1))
 clear hA1 hl hb1
 go_wp2_with fail
 refine (HF.out _).mono ?_
 clear HF
 rintro e w2 ⟨rfl,rfl⟩
 go_wp2_with fail
 refine (HAl.out _).mono ?_
 clear HAl
 rintro e w3 ⟨rfl,rfl⟩
 go_wp2
 go_ret
 exact ⟨l,rfl,HX.out.1,HX.out.2.1,HX.out.2.2⟩
end
end Go.Proofs.YtalncjhldkcmaaaGreat
