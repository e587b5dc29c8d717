import Derived.Test.YtalncjhldkcmaaaGreatFb06
import Derived.Test.YtalncjhldkcmaaaGreatFb01
import Derived.Lib.AppendStr
namespace Go.Proofs.YtalncjhldkcmaaaGreat
open _root_.Go.Proofs.Tryz
set_option maxHeartbeats 16000000
set_option maxRecDepth 8000
section
open Go.RowKit Go.Shelf
structure PT where
 x:Nat
 y:Nat
 box:Nat
 donor:Nat
 status:Nat
 thaws:Nat
 began:Nat
 left:Nat
 used:Nat
 lost:Nat
def PT.cells (r:PT):Array Value:=#[pl r.x r.y,.int .i64 r.box,.int .i64 r.donor,.int .i64 r.status,.int .i64 r.thaws,.int .i64 r.began,.int .i64 r.left,.int .i64 r.used,.int .i64 r.lost]
def PT.val (r:PT):Value:=.agg r.cells
structure PT.Ok (r:PT):Prop where
 x:r.x<256
 y:r.y<256
 box:r.box<256
 donor:r.donor<256
 status:r.status<256
 thaws:r.thaws<256
 began:r.began<16777216
 left:r.left<16777216
 used:r.used<16777216
 lost:r.lost<16777216
def PT.head (r:PT):List UInt8:=[UInt8.ofNat r.donor,UInt8.ofNat r.status,UInt8.ofNat r.thaws,UInt8.ofNat r.box,UInt8.ofNat r.x,UInt8.ofNat r.y]
def PT.text (r:PT):List UInt8:=r.head++vol r.began++vol r.left++vol r.used++vol r.lost
theorem PT.text_len (r:PT):r.text.length=18:=rfl
theorem ofNat_lt {n:Nat} (h:n<256):(UInt8.ofNat n).toNat=n:=by rw [UInt8.toNat_ofNat'];omega
theorem volN_cut (s:ByteArray) (i j:Nat) (h:i+j+3<=s.size):volN (s.extract i s.size).data.toList j=volN s.data.toList (i+j):=by
 have g:∀ k,i+k<s.size->(s.extract i s.size).data.toList.getD k 0=s.data.toList.getD (i+k) 0:=fun k hk=>by
  rw [getD_bytes s (i+k) hk,getD_bytes _ k (by simp;omega)]
  simp [ByteArray.getElem_extract]
 unfold volN
 rw [g j (by omega),g (j+1) (by omega),g (j+2) (by omega)]
 rfl
theorem run_store_cplx {P:Program} {w:World} {a:Addr} {m:Mode} (k:FloatKind) (x y:Nat):(store a (.complex k x y) m).run P w=stored P w a (.complex k x y) m:=run_store P w a _ m rfl
attribute [local go_sem] run_store_cplx
theorem wrapB (b:UInt8):IntKind.i64.wrap ((b.toNat:Nat):Int)=(b.toNat:Int):=wraps63 _ (by omega) (by have:=byte_lt b;omega)
theorem readTube_any (s:ByteArray) (hs:s.size=18) (hx:s[4].toNat<256) (hy:s[5].toNat<256) (w:World) :
  Calls prog 192 #[.string s] w fun e w'=>e=.returned (.agg #[pl s[4].toNat s[5].toNat,.int .i64 s[3].toNat,.int .i64 s[0].toNat,.int .i64 s[1].toNat,.int .i64 s[2].toNat,.int .i64 (volN s.data.toList 6:Nat),.int .i64 (volN s.data.toList 9:Nat),.int .i64 (volN s.data.toList 12:Nat),.int .i64 (volN s.data.toList 15:Nat)])/\Below w.heap.size w w':=by
 have hp:=@placeAt_any _ _ hx hy
 have s6:(s.extract 6 18).size=12:=by simp;omega
 have e6:volN (s.extract 6 18).data.toList 0=volN s.data.toList 6:=by have:=volN_cut s 6 0 (by omega);rwa [hs] at this
 have e9:volN ((s.extract 6 18).extract 3 12).data.toList 0=volN s.data.toList 9:=by
  have h1:=volN_cut (s.extract 6 18) 3 0 (by omega);rw [s6] at h1;rw [h1]
  have:=volN_cut s 6 3 (by omega);rwa [hs] at this
 have e12:volN ((s.extract 6 18).extract 6 12).data.toList 0=volN s.data.toList 12:=by
  have h1:=volN_cut (s.extract 6 18) 6 0 (by omega);rw [s6] at h1;rw [h1]
  have:=volN_cut s 6 6 (by omega);rwa [hs] at this
 have e15:volN ((s.extract 6 18).extract 9 12).data.toList 0=volN s.data.toList 15:=by
  have h1:=volN_cut (s.extract 6 18) 9 0 (by omega);rw [s6] at h1;rw [h1]
  have:=volN_cut s 6 9 (by omega);rwa [hs] at this
 have v0:=readVol_any (s.extract 6 18) (by omega)
 have v1:=readVol_any ((s.extract 6 18).extract 3 12) (by simp;omega)
 have v2:=readVol_any ((s.extract 6 18).extract 6 12) (by simp;omega)
 have v3:=readVol_any ((s.extract 6 18).extract 9 12) (by simp;omega)
 rw [e6] at v0
 rw [e9] at v1
 rw [e12] at v2
 rw [e15] at v3
 clear e6 e9 e12 e15
 have g0:(0:Int)<(s.size:Int):=by omega
 have g1:(1:Int)<(s.size:Int):=by omega
 have g2:(2:Int)<(s.size:Int):=by omega
 have g3:(3:Int)<(s.size:Int):=by omega
 have g4:(4:Int)<(s.size:Int):=by omega
 have g5:(5:Int)<(s.size:Int):=by omega
 have g6:(6:Int)<=(s.size:Int):=by omega
 simp only [pl] at hp ⊢
 generalize fl s[4].toNat=fa at *
 generalize fl s[5].toNat=fb at *
 go_enter func192,ntmps192
 go_wp2_with fail
 generalize s.extract 6 18=t at *
 have q0:=wrapB s[0]
 have q1:=wrapB s[1]
 have q2:=wrapB s[2]
 have q3:=wrapB s[3]
 have q4:=wrapB s[4]
 have q5:=wrapB s[5]
 have r3:(3:Int)<=(t.size:Int):=by omega
 have r6:(6:Int)<=(t.size:Int):=by omega
 have r9:(9:Int)<=(t.size:Int):=by omega
 refine wp_region_then 31 (by kernel_rfl) (by decide) (by kernel_rfl) (by kernel_rfl) (by kernel_rfl) (by kernel_rfl) ?_
 simp only [List.take_succ_cons,List.take_zero]
 repeat (go_big_quiet_step (first
  | (go_at_call 147;exact Calls.quiet_of_same (hp _))
  | (go_at_call_of 193 (t.extract 9 12);exact Calls.quiet_of (v3 _))
  | (go_at_call_of 193 (t.extract 6 12);exact Calls.quiet_of (v2 _))
  | (go_at_call_of 193 (t.extract 3 12);exact Calls.quiet_of (v1 _))
  | (go_at_call 193;exact Calls.quiet_of (v0 _))))
 refine wpQuiet_nil ?_
 rintro w2 ⟨nq,rfl⟩
 simp only [List.drop_succ_cons,List.drop_zero]
 rw [show (w.alloc (.cells #[.complex .f64 0 0,.int .i64 0,.int .i64 0,.int .i64 0,.int .i64 0,.int .i64 0,.int .i64 0,.int .i64 0,.int .i64 0] 216)).drewN nq=(w.drewN nq).alloc (.cells #[.complex .f64 0 0,.int .i64 0,.int .i64 0,.int .i64 0,.int .i64 0,.int .i64 0,.int .i64 0,.int .i64 0,.int .i64 0] 216) from rfl]
 have hb:Below w.heap.size w (w.drewN nq):=below_drewN (Below.refl _ _) nq
 have hz:(w.drewN nq).heap.size=w.heap.size:=rfl
 rw [<- hz]
 generalize w.drewN nq=w3 at *
 have HZ:=hid hz
 clear hz
 go_wp2
 refine bodyPost_ret (v:=.agg #[.complex .f64 fa fb,.int .i64 s[3].toNat,.int .i64 s[0].toNat,.int .i64 s[1].toNat,.int .i64 s[2].toNat,.int .i64 (volN s.data.toList 6:Nat),.int .i64 (volN s.data.toList 9:Nat),.int .i64 (volN s.data.toList 12:Nat),.int .i64 (volN s.data.toList 15:Nat)]) (by simp [results,results192,go_sem]) rfl ⟨rfl,hb.alloc (by have:=HZ.out;omega) _⟩
theorem readTube_text (r:PT) (h:r.Ok) (w:World) :
  Calls prog 192 #[.string ⟨r.text.toArray⟩] w fun e w'=>e=.returned r.val/\Below w.heap.size w w':=by
 have e4:((⟨r.text.toArray⟩:ByteArray)[4]'(by show 4<18;omega)).toNat=r.x:=ofNat_lt (by have:=h.x;omega)
 have e5:((⟨r.text.toArray⟩:ByteArray)[5]'(by show 5<18;omega)).toNat=r.y:=ofNat_lt (by have:=h.y;omega)
 have e3:((⟨r.text.toArray⟩:ByteArray)[3]'(by show 3<18;omega)).toNat=r.box:=ofNat_lt h.box
 have e0:((⟨r.text.toArray⟩:ByteArray)[0]'(by show 0<18;omega)).toNat=r.donor:=ofNat_lt h.donor
 have e1:((⟨r.text.toArray⟩:ByteArray)[1]'(by show 1<18;omega)).toNat=r.status:=ofNat_lt h.status
 have e2:((⟨r.text.toArray⟩:ByteArray)[2]'(by show 2<18;omega)).toNat=r.thaws:=ofNat_lt h.thaws
 have v6:volN (⟨r.text.toArray⟩:ByteArray).data.toList 6=r.began:=volN_vol h.began
 have v9:volN (⟨r.text.toArray⟩:ByteArray).data.toList 9=r.left:=volN_vol h.left
 have v12:volN (⟨r.text.toArray⟩:ByteArray).data.toList 12=r.used:=volN_vol h.used
 have v15:volN (⟨r.text.toArray⟩:ByteArray).data.toList 15=r.lost:=volN_vol h.lost
 have:=readTube_any ⟨r.text.toArray⟩ rfl (by rw [e4];exact h.x) (by rw [e5];exact h.y) w
 rw [e0,e1,e2,e3,e4,e5,v6,v9,v12,v15] at this
 exact this
end
section
open Go.RowKit Go.Shelf
attribute [local go_sem] run_store_cplx
def PT.upTo (r:PT) (m:Nat):List UInt8:=r.head++([r.began,r.left,r.used,r.lost].take m).flatMap vol
theorem PT.upTo_four (r:PT):r.upTo 4=r.text:=by simp [PT.upTo,PT.text]
theorem str_vol (n:Nat):Lib.strCells ⟨(vol n).toArray⟩=byteCells (vol n):=by simp [Lib.strCells,byteCells]
theorem PT.head_cells (r:PT) (h:r.Ok):byteCells r.head=[.int .u8 r.donor,.int .u8 r.status,.int .u8 r.thaws,.int .u8 r.box,.int .u8 r.x,.int .u8 r.y]:=by
 simp only [byteCells,PT.head,List.map]
 rw [ofNat_lt h.donor,ofNat_lt h.status,ofNat_lt h.thaws,ofNat_lt h.box,ofNat_lt (by have:=h.x;omega),ofNat_lt (by have:=h.y;omega)]
theorem ix4 (a b c d:Int) (w:World):(∀ x,x=(.agg #[.int .i64 a,.int .i64 b,.int .i64 c,.int .i64 d]:Value)->(Instr.index 278 x (.int .i64 0)).run prog w=.ok (.int .i64 a) w/\(Instr.index 278 x (.int .i64 1)).run prog w=.ok (.int .i64 b) w/\(Instr.index 278 x (.int .i64 2)).run prog w=.ok (.int .i64 c) w/\(Instr.index 278 x (.int .i64 3)).run prog w=.ok (.int .i64 d) w):=by
 rintro x rfl
 exact ⟨by kernel_rfl,by kernel_rfl,by kernel_rfl,by kernel_rfl⟩
theorem own_below5 {w w':World} {base:Nat} {e:TypeId} {v:Value} {n:Nat} {xs:List Value} (h:w.ownsRow base e 1 v n xs) (hb:Below w.heap.size w w'):w'.ownsRow base e 1 v n xs:=ownsRow_block h (fun g hg=>hb.block g (h.lt g hg).2)
theorem text_any (r:PT) (h:r.Ok) (w:World) :
  Calls prog 194 #[r.val] w fun e w'=>e=.returned (.string ⟨r.text.toArray⟩)/\Below w.heap.size w w':=by
 have hx:=@x_any r.x r.y h.x
 have hy:=@y_any r.x r.y h.y
 unfold PT.val PT.cells
 simp only [pl] at hx hy ⊢
 generalize fl r.x=fa at *
 generalize fl r.y=fb at *
 have b1:(r.box:Int)<256:=by have:=h.box;omega
 have b2:(r.donor:Int)<256:=by have:=h.donor;omega
 have b3:(r.status:Int)<256:=by have:=h.status;omega
 have b4:(r.thaws:Int)<256:=by have:=h.thaws;omega
 have b5:(r.x:Int)<256:=by have:=h.x;omega
 have b6:(r.y:Int)<256:=by have:=h.y;omega
 go_enter func194,ntmps194
 go_wp2_with fail
 refine wp_region_then 20 (by kernel_rfl) (by decide) (by kernel_rfl) (by kernel_rfl) (by kernel_rfl) (by kernel_rfl) ?_
 simp only [List.take_succ_cons,List.take_zero]
 repeat (go_big_quiet_step (first
  | (go_at_call 171;exact Calls.quiet_of_same (hx _))
  | (go_at_call 172;exact Calls.quiet_of_same (hy _))))
 refine wpQuiet_nil ?_
 rintro w2 ⟨nq,rfl⟩
 simp only [List.drop_succ_cons,List.drop_zero]
 have hb3:Below w.heap.size w ((w.alloc (.cells #[.complex .f64 fa fb,.int .i64 r.box,.int .i64 r.donor,.int .i64 r.status,.int .i64 r.thaws,.int .i64 r.began,.int .i64 r.left,.int .i64 r.used,.int .i64 r.lost] 216)).drewN nq):=below_drewN (bal) nq
 have hx3:((w.alloc (.cells #[.complex .f64 fa fb,.int .i64 r.box,.int .i64 r.donor,.int .i64 r.status,.int .i64 r.thaws,.int .i64 r.began,.int .i64 r.left,.int .i64 r.used,.int .i64 r.lost] 216)).drewN nq).heap[w.heap.size]? = some (.cells #[.complex .f64 fa fb,.int .i64 r.box,.int .i64 r.donor,.int .i64 r.status,.int .i64 r.thaws,.int .i64 r.began,.int .i64 r.left,.int .i64 r.used,.int .i64 r.lost] 216):=World.alloc_heap_new w _
 generalize (w.alloc (.cells #[.complex .f64 fa fb,.int .i64 r.box,.int .i64 r.donor,.int .i64 r.status,.int .i64 r.thaws,.int .i64 r.began,.int .i64 r.left,.int .i64 r.used,.int .i64 r.lost] 216)).drewN nq=w3 at *
 have hl3:w.heap.size<w3.heap.size:=(Array.getElem?_eq_some_iff.1 hx3).1
 go_upto_region 2 with fail
 have hc4:=r.head_cells h
 have ho4:=own_full w3 w.heap.size 5 #[.int .u8 r.donor,.int .u8 r.status,.int .u8 r.thaws,.int .u8 r.box,.int .u8 r.x,.int .u8 r.y] (Nat.le_of_lt hl3) (by unfold maxLen;simp)
 have hb4:Below w3.heap.size w3 (w3.alloc (.cells #[.int .u8 r.donor,.int .u8 r.status,.int .u8 r.thaws,.int .u8 r.box,.int .u8 r.x,.int .u8 r.y] 5)):=bal
 rw [show (#[.int .u8 r.donor,.int .u8 r.status,.int .u8 r.thaws,.int .u8 r.box,.int .u8 r.x,.int .u8 r.y]:Array Value).toList=byteCells r.head from hc4.symm] at ho4
 simp only [List.size_toArray,List.length_cons,List.length_nil,Nat.zero_add,Nat.reduceAdd] at ho4
 have hx4:=(hb4.block _ hl3).trans hx3
 have hB4:=hb3.trans (hb4.mono (Nat.le_of_lt hl3))
 clear hc4
 generalize hs3:w3.heap.size=g3 at *
 clear hs3
 generalize w3.alloc (.cells #[.int .u8 r.donor,.int .u8 r.status,.int .u8 r.thaws,.int .u8 r.box,.int .u8 r.x,.int .u8 r.y] 5)=w4 at *
 have c5:w4.cell? ⟨w.heap.size,5,none⟩=some (.int .i64 r.began):=by simp only [World.cell?,hx4];rfl
 have c6:w4.cell? ⟨w.heap.size,6,none⟩=some (.int .i64 r.left):=by simp only [World.cell?,hx4];rfl
 have c7:w4.cell? ⟨w.heap.size,7,none⟩=some (.int .i64 r.used):=by simp only [World.cell?,hx4];rfl
 have c8:w4.cell? ⟨w.heap.size,8,none⟩=some (.int .i64 r.lost):=by simp only [World.cell?,hx4];rfl
 clear hx4 hx3 hb4 hb3 hl3
 obtain ⟨i0,hi,hz0,hz1,hz2⟩:=info_parts Tryz.infoByte
 go_wp2_with fail
 go_loopg [3,36] 4 (fun gk v i wr=>∃ m:Nat,m+gk=4/\i=.int .i64 m/\wr.ownsRow w.heap.size 5 1 v (r.upTo m).length (byteCells (r.upTo m))/\v≠.slice none 0 0/\Below w.heap.size w wr)
 case atStart=>exact ⟨0,by omega,rfl,by rw [show r.upTo 0=r.head by simp [PT.upTo]];exact ho4,by simp,hB4⟩
 case round =>
  clear ho4 hB4 c5 c6 c7 c8
  obtain ⟨m,hm,rfl,hown,hvn,hbr⟩:=hrel
  have hsz:=hbr.size
  obtain ⟨ix0,ix1,ix2,ix3⟩:=ix4 r.began r.left r.used r.lost wr _ rfl
  by_cases hlt:m<4
  ·rcases (show m=0\/m=1\/m=2\/m=3 by omega) with rfl | rfl | rfl | rfl
   ·have HV:=hid (volText_any r.began h.began)
    have HS:Hid (r.upTo 1=r.upTo 0++vol r.began):=hid (by simp [PT.upTo])
    go_wp2_with (first
     | (go_at_call 195;refine (HV.out _).mono ?_;rintro e w5 ⟨rfl,hb5⟩;have hown5:=own_below5 hown hb5;have hB5:=hbr.trans (hb5.mono (by have:=hbr.size;omega)))
     | (at_builtin;refine Lib.wpList_append_own_string _ rfl _ _ 51 9 rfl w.heap.size 5 i0 underlying51 underlying9 hi hz0 hz1 hz2 _ _ _ rfl hown5 ⟨(vol r.began).toArray⟩ rfl (by unfold maxLen;simp [vol,PT.upTo,PT.head,ByteArray.size]) (by simp [vol,PT.upTo,PT.head,ByteArray.size]) (by have:=hB5.size;omega) ?_;intro v' w6 hown6 hgrow6 hnil6))
    go_roundg (3)
    case measure=>omega
    case rel =>
     refine ⟨1,by omega,by go_num,?_,fun hv=>hvn (hnil6.1 hv).1,hB5.grown hgrow6 (by have:=hB5.size;omega) (fun k hk=>(hown5.lt k hk).1)⟩
     rw [HS.out,List.length_append,byteCells_append,<- str_vol]
     exact hown6
   ·have HV:=hid (volText_any r.left h.left)
    have HS:Hid (r.upTo 2=r.upTo 1++vol r.left):=hid (by simp [PT.upTo])
    go_wp2_with (first
     | (go_at_call 195;refine (HV.out _).mono ?_;rintro e w5 ⟨rfl,hb5⟩;have hown5:=own_below5 hown hb5;have hB5:=hbr.trans (hb5.mono (by have:=hbr.size;omega)))
     | (at_builtin;refine Lib.wpList_append_own_string _ rfl _ _ 51 9 rfl w.heap.size 5 i0 underlying51 underlying9 hi hz0 hz1 hz2 _ _ _ rfl hown5 ⟨(vol r.left).toArray⟩ rfl (by unfold maxLen;simp [vol,PT.upTo,PT.head,ByteArray.size]) (by simp [vol,PT.upTo,PT.head,ByteArray.size]) (by have:=hB5.size;omega) ?_;intro v' w6 hown6 hgrow6 hnil6))
    go_roundg (2)
    case measure=>omega
    case rel =>
     refine ⟨2,by omega,by go_num,?_,fun hv=>hvn (hnil6.1 hv).1,hB5.grown hgrow6 (by have:=hB5.size;omega) (fun k hk=>(hown5.lt k hk).1)⟩
     rw [HS.out,List.length_append,byteCells_append,<- str_vol]
     exact hown6
   ·have HV:=hid (volText_any r.used h.used)
    have HS:Hid (r.upTo 3=r.upTo 2++vol r.used):=hid (by simp [PT.upTo])
    go_wp2_with (first
     | (go_at_call 195;refine (HV.out _).mono ?_;rintro e w5 ⟨rfl,hb5⟩;have hown5:=own_below5 hown hb5;have hB5:=hbr.trans (hb5.mono (by have:=hbr.size;omega)))
     | (at_builtin;refine Lib.wpList_append_own_string _ rfl _ _ 51 9 rfl w.heap.size 5 i0 underlying51 underlying9 hi hz0 hz1 hz2 _ _ _ rfl hown5 ⟨(vol r.used).toArray⟩ rfl (by unfold maxLen;simp [vol,PT.upTo,PT.head,ByteArray.size]) (by simp [vol,PT.upTo,PT.head,ByteArray.size]) (by have:=hB5.size;omega) ?_;intro v' w6 hown6 hgrow6 hnil6))
    go_roundg (1)
    case measure=>omega
    case rel =>
     refine ⟨3,by omega,by go_num,?_,fun hv=>hvn (hnil6.1 hv).1,hB5.grown hgrow6 (by have:=hB5.size;omega) (fun k hk=>(hown5.lt k hk).1)⟩
     rw [HS.out,List.length_append,byteCells_append,<- str_vol]
     exact hown6
   ·have HV:=hid (volText_any r.lost h.lost)
    have HS:Hid (r.upTo 4=r.upTo 3++vol r.lost):=hid (by simp [PT.upTo])
    go_wp2_with (first
     | (go_at_call 195;refine (HV.out _).mono ?_;rintro e w5 ⟨rfl,hb5⟩;have hown5:=own_below5 hown hb5;have hB5:=hbr.trans (hb5.mono (by have:=hbr.size;omega)))
     | (at_builtin;refine Lib.wpList_append_own_string _ rfl _ _ 51 9 rfl w.heap.size 5 i0 underlying51 underlying9 hi hz0 hz1 hz2 _ _ _ rfl hown5 ⟨(vol r.lost).toArray⟩ rfl (by unfold maxLen;simp [vol,PT.upTo,PT.head,ByteArray.size]) (by simp [vol,PT.upTo,PT.head,ByteArray.size]) (by have:=hB5.size;omega) ?_;intro v' w6 hown6 hgrow6 hnil6))
    go_roundg (0)
    case measure=>omega
    case rel =>
     refine ⟨4,by omega,by go_num,?_,fun hv=>hvn (hnil6.1 hv).1,hB5.grown hgrow6 (by have:=hB5.size;omega) (fun k hk=>(hown5.lt k hk).1)⟩
     rw [HS.out,List.length_append,byteCells_append,<- str_vol]
     exact hown6
  ·obtain rfl:m=4:=by omega
   have HO:=hid hown
   rw [r.upTo_four] at hown
   obtain ⟨g,cap,rfl,hg1,hg2,hcs⟩:=own_cells hown (by simp [PT.text,PT.head])
   have hcv:=own_conv (cap:=cap) hcs
   have HB:=hid hbr
   clear hown hcs HO hbr
   rw [PT.text_len] at hcv ⊢
   generalize htx:r.text.toArray=tx at *
   have HTX:=hid htx
   clear htx
   go_wp2_with fail
   go_ret
   exact ⟨by rw [HTX.out];rfl,HB.out⟩
end
section
open Go.RowKit Go.Shelf
attribute [local go_sem] run_store_cplx
def boxK (n:Nat):Int:=1048576+n
def tubeK (n:Nat):Int:=2097152+n
def pourK (a b:Nat):Int:=3145728+a*1024+b
theorem boxKey_any (n:Nat) (hn:n<1024) (w:World) :
  Calls prog 150 #[.int .i64 n] w fun e w'=>e=.returned (.int .u32 (boxK n))/\w'=w:=by
 go_enter func150,ntmps150
 go_wp2
 go_ret
 exact ⟨ret_int (by rw [bits_join .u32 32 (by decide) wraps32 20 1048576 (n:Int) (by omega) (by omega) (by omega) (by omega) (by omega) (by omega)];rfl),rfl⟩
theorem tubeKey_any (n:Nat) (hn:n<1024) (w:World) :
  Calls prog 184 #[.int .i64 n] w fun e w'=>e=.returned (.int .u32 (tubeK n))/\w'=w:=by
 go_enter func184,ntmps184
 go_wp2
 go_ret
 exact ⟨ret_int (by rw [bits_join .u32 32 (by decide) wraps32 20 2097152 (n:Int) (by omega) (by omega) (by omega) (by omega) (by omega) (by omega)];rfl),rfl⟩
theorem pourKey_any (a b:Nat) (ha:a<1024) (hb:b<1024) (w:World) :
  Calls prog 185 #[.int .i64 a,.int .i64 b] w fun e w'=>e=.returned (.int .u32 (pourK a b))/\w'=w:=by
 go_enter func185,ntmps185
 go_wp2
 go_ret
 refine ⟨ret_int ?_,rfl⟩
 rw [bits_join .u32 32 (by decide) wraps32 20 3145728 ((a:Int)*1024) (by omega) (by omega) (by omega) (by omega) (by omega) (by omega)]
 rw [bits_join .u32 32 (by decide) wraps32 10 (3145728+(a:Int)*1024) (b:Int) (by omega) (by omega) (by omega) (by omega) (by omega) (by omega)]
 rfl
abbrev TxAt (n₀:Nat) (W:World) (b:Nat) (l:List KV):Prop:=TreeAt n₀ W b 147 l
def RecBox (W:World) (b:Nat) (c:Array Value):Prop:=W.heap[b]? = some (.cells c 216 (0,0))
theorem RecBox.cell {W:World} {b:Nat} {c:Array Value} (h:RecBox W b c) (i:Nat):W.cell? ⟨b,i,none⟩=c[i]?:=by simp only [World.cell?,show W.heap[b]? = _ from h];simp
theorem RecBox.fz {W:World} {b:Nat} {c:Array Value} (h:RecBox W b c) (i:Nat):W.frozen? ⟨b,i,none⟩=false:=by simp [World.frozen?,show W.heap[b]? = _ from h]
theorem RecBox.lt {W:World} {b:Nat} {c:Array Value} (h:RecBox W b c):b<W.heap.size:=(Array.getElem?_eq_some_iff.1 h).1
theorem RecBox.below {W W':World} {b:Nat} {c:Array Value} (h:RecBox W b c) (hb:Below W.heap.size W W'):RecBox W' b c:=(hb.block b h.lt).trans h
theorem RecBox.set {W:World} {b:Nat} {c:Array Value} (h:RecBox W b c) (i:Nat) (v:Value):RecBox (W.setCell ⟨b,i,none⟩ v) b (c.set! i v):=heap_setCell_same W b i _ _ _ h
def putR (W:World) (b fa fb:Nat) (n1 n2 n3 n4 n5 n6 n7 n8:Int):World:=(((((((((W).setCell ⟨b,0,none⟩ (.complex .f64 fa fb)).setCell ⟨b,1,none⟩ (.int .i64 n1)).setCell ⟨b,2,none⟩ (.int .i64 n2)).setCell ⟨b,3,none⟩ (.int .i64 n3)).setCell ⟨b,4,none⟩ (.int .i64 n4)).setCell ⟨b,5,none⟩ (.int .i64 n5)).setCell ⟨b,6,none⟩ (.int .i64 n6)).setCell ⟨b,7,none⟩ (.int .i64 n7)).setCell ⟨b,8,none⟩ (.int .i64 n8)
theorem RecBox.put {W:World} {b:Nat} {a0 a1 a2 a3 a4 a5 a6 a7 a8:Value} (h:RecBox W b #[a0,a1,a2,a3,a4,a5,a6,a7,a8]) (fa fb:Nat) (n1 n2 n3 n4 n5 n6 n7 n8:Int):RecBox (putR W b fa fb n1 n2 n3 n4 n5 n6 n7 n8) b #[.complex .f64 fa fb,.int .i64 n1,.int .i64 n2,.int .i64 n3,.int .i64 n4,.int .i64 n5,.int .i64 n6,.int .i64 n7,.int .i64 n8]:=by
 have:=((((((((h.set 0 (.complex .f64 fa fb)).set 1 (.int .i64 n1)).set 2 (.int .i64 n2)).set 3 (.int .i64 n3)).set 4 (.int .i64 n4)).set 5 (.int .i64 n5)).set 6 (.int .i64 n6)).set 7 (.int .i64 n7)).set 8 (.int .i64 n8)
 simp only [Array.set!_eq_setIfInBounds,List.setIfInBounds_toArray,List.set_cons_zero,List.set_cons_succ] at this
 exact this
theorem putR_below {W w:World} {b n:Nat} (h:Below n w W) (hb:n<=b) (fa fb:Nat) (n1 n2 n3 n4 n5 n6 n7 n8:Int):Below n w (putR W b fa fb n1 n2 n3 n4 n5 n6 n7 n8) :=
 ((((((((h.setCell (p:=⟨b,0,none⟩) hb _).setCell (p:=⟨b,1,none⟩) hb _).setCell (p:=⟨b,2,none⟩) hb _).setCell (p:=⟨b,3,none⟩) hb _).setCell (p:=⟨b,4,none⟩) hb _).setCell (p:=⟨b,5,none⟩) hb _).setCell (p:=⟨b,6,none⟩) hb _).setCell (p:=⟨b,7,none⟩) hb _).setCell (p:=⟨b,8,none⟩) hb _
end
section
open Go.RowKit Go.Shelf
attribute [local go_sem] run_store_cplx
theorem tube_none (n₀ b n:Nat) (l:List KV)  (w:World) (hT:TxAt n₀ w b l) (hn:n<1024) (hg:getK l (tubeK n)=none) :
  Calls prog 143 #[.pointer (some ⟨b,0,none⟩),.int .i64 n] w fun e w'=>e=.returned (.tuple #[.agg #[.complex .f64 0 0,.int .i64 0,.int .i64 0,.int .i64 0,.int .i64 0,.int .i64 0,.int .i64 0,.int .i64 0,.int .i64 0],.bool false])/\Below w.heap.size w w':=by
 obtain ⟨⟨r,hB,hI⟩,hf⟩:=hT
 have hn0:=hI.2.1
 have hb1:Below w.heap.size w (w.alloc (.cells #[.complex .f64 0 0,.int .i64 0,.int .i64 0,.int .i64 0,.int .i64 0,.int .i64 0,.int .i64 0,.int .i64 0,.int .i64 0] 216)):=bal
 have c0:=(hb1.cell (p:=⟨b,0,none⟩) hB.lt).trans hB.c0
 have c1:=(hb1.cell (p:=⟨b,1,none⟩) hB.lt).trans hB.c1
 have hx1:RecBox (w.alloc (.cells #[.complex .f64 0 0,.int .i64 0,.int .i64 0,.int .i64 0,.int .i64 0,.int .i64 0,.int .i64 0,.int .i64 0,.int .i64 0] 216)) w.heap.size #[.complex .f64 0 0,.int .i64 0,.int .i64 0,.int .i64 0,.int .i64 0,.int .i64 0,.int .i64 0,.int .i64 0,.int .i64 0]:=World.alloc_heap_new w _
 go_enter func143,ntmps143
 go_wp2_with fail
 generalize w.alloc (.cells #[.complex .f64 0 0,.int .i64 0,.int .i64 0,.int .i64 0,.int .i64 0,.int .i64 0,.int .i64 0,.int .i64 0,.int .i64 0] 216)=w1 at *
 have hget:=get_any n₀ r l.length (tubeK n) l w1.drew (hI.below ((hb1.mono hn0).trans ((Below.refl _ _).drew)))
 rw [hg] at hget
 have hkey:=tubeKey_any n hn
 have HX:=hid hx1
 have HB1:=hid hb1
 clear hx1 hI hB hb1
 go_region_with (first
  | (go_at_call 184;refine (hkey _).mono ?_;clear hkey;rintro e w' ⟨rfl,rfl⟩)
  | (go_at_call 186;refine hget.mono ?_;clear hget;rintro e w2 ⟨rfl,hb2⟩))
 all_goals
  have hx2:RecBox w2 w.heap.size #[.complex .f64 0 0,.int .i64 0,.int .i64 0,.int .i64 0,.int .i64 0,.int .i64 0,.int .i64 0,.int .i64 0,.int .i64 0]:=RecBox.below (W:=w1.drew) HX.out hb2
  have hB2:Below w.heap.size w w2:=(HB1.out.drew).trans (hb2.mono (by have:=HB1.out.size;exact this))
  clear hb2 c0 c1 HX HB1
  have HX2:=hid hx2
  have d0:=hx2.cell 0
  have d1:=hx2.cell 1
  have d2:=hx2.cell 2
  have d3:=hx2.cell 3
  have d4:=hx2.cell 4
  have d5:=hx2.cell 5
  have d6:=hx2.cell 6
  have d7:=hx2.cell 7
  have d8:=hx2.cell 8
  simp only [List.getElem?_toArray,List.getElem?_cons_zero,List.getElem?_cons_succ] at d0 d1 d2 d3 d4 d5 d6 d7 d8
  have f0:=hx2.fz 0
  have f1:=hx2.fz 1
  have f2:=hx2.fz 2
  have f3:=hx2.fz 3
  have f4:=hx2.fz 4
  have f5:=hx2.fz 5
  have f6:=hx2.fz 6
  have f7:=hx2.fz 7
  have f8:=hx2.fz 8
  clear hx2
  go_wp2_with fail
  have hxp:=HX2.out.put 0 0 0 0 0 0 0 0 0 0
  have hbp:=putR_below hB2 nlr 0 0 0 0 0 0 0 0 0 0
  unfold putR at hxp hbp
  clear d0 d1 d2 d3 d4 d5 d6 d7 d8 f0 f1 f2 f3 f4 f5 f6 f7 f8 HX2 hB2
  generalize (((((((((w2).setCell ⟨w.heap.size,0,none⟩ (.complex .f64 0 0)).setCell ⟨w.heap.size,1,none⟩ (.int .i64 0)).setCell ⟨w.heap.size,2,none⟩ (.int .i64 0)).setCell ⟨w.heap.size,3,none⟩ (.int .i64 0)).setCell ⟨w.heap.size,4,none⟩ (.int .i64 0)).setCell ⟨w.heap.size,5,none⟩ (.int .i64 0)).setCell ⟨w.heap.size,6,none⟩ (.int .i64 0)).setCell ⟨w.heap.size,7,none⟩ (.int .i64 0)).setCell ⟨w.heap.size,8,none⟩ (.int .i64 0)=w9 at *
  have y0:=hxp.cell 0
  have y1:=hxp.cell 1
  have y2:=hxp.cell 2
  have y3:=hxp.cell 3
  have y4:=hxp.cell 4
  have y5:=hxp.cell 5
  have y6:=hxp.cell 6
  have y7:=hxp.cell 7
  have y8:=hxp.cell 8
  simp only [List.getElem?_toArray,List.getElem?_cons_zero,List.getElem?_cons_succ] at y0 y1 y2 y3 y4 y5 y6 y7 y8
  exact bodyPost_ret (v:=.tuple #[.agg #[.complex .f64 0 0,.int .i64 0,.int .i64 0,.int .i64 0,.int .i64 0,.int .i64 0,.int .i64 0,.int .i64 0,.int .i64 0],.bool false]) (by simp [results,results143,go_sem,y0,y1,y2,y3,y4,y5,y6,y7,y8]) rfl ⟨rfl,hbp⟩
end
section
open Go.RowKit Go.Shelf
attribute [local go_sem] run_store_cplx
theorem tube_some (n₀ b n:Nat) (l:List KV) (q:PT) (hq:q.Ok) (w:World) (hT:TxAt n₀ w b l) (hn:n<1024) (hg:getK l (tubeK n)=some ⟨q.text.toArray⟩) :
  Calls prog 143 #[.pointer (some ⟨b,0,none⟩),.int .i64 n] w fun e w'=>e=.returned (.tuple #[q.val,.bool true])/\Below w.heap.size w w':=by
 have HRd:=hid (readTube_text q hq)
 simp only [PT.val,PT.cells,pl] at HRd ⊢
 generalize fl q.x=fa at *
 generalize fl q.y=fb at *
 obtain ⟨⟨r,hB,hI⟩,hf⟩:=hT
 have hn0:=hI.2.1
 have hb1:Below w.heap.size w (w.alloc (.cells #[.complex .f64 0 0,.int .i64 0,.int .i64 0,.int .i64 0,.int .i64 0,.int .i64 0,.int .i64 0,.int .i64 0,.int .i64 0] 216)):=bal
 have c0:=(hb1.cell (p:=⟨b,0,none⟩) hB.lt).trans hB.c0
 have c1:=(hb1.cell (p:=⟨b,1,none⟩) hB.lt).trans hB.c1
 have hx1:RecBox (w.alloc (.cells #[.complex .f64 0 0,.int .i64 0,.int .i64 0,.int .i64 0,.int .i64 0,.int .i64 0,.int .i64 0,.int .i64 0,.int .i64 0] 216)) w.heap.size #[.complex .f64 0 0,.int .i64 0,.int .i64 0,.int .i64 0,.int .i64 0,.int .i64 0,.int .i64 0,.int .i64 0,.int .i64 0]:=World.alloc_heap_new w _
 go_enter func143,ntmps143
 go_wp2_with fail
 generalize w.alloc (.cells #[.complex .f64 0 0,.int .i64 0,.int .i64 0,.int .i64 0,.int .i64 0,.int .i64 0,.int .i64 0,.int .i64 0,.int .i64 0] 216)=w1 at *
 have hget:=get_any n₀ r l.length (tubeK n) l w1.drew (hI.below ((hb1.mono hn0).trans ((Below.refl _ _).drew)))
 rw [hg] at hget
 have hkey:=tubeKey_any n hn
 have HX:=hid hx1
 have HB1:=hid hb1
 clear hx1 hI hB hb1
 go_region_with (first
  | (go_at_call 184;refine (hkey _).mono ?_;clear hkey;rintro e w' ⟨rfl,rfl⟩)
  | (go_at_call 186;refine hget.mono ?_;clear hget;rintro e w2 ⟨rfl,hb2⟩))
 all_goals
  have hx2:RecBox w2 w.heap.size #[.complex .f64 0 0,.int .i64 0,.int .i64 0,.int .i64 0,.int .i64 0,.int .i64 0,.int .i64 0,.int .i64 0,.int .i64 0]:=RecBox.below (W:=w1.drew) HX.out hb2
  have hB2:Below w.heap.size w w2:=(HB1.out.drew).trans (hb2.mono (by have:=HB1.out.size;exact this))
  clear hb2 c0 c1 HX HB1
  have HX0:=hid hx2
  have HB0:=hid hB2
  clear hx2 hB2
  generalize htx:(⟨q.text.toArray⟩:ByteArray)=tx at *
  clear htx
  go_wp2_with (go_at_call 192;refine (HRd.out _).mono ?_;clear HRd;rintro e w3 ⟨rfl,hb3⟩;have hx2:RecBox w3 w.heap.size #[.complex .f64 0 0,.int .i64 0,.int .i64 0,.int .i64 0,.int .i64 0,.int .i64 0,.int .i64 0,.int .i64 0,.int .i64 0]:=HX0.out.below hb3;have hB2:=HB0.out.trans (hb3.mono HB0.out.size);have d0:=hx2.cell 0;have d1:=hx2.cell 1;have d2:=hx2.cell 2;have d3:=hx2.cell 3;have d4:=hx2.cell 4;have d5:=hx2.cell 5;have d6:=hx2.cell 6;have d7:=hx2.cell 7;have d8:=hx2.cell 8;simp only [List.getElem?_toArray,List.getElem?_cons_zero,List.getElem?_cons_succ] at d0 d1 d2 d3 d4 d5 d6 d7 d8;have f0:=hx2.fz 0;have f1:=hx2.fz 1;have f2:=hx2.fz 2;have f3:=hx2.fz 3;have f4:=hx2.fz 4;have f5:=hx2.fz 5;have f6:=hx2.fz 6;have f7:=hx2.fz 7;have f8:=hx2.fz 8;have HX2:=hid hx2;clear hx2)
  have hxp:=HX2.out.put fa fb q.box q.donor q.status q.thaws q.began q.left q.used q.lost
  have hbp:=putR_below hB2 nlr fa fb q.box q.donor q.status q.thaws q.began q.left q.used q.lost
  unfold putR at hxp hbp
  clear d0 d1 d2 d3 d4 d5 d6 d7 d8 f0 f1 f2 f3 f4 f5 f6 f7 f8 HX2 hB2
  generalize (((((((((w3).setCell ⟨w.heap.size,0,none⟩ (.complex .f64 fa fb)).setCell ⟨w.heap.size,1,none⟩ (.int .i64 q.box)).setCell ⟨w.heap.size,2,none⟩ (.int .i64 q.donor)).setCell ⟨w.heap.size,3,none⟩ (.int .i64 q.status)).setCell ⟨w.heap.size,4,none⟩ (.int .i64 q.thaws)).setCell ⟨w.heap.size,5,none⟩ (.int .i64 q.began)).setCell ⟨w.heap.size,6,none⟩ (.int .i64 q.left)).setCell ⟨w.heap.size,7,none⟩ (.int .i64 q.used)).setCell ⟨w.heap.size,8,none⟩ (.int .i64 q.lost)=w9 at *
  have y0:=hxp.cell 0
  have y1:=hxp.cell 1
  have y2:=hxp.cell 2
  have y3:=hxp.cell 3
  have y4:=hxp.cell 4
  have y5:=hxp.cell 5
  have y6:=hxp.cell 6
  have y7:=hxp.cell 7
  have y8:=hxp.cell 8
  simp only [List.getElem?_toArray,List.getElem?_cons_zero,List.getElem?_cons_succ] at y0 y1 y2 y3 y4 y5 y6 y7 y8
  exact bodyPost_ret (v:=.tuple #[.agg #[.complex .f64 fa fb,.int .i64 q.box,.int .i64 q.donor,.int .i64 q.status,.int .i64 q.thaws,.int .i64 q.began,.int .i64 q.left,.int .i64 q.used,.int .i64 q.lost],.bool true]) (by simp [results,results143,go_sem,y0,y1,y2,y3,y4,y5,y6,y7,y8]) rfl ⟨rfl,hbp⟩
end
section
open Go.RowKit Go.Shelf
attribute [local go_sem] run_store_cplx
def PT.stored (q:PT) (box x y:Nat):PT:={ q with status:=1,box:=box,x:=x,y:=y }
def PT.gone (q:PT) (status:Nat):PT:={ q with status:=status,box:=0,x:=0,y:=0 }
structure RecCells (w:World) (p:Nat) (q:PT):Prop where
 c0:w.cell? ⟨p,0,none⟩=some (.complex .f64 (fl q.x) (fl q.y))
 c1:w.cell? ⟨p,1,none⟩=some (.int .i64 q.box)
 c2:w.cell? ⟨p,2,none⟩=some (.int .i64 q.donor)
 c3:w.cell? ⟨p,3,none⟩=some (.int .i64 q.status)
 c4:w.cell? ⟨p,4,none⟩=some (.int .i64 q.thaws)
 c5:w.cell? ⟨p,5,none⟩=some (.int .i64 q.began)
 c6:w.cell? ⟨p,6,none⟩=some (.int .i64 q.left)
 c7:w.cell? ⟨p,7,none⟩=some (.int .i64 q.used)
 c8:w.cell? ⟨p,8,none⟩=some (.int .i64 q.lost)
theorem RecBox.cells {w:World} {p:Nat} {q:PT} (h:RecBox w p q.cells):RecCells w p q :=
 ⟨h.cell 0,h.cell 1,h.cell 2,h.cell 3,h.cell 4,h.cell 5,h.cell 6,h.cell 7,h.cell 8⟩
theorem store_end {w:World} {p:Nat} {q:PT} (box px py:Nat) (hR:RecBox w p q.cells) :
  RecBox (((w.setCell ⟨p,3,none⟩ (.int .i64 1)).setCell ⟨p,1,none⟩ (.int .i64 box)).setCell ⟨p,0,none⟩ (.complex .f64 (fl px) (fl py))) p (q.stored box px py).cells /\
   Keeps (fun k=>k=p) w (((w.setCell ⟨p,3,none⟩ (.int .i64 1)).setCell ⟨p,1,none⟩ (.int .i64 box)).setCell ⟨p,0,none⟩ (.complex .f64 (fl px) (fl py))):=by
 refine ⟨?_,(((Keeps.refl (fun k=>k=p) w).setCell (p:=⟨p,3,none⟩) (.inl rfl) _).setCell (p:=⟨p,1,none⟩) (.inl rfl) _).setCell (p:=⟨p,0,none⟩) (.inl rfl) _⟩
 have:=((hR.set 3 (.int .i64 1)).set 1 (.int .i64 box)).set 0 (.complex .f64 (fl px) (fl py))
 simp only [PT.cells,Array.set!_eq_setIfInBounds,List.setIfInBounds_toArray,List.set_cons_zero,List.set_cons_succ] at this
 exact this
theorem gone_end {w:World} {p:Nat} {q:PT} (s:Nat) (hR:RecBox w p q.cells) :
  RecBox (((w.setCell ⟨p,3,none⟩ (.int .i64 s)).setCell ⟨p,1,none⟩ (.int .i64 0)).setCell ⟨p,0,none⟩ (.complex .f64 0 0)) p (q.gone s).cells /\
   Keeps (fun k=>k=p) w (((w.setCell ⟨p,3,none⟩ (.int .i64 s)).setCell ⟨p,1,none⟩ (.int .i64 0)).setCell ⟨p,0,none⟩ (.complex .f64 0 0)):=by
 refine ⟨?_,(((Keeps.refl (fun k=>k=p) w).setCell (p:=⟨p,3,none⟩) (.inl rfl) _).setCell (p:=⟨p,1,none⟩) (.inl rfl) _).setCell (p:=⟨p,0,none⟩) (.inl rfl) _⟩
 have:=((hR.set 3 (.int .i64 s)).set 1 (.int .i64 0)).set 0 (.complex .f64 0 0)
 simp only [PT.cells,Array.set!_eq_setIfInBounds,List.setIfInBounds_toArray,List.set_cons_zero,List.set_cons_succ] at this
 exact this
theorem store_any (p:Nat) (q:PT) (box px py:Nat) (w:World) (hR:RecBox w p q.cells) :
  Calls prog 151 #[.pointer (some ⟨p,0,none⟩),.int .i64 box,pl px py] w fun e w'=>e=.returned (.tuple #[])/\RecBox w' p (q.stored box px py).cells/\Keeps (fun k=>k=p) w w':=by
 have hE:=hid (store_end box px py hR)
 obtain ⟨c0,c1,c2,c3,c4,c5,c6,c7,c8⟩:=hR.cells
 have f0:=hR.fz 0
 have f1:=hR.fz 1
 have f3:=hR.fz 3
 clear hR
 simp only [pl]
 go_enter func151,ntmps151
 go_wp2
 go_end0
 exact ⟨rfl,hE.out⟩
theorem leave_any (p:Nat) (q:PT) (s:Nat) (w:World) (hR:RecBox w p q.cells) :
  Calls prog 160 #[.pointer (some ⟨p,0,none⟩),.int .i64 s] w fun e w'=>e=.returned (.tuple #[])/\RecBox w' p (q.gone s).cells/\Keeps (fun k=>k=p) w w':=by
 have hE:=hid (gone_end s hR)
 obtain ⟨c0,c1,c2,c3,c4,c5,c6,c7,c8⟩:=hR.cells
 have f0:=hR.fz 0
 have f1:=hR.fz 1
 have f3:=hR.fz 3
 clear hR
 go_enter func160,ntmps160
 go_wp2
 go_end0
 exact ⟨rfl,hE.out⟩
end
open _root_.Go.Proofs.Tryz
section
open Go.RowKit Go.Shelf
theorem side_none (n₀ b n:Nat) (l:List KV) (w:World) (hT:TxAt n₀ w b l) (hn:n<1024) (hg:getK l (boxK n)=none) :
  Calls prog 146 #[.pointer (some ⟨b,0,none⟩),.int .i64 n] w fun e w'=>e=.returned (.int .i64 0)/\Below w.heap.size w w':=by
 obtain ⟨⟨r,hB,hI⟩,hf⟩:=hT
 have c0:=hB.c0
 have c1:=hB.c1
 have hget:=get_any n₀ r l.length (boxK n) l w.drew (hI.below ((Below.refl _ _).drew))
 rw [hg] at hget
 have hkey:=boxKey_any n hn
 clear hI hB
 go_enter func146,ntmps146
 go_wp2_with fail
 go_region_with (first
  | (go_at_call 150;refine (hkey _).mono ?_;clear hkey;rintro e w' ⟨rfl,rfl⟩)
  | (go_at_call 186;refine hget.mono ?_;clear hget;rintro e w2 ⟨rfl,hb2⟩))
 all_goals go_wp2_with fail
 all_goals go_ret
 all_goals exact ⟨rfl,((Below.refl _ _).drew).trans hb2⟩
theorem side_some (n₀ b n:Nat) (l:List KV) (s:ByteArray) (hs:0<s.size) (w:World) (hT:TxAt n₀ w b l) (hn:n<1024) (hg:getK l (boxK n)=some s) :
  Calls prog 146 #[.pointer (some ⟨b,0,none⟩),.int .i64 n] w fun e w'=>e=.returned (.int .i64 s[0].toNat)/\Below w.heap.size w w':=by
 obtain ⟨⟨r,hB,hI⟩,hf⟩:=hT
 have c0:=hB.c0
 have c1:=hB.c1
 have hget:=get_any n₀ r l.length (boxK n) l w.drew (hI.below ((Below.refl _ _).drew))
 rw [hg] at hget
 have hkey:=boxKey_any n hn
 clear hI hB
 go_enter func146,ntmps146
 go_wp2_with fail
 go_region_with (first
  | (go_at_call 150;refine (hkey _).mono ?_;clear hkey;rintro e w' ⟨rfl,rfl⟩)
  | (go_at_call 186;refine hget.mono ?_;clear hget;rintro e w2 ⟨rfl,hb2⟩))
 all_goals have hb0:=byte_lt s[0]
 all_goals go_wp2_with fail
 all_goals go_ret
 all_goals exact ⟨rfl,((Below.refl _ _).drew).trans hb2⟩
theorem poured_none (n₀ b x y:Nat) (l:List KV) (w:World) (hT:TxAt n₀ w b l) (hx:x<1024) (hy:y<1024) (hg:getK l (pourK x y)=none) :
  Calls prog 145 #[.pointer (some ⟨b,0,none⟩),.int .i64 x,.int .i64 y] w fun e w'=>e=.returned (.int .i64 0)/\Below w.heap.size w w':=by
 obtain ⟨⟨r,hB,hI⟩,hf⟩:=hT
 have c0:=hB.c0
 have c1:=hB.c1
 have hget:=get_any n₀ r l.length (pourK x y) l w.drew (hI.below ((Below.refl _ _).drew))
 rw [hg] at hget
 have hkey:=pourKey_any x y hx hy
 clear hI hB
 go_enter func145,ntmps145
 go_wp2_with fail
 go_region_with (first
  | (go_at_call 185;refine (hkey _).mono ?_;clear hkey;rintro e w' ⟨rfl,rfl⟩)
  | (go_at_call 186;refine hget.mono ?_;clear hget;rintro e w2 ⟨rfl,hb2⟩))
 all_goals go_wp2_with fail
 all_goals go_ret
 all_goals exact ⟨rfl,((Below.refl _ _).drew).trans hb2⟩
theorem poured_some (n₀ b x y v:Nat) (l:List KV) (hv:v<16777216) (w:World) (hT:TxAt n₀ w b l) (hx:x<1024) (hy:y<1024) (hg:getK l (pourK x y)=some ⟨(vol v).toArray⟩) :
  Calls prog 145 #[.pointer (some ⟨b,0,none⟩),.int .i64 x,.int .i64 y] w fun e w'=>e=.returned (.int .i64 v)/\Below w.heap.size w w':=by
 obtain ⟨⟨r,hB,hI⟩,hf⟩:=hT
 have c0:=hB.c0
 have c1:=hB.c1
 have hget:=get_any n₀ r l.length (pourK x y) l w.drew (hI.below ((Below.refl _ _).drew))
 rw [hg] at hget
 have hkey:=pourKey_any x y hx hy
 have hrd:=readVol_any ⟨(vol v).toArray⟩ (by simp [vol,ByteArray.size])
 rw [show volN (⟨(vol v).toArray⟩:ByteArray).data.toList 0=v from volN_vol hv] at hrd
 clear hI hB hg
 simp only [Option.getD_some,Option.isSome_some] at hget
 generalize (⟨(vol v).toArray⟩:ByteArray)=tx at *
 go_enter func145,ntmps145
 go_wp2_with fail
 go_region_with (first
  | (go_at_call 185;refine (hkey _).mono ?_;clear hkey;rintro e w' ⟨rfl,rfl⟩)
  | (go_at_call 186;refine hget.mono ?_;clear hget;rintro e w2 ⟨rfl,hb2⟩))
 all_goals go_wp2_with (go_at_call 193;refine (hrd _).mono ?_;rintro e w3 ⟨rfl,m3,rfl⟩)
 all_goals go_ret
 all_goals exact ⟨rfl,below_drewN (((Below.refl _ _).drew).trans hb2) _⟩
end
end Go.Proofs.YtalncjhldkcmaaaGreat
