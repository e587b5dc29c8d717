import Derived.Test.YtalncjhldkcmaaaGreatFb13
import Derived.Deep.LoopGhost
namespace Go.Proofs.YtalncjhldkcmaaaGreat
open _root_.Go.Proofs.Tryz
set_option maxHeartbeats 16000000
set_option maxRecDepth 8000
section
open Go.RowKit
def onlyTo (c:Nat->Int) (fs:List Nat):Nat->Nat->Int
 | 0=>base (c 0)
 | m+1=>upd (onlyTo c fs m) (off (fs.getD m 0)) (c (off (fs.getD m 0)))
theorem ltrs_len (k:Int):(ltrs k).length=(flds k).length:=by simp [ltrs]
theorem str_app (a b:List UInt8):((⟨a.toArray⟩:ByteArray)++⟨b.toArray⟩)=⟨(a++b).toArray⟩:=by
 apply ByteArray.ext;simp
theorem str_at (l:List UInt8) (m:Nat) (h:m<(⟨l.toArray⟩:ByteArray).size) (h':m<l.length):(⟨l.toArray⟩:ByteArray)[m]'h=l[m]'h':=rfl
theorem refEncode_no (c:Nat->Int) (w:World) (h:c 0<1\/16<c 0) :
  Calls prog 34 #[.agg #[.int .i64 (c 0),.int .i64 (c 1),.int .i64 (c 2),.int .i64 (c 3),.int .i64 (c 4),.int .i64 (c 5),.int .i64 (c 6),.int .i64 (c 7),.int .i64 (c 8)]] w fun e w'=>e=.returned (.tuple #[.string ⟨(encS c).toArray⟩,.int .i64 (encE c)])/\Below w.heap.size w w':=by
 have HE:=hid (enc_none c h)
 go_enter func34,ntmps34
 go_wp2_with (go_at_call 52;refine (letters_no (c 0) h _).mono ?_;rintro e w' ⟨rfl,hb⟩)
 go_ret2
 exact ⟨ret_enc HE.out,(bal).trans (hb.mono (by simp))⟩
theorem only_at (c:Nat->Int) (fs:List Nat):∀ (n:Nat),n<=fs.length->∀ j,onlyTo c fs n j=if j=0\/j∈(fs.take n).map off then c j else 0
 | 0,_,j=>by
  show base (c 0) j=_
  unfold base
  by_cases h:j=0 <;> simp [h]
 | n+1,h,j=>by
  have hn:n<fs.length:=by omega
  show upd (onlyTo c fs n) (off (fs.getD n 0)) (c (off (fs.getD n 0))) j=_
  rw [getD_lt hn]
  have e:(fs.take (n+1)).map off=(fs.take n).map off++[off fs[n]]:=by rw [List.take_succ_eq_append_getElem hn,List.map_append];rfl
  unfold upd
  rw [e,only_at c fs n (by omega) j]
  by_cases h1:j=off fs[n]
  ·simp [h1]
  ·simp [h1]
theorem only_iff (c:Nat->Int) (fs:List Nat) (j:Nat):onlyTo c fs fs.length j=c j↔clr c fs j=0:=by
 rw [only_at c fs fs.length nlr j,List.take_length]
 unfold clr
 by_cases h:j=0\/j∈fs.map off
 ·rw [if_pos h,if_pos h];simp
 ·rw [if_neg h,if_neg h];exact ⟨fun h=>h.symm,fun h=>h.symm⟩
theorem only_zero (c:Nat->Int) (fs:List Nat):onlyTo c fs fs.length 0=c 0:=by
 rw [only_at c fs fs.length nlr 0];simp
theorem refEncode_yes (c:Nat->Int) (w:World) (h1:1<=c 0) (h2:c 0<=16) :
  Calls prog 34 #[.agg #[.int .i64 (c 0),.int .i64 (c 1),.int .i64 (c 2),.int .i64 (c 3),.int .i64 (c 4),.int .i64 (c 5),.int .i64 (c 6),.int .i64 (c 7),.int .i64 (c 8)]] w fun e w'=>e=.returned (.tuple #[.string ⟨(encS c).toArray⟩,.int .i64 (encE c)])/\Below w.heap.size w w':=by
 have hl:=flds_len (c 0)
 have hlp:=flds_pos (c 0) h1 h2
 have HF:=hid (flds_lt (c 0))
 have HB:=hid (byte_small (c 0) h1 h2)
 have HBad:=hid (enc_bad c)
 have HMore:=hid (enc_more c)
 have HGood:=hid (enc_good c h1 h2)
 have hC0:=Has.new w 31 c
 have hB0:=(Below.refl w.heap.size w).alloc nlr (.cells #[.int .i64 (c 0),.int .i64 (c 1),.int .i64 (c 2),.int .i64 (c 3),.int .i64 (c 4),.int .i64 (c 5),.int .i64 (c 6),.int .i64 (c 7),.int .i64 (c 8)] 31)
 go_enter func34,ntmps34
 go_wp2_with fail
 refine (letters_yes (c 0) h1 h2 _).mono ?_
 rintro e w1 ⟨rfl,hb1⟩
 have hC1:=hC0.below hb1 (by simp)
 have hB1:=hB0.trans (hb1.mono (by simp))
 have hz1:w.heap.size<w1.heap.size:=by have:=hb1.size;simp at this;omega
 clear hC0 hB0 hb1
 have hSs:(⟨(ltrs (c 0)).toArray⟩:ByteArray).size=(flds (c 0)).length:=ltrs_len (c 0)
 have hSat:Hid (∀ m (h:m<(⟨(ltrs (c 0)).toArray⟩:ByteArray).size) (h':m<(flds (c 0)).length),(⟨(ltrs (c 0)).toArray⟩:ByteArray)[m].toNat=(ltr (flds (c 0))[m]).toNat):=by
  intro m h h'
  rw [str_at _ m h (by rw [ltrs_len];exact h')]
  simp [ltrs]
 have hSe:(⟨(ltrs (c 0)).toArray⟩:ByteArray).toList.isEmpty=false:=by
  simp only [ByteArray.toList_mk];rw [List.isEmpty_eq_false_iff];intro h;have:=ltrs_len (c 0);rw [h] at this;simp at this;omega
 generalize (⟨(ltrs (c 0)).toArray⟩:ByteArray)=S at *
 generalize flds (c 0)=fs at *
 have c0:=hC1.1 0 (by omega)
 have hconv:=own_conv (w:=w1.alloc (.cells #[.int .u8 (c 0)] 5)) (g:=w1.heap.size) (cap:=1) (l:=frameL c []) (by
  intro j hj
  have hj0:j=0:=by simp [frameL] at hj;omega
  subst hj0
  have e:((⟨w1.heap.size,0,none⟩:Addr).add 0)=⟨w1.heap.size,0,none⟩:=rfl
  rw [e,World.cell?_alloc_new]
  show some (Value.int .u8 (c 0))=some (Value.int .u8 ((UInt8.ofNat (c 0).toNat).toNat:Int))
  rw [HB.out])
 have hl1:(frameL c []).length=1:=rfl
 rw [hl1] at hconv
 clear hl1
 go_wp2_with fail
 have hO:=Has.newK (w1.alloc (.cells #[.int .u8 (c 0)] 5)) 31 (c 0)
 have hC2:=(hC1.alloc hz1 (.cells #[.int .u8 (c 0)] 5)).alloc (by simp;omega) (.cells #[.int .i64 (c 0),.int .i64 0,.int .i64 0,.int .i64 0,.int .i64 0,.int .i64 0,.int .i64 0,.int .i64 0,.int .i64 0] 31)
 have hB2:=(hB1.alloc (Nat.le_of_lt hz1) (.cells #[.int .u8 (c 0)] 5)).alloc (by simp;omega) (.cells #[.int .i64 (c 0),.int .i64 0,.int .i64 0,.int .i64 0,.int .i64 0,.int .i64 0,.int .i64 0,.int .i64 0,.int .i64 0] 31)
 have hO':Has ((w1.alloc (.cells #[.int .u8 (c 0)] 5)).alloc (.cells #[.int .i64 (c 0),.int .i64 0,.int .i64 0,.int .i64 0,.int .i64 0,.int .i64 0,.int .i64 0,.int .i64 0,.int .i64 0] 31)) (w1.heap.size+1) (onlyTo c fs 0):=by show Has _ _ (base (c 0));simpa using hO
 clear hC1 hB1 hO hconv c0
 go_loopg [5,7] fs.length (fun gk sv i wr=>∃ m:Nat,m+gk=fs.length/\i=.int .i64 m/\sv=.string ⟨(frameL c (fs.take m)).toArray⟩/\Has wr w.heap.size c/\Has wr (w1.heap.size+1) (onlyTo c fs m)/\Below w.heap.size w wr/\w1.heap.size+1<wr.heap.size/\okAll c (fs.take m)=true/\(frameL c (fs.take m)).length<=4*m+1)
 case atStart=>exact ⟨0,by omega,rfl,rfl,hC2,hO',hB2,by simp,rfl,by simp [frameL]⟩
 case round =>
  clear hC2 hB2 hO'
  obtain ⟨m,hm,rfl,rfl,hC,hO,hB,hz,hok,hfl⟩:=hrel
  have HOK:=hid hok
  have HM:=hid hm
  clear hok hm
  have hmle:m<=fs.length:=by have:=HM.out;omega
  by_cases hlt:m<fs.length
  ·have hf9:=HF.out (fs[m]) (List.getElem_mem hlt)
   have hlt':(m:Int)<(S.size:Int):=by omega
   have hSm:=hSat.out m (by omega) hlt
   have hb6:w.heap.size<w1.heap.size+1:=by omega
   have HST:Hid (∀ j,upd (onlyTo c fs m) (off fs[m]) (c (off fs[m])) j=onlyTo c fs (m+1) j):=by
    intro j;rw [<- getD_lt hlt];rfl
   have HBad':=hid (fun hb=>HBad.out (okAll_bad c fs m hlt hb))
   have HOKs:=hid (fun hb=>okAll_step c fs m hlt HOK.out hb)
   have HFS:=hid (frameL_step c fs m hlt)
   generalize fs[m]=f at *
   obtain ⟨c0,c1,c2,c3,c4,c5,c6,c7,c8⟩:=hC.nine
   go_upto_region 9 with fail
   go_cut [8] from 24 to 59 (fun a wc=>a=.int .i64 (c (off f))/\Has wc w.heap.size c/\Has wc (w1.heap.size+1) (onlyTo c fs m)/\Below w.heap.size w wc/\w1.heap.size+1<wc.heap.size)
   case first =>
    go_region_with (go_at_call 53;refine (rget_any c f hf9 _).mono ?_;rintro e w' ⟨rfl,hbg⟩)
    all_goals
     go_wp2_with fail
     go_meet
     have hs:=hbg.size
     simp at hs
     exact ⟨rfl,hC.drew.below hbg (by show _<wr.heap.size;omega),hO.drew.below hbg (by show _<wr.heap.size;omega),hB.drew.trans (hbg.mono (by show _<=wr.heap.size;omega)),by omega⟩
   case rest =>
    clear c0 c1 c2 c3 c4 c5 c6 c7 c8 hC hO hB hz
    obtain ⟨rfl,hC,hO,hB,hz⟩:=hcut
    cases hb:okB f (c (off f)) with
    | false =>
     have hE:=hid (HBad'.out hb)
     have hb2:c (off f)<lo f\/hi f<c (off f):=by
      simp only [okB,Bool.and_eq_false_iff,decide_eq_false_iff_not] at hb;omega
     clear hb
     by_cases hlo:c (off f)<lo f
     ·go_wp2_with (go_at_call 54;refine (bounds_any f hf9 _).mono ?_;rintro e w' ⟨rfl,rfl⟩)
      go_ret2
      exact ⟨ret_enc hE.out,hB⟩
     ·have hhi:hi f<c (off f):=by omega
      have hlo':decide (c (off f)<lo f)=false:=by simpa using hlo
      go_wp2_with (go_at_call 54;refine (bounds_any f hf9 _).mono ?_;rintro e w' ⟨rfl,rfl⟩)
      go_ret2
      exact ⟨ret_enc hE.out,hB⟩
    | true =>
     have hst:=hid (HOKs.out hb)
     have hbd:=okB_bounds hb
     have hlo':decide (c (off f)<lo f)=false:=by simp only [okB,Bool.and_eq_true,decide_eq_true_eq] at hb;simp;omega
     have hhi':decide (hi f<c (off f))=false:=by simp only [okB,Bool.and_eq_true,decide_eq_true_eq] at hb;simp;omega
     obtain ⟨n,hn⟩:=Int.eq_ofNat_of_zero_le hbd.1
     have HFS2:Hid (frameL c (List.take (m+1) fs)=frameL c (List.take m fs)++be4 n):=by
      show _=_;rw [HFS.out,hn];simp
     have HST2:Hid (∀ j,upd (onlyTo c fs m) (off f) (n:Int) j=onlyTo c fs (m+1) j):=by
      show ∀ j,_;intro j;rw [<- HST.out j,hn]
     rw [hn] at hbd hlo' hhi'
     obtain ⟨hn0,hn1⟩:=hbd
     rw [hn]
     clear hb HFS HST HOKs HBad' hn
     have hcat:=str_app (frameL c (List.take m fs)) (be4 n)
     have hnl:¬ 9223372036854775807<(frameL c (List.take m fs)).length+(be4 n).length:=by rw [be4_len];omega
     go_wp2_with (first | (go_at_call 54;refine (bounds_any f hf9 _).mono ?_;rintro e w' ⟨rfl,rfl⟩) | (go_at_call 55;refine (four_any n (by omega) _).mono ?_;rintro e w4 ⟨rfl,hb4⟩))
     have hC4:=hC.below hb4 (by omega)
     have hO4:=hO.below hb4 (by omega)
     have hB4:=hB.trans (hb4.mono (by omega))
     have hz4:=hb4.size
     clear hC hO hB hb4
     have q0:=hO4.1 0 (by omega)
     have q1:=hO4.1 1 (by omega)
     have q2:=hO4.1 2 (by omega)
     have q3:=hO4.1 3 (by omega)
     have q4:=hO4.1 4 (by omega)
     have q5:=hO4.1 5 (by omega)
     have q6:=hO4.1 6 (by omega)
     have q7:=hO4.1 7 (by omega)
     have q8:=hO4.1 8 (by omega)
     go_region_with (go_at_call 56;refine (with_any (onlyTo c fs m) f hf9 n _).mono ?_;rintro e w5 ⟨rfl,hb5⟩;have hO5:=hO4.drew.below hb5 (by show _<w4.heap.size;omega);have r0:=hO5.1 0 (by omega);have r1:=hO5.1 1 (by omega);have r2:=hO5.1 2 (by omega);have r3:=hO5.1 3 (by omega);have r4:=hO5.1 4 (by omega);have r5:=hO5.1 5 (by omega);have r6:=hO5.1 6 (by omega);have r7:=hO5.1 7 (by omega);have r8:=hO5.1 8 (by omega);have rf:=hO5.2)
     all_goals
      go_wp2
      go_roundg (gk - 1)
      case measure=>have:=HM.out;omega
      case rel =>
       have hz5:=hb5.size
       have hz5':w4.heap.size<=w5.heap.size:=hz5
       have hC5:=hC4.drew.below hb5 (by show _<w4.heap.size;omega)
       have hB5:Below w.heap.size w w5:=hB4.drew.trans (hb5.mono (by show _<=w4.heap.size;omega))
       have p1:=hC5.below (B:=w1.heap.size+1) (Below.put9 (Below.refl _ _) nlr (upd (onlyTo c fs m) (off f) n)) (by omega)
       have p2:=(hO5.put9 (upd (onlyTo c fs m) (off f) n)).congr (fun j _=>HST2.out j)
       have p3:=Below.put9 hB5 (Nat.le_of_lt hb6) (upd (onlyTo c fs m) (off f) n)
       have p4:=put9_size w5 (w1.heap.size+1) (upd (onlyTo c fs m) (off f) n)
       exact ⟨m+1,by have:=HM.out;omega,by go_num,by rw [HFS2.out],p1,p2,p3,by show _<(put9 w5 (w1.heap.size+1) (upd (onlyTo c fs m) (off f) n)).heap.size;omega,hst.out,by rw [HFS2.out,List.length_append,be4_len];omega⟩
  ·have hme:m=fs.length:=by omega
   rw [hme] at hO
   have hokf:=HOK.out
   rw [hme,List.take_length] at hokf
   have HOKF:=hid hokf
   have HT:Hid (fs.take m=fs):=by rw [hme,List.take_length];exact hid rfl
   clear hokf HOK hme
   have Ho:=hid (fun j=>only_iff c fs j)
   have ho0:=only_zero c fs
   generalize onlyTo c fs fs.length=o at *
   obtain ⟨c0,c1,c2,c3,c4,c5,c6,c7,c8⟩:=hC.nine
   have q0:=hO.1 0 (by omega)
   have q1:=hO.1 1 (by omega)
   have q2:=hO.1 2 (by omega)
   have q3:=hO.1 3 (by omega)
   have q4:=hO.1 4 (by omega)
   have q5:=hO.1 5 (by omega)
   have q6:=hO.1 6 (by omega)
   have q7:=hO.1 7 (by omega)
   have q8:=hO.1 8 (by omega)
   go_wp2
   all_goals
    go_ret2
    refine ⟨?_,hB⟩
    try rw [HT.out]
    first
     | exact ret_enc (HMore.out (more_t 1 (by omega) (fun h=>absurd ((Ho.out 1).2 h) (by assumption))))
     | exact ret_enc (HMore.out (more_t 2 (by omega) (fun h=>absurd ((Ho.out 2).2 h) (by assumption))))
     | exact ret_enc (HMore.out (more_t 3 (by omega) (fun h=>absurd ((Ho.out 3).2 h) (by assumption))))
     | exact ret_enc (HMore.out (more_t 4 (by omega) (fun h=>absurd ((Ho.out 4).2 h) (by assumption))))
     | exact ret_enc (HMore.out (more_t 5 (by omega) (fun h=>absurd ((Ho.out 5).2 h) (by assumption))))
     | exact ret_enc (HMore.out (more_t 6 (by omega) (fun h=>absurd ((Ho.out 6).2 h) (by assumption))))
     | exact ret_enc (HMore.out (more_t 7 (by omega) (fun h=>absurd ((Ho.out 7).2 h) (by assumption))))
     | exact ret_enc (HMore.out (more_t 8 (by omega) (fun h=>absurd ((Ho.out 8).2 h) (by assumption))))
     | exact ret_enc (HGood.out HOKF.out (more_f (all9.2 ⟨(Ho.out 0).1 ho0,(Ho.out 1).1 (by assumption),(Ho.out 2).1 (by assumption),(Ho.out 3).1 (by assumption),(Ho.out 4).1 (by assumption),(Ho.out 5).1 (by assumption),(Ho.out 6).1 (by assumption),(Ho.out 7).1 (by assumption),(Ho.out 8).1 (by assumption)⟩)))
theorem refEncode_any (c:Nat->Int) (w:World) :
  Calls prog 34 #[.agg #[.int .i64 (c 0),.int .i64 (c 1),.int .i64 (c 2),.int .i64 (c 3),.int .i64 (c 4),.int .i64 (c 5),.int .i64 (c 6),.int .i64 (c 7),.int .i64 (c 8)]] w fun e w'=>e=.returned (.tuple #[.string ⟨(encS c).toArray⟩,.int .i64 (encE c)])/\Below w.heap.size w w':=by
 by_cases h:1<=c 0/\c 0<=16
 ·exact refEncode_yes c w h.1 h.2
 ·exact refEncode_no c w (by omega)
end
section
open Go.RowKit
theorem natOf4 (a b c d:UInt8):natOf [a,b,c,d]=a.toNat*16777216+b.toNat*65536+c.toNat*256+d.toNat:=by
 simp only [natOf,List.foldl];omega
theorem drop_take4 (l:List UInt8) (i:Nat) (h:i+4<=l.length):(l.drop i).take 4=[l.getD i 0,l.getD (i+1) 0,l.getD (i+2) 0,l.getD (i+3) 0]:=by
 have:=take4 (l.drop i) 0 (by rw [List.length_drop];omega)
 rw [Nat.zero_add,List.take_zero,List.nil_append] at this
 rw [this]
 simp only [List.getD_eq_getElem?_getD,List.getElem?_drop]
 simp
theorem ext_list (s:ByteArray) (i j:Nat):(s.extract i j).data.toList=(s.data.toList.drop i).take (j - i):=by
 rw [ByteArray.data_extract,Array.toList_extract,List.extract_eq_take_drop]
theorem ext_num (s:ByteArray) (i:Nat) (h:i+4<=s.size):natOf (s.extract i (i+4)).data.toList=numB s.data.toList i:=by
 rw [ext_list,Nat.add_sub_cancel_left,drop_take4 _ i (by simpa using h),natOf4];rfl
theorem numB_tail (k:UInt8) (t:List UInt8) (j:Nat):numB (k::t) (j+1)=numB t j:=by simp [numB]
theorem okAll_dec (k:Int) (fs:List Nat) (t:List UInt8) (hn:(fs.map off).Nodup):okAll (decTo k fs t fs.length) fs=okTo fs t fs.length:=by
 have hat:=decTo_at k fs t hn fs.length nlr
 unfold okAll okTo
 rw [Bool.eq_iff_iff,List.all_eq_true,List.all_eq_true]
 constructor
 ·intro h j hj
  have hj':=List.mem_range.1 hj
  have:=h fs[j] (List.getElem_mem hj')
  rw [hat j hj' hj'] at this
  rw [getD_lt hj'];exact this
 ·intro h f hf
  obtain ⟨j,hj,rfl⟩:=List.getElem_of_mem hf
  have:=h j (List.mem_range.2 hj)
  rw [getD_lt hj] at this
  rw [hat j hj hj];exact this
theorem decTo_zero (k:Int) (fs:List Nat) (t:List UInt8):decTo k fs t fs.length 0=k:=by
 rw [decTo_else k fs t 0 (by simp only [List.mem_map,not_exists,not_and];intro f _ h;have:=off_pos f;omega) _ nlr];simp [base]
theorem dec_enc_no (k:Nat) (t:List UInt8) (h:okTo (flds k) t (flds k).length=false):encE (decTo k (flds k) t (flds k).length)=1:=by
 have h0:=decTo_zero k (flds k) t
 have h1:okAll (decTo k (flds k) t (flds k).length) (flds (decTo k (flds k) t (flds k).length 0))=false:=by rw [h0,okAll_dec _ _ _ (flds_nodup _)];exact h
 exact (enc_bad _ h1).2
theorem dec_enc_yes (k:UInt8) (t:List UInt8) (h1:1<=k.toNat) (h2:k.toNat<=16) (h3:t.length=4*(flds k.toNat).length) (h4:okTo (flds k.toNat) t (flds k.toNat).length=true):encE (decTo k.toNat (flds k.toNat) t (flds k.toNat).length)=0:=by
 have hB:decB (k::t)=true:=by unfold decB;simp [h1,h2,h3,h4]
 have:=(dec_enc (k::t) hB).1
 rw [(dec_good k t h1 h2 h3 h4).1] at this
 unfold encE;rw [this];rfl
theorem refDecode_nil (w:World) :
  Calls prog 88 #[.string ByteArray.empty] w fun e w'=>e=.returned (.tuple #[.agg #[.int .i64 (decC [] 0),.int .i64 (decC [] 1),.int .i64 (decC [] 2),.int .i64 (decC [] 3),.int .i64 (decC [] 4),.int .i64 (decC [] 5),.int .i64 (decC [] 6),.int .i64 (decC [] 7),.int .i64 (decC [] 8)],.int .i64 (decE [])])/\Below w.heap.size w w':=by
 go_enter func88,ntmps88
 go_wp2
 exact bodyPost_ret (v:=.tuple #[.agg #[.int .i64 (zero9 0),.int .i64 (zero9 1),.int .i64 (zero9 2),.int .i64 (zero9 3),.int .i64 (zero9 4),.int .i64 (zero9 5),.int .i64 (zero9 6),.int .i64 (zero9 7),.int .i64 (zero9 8)],.int .i64 1]) (by simp [results,results88,go_sem,zero9]) rfl ⟨ret_dec dec_nil,bal⟩
end
section
open Go.RowKit
theorem refDecode_no (s:ByteArray) (w:World) (h0:0<s.size) (k:Nat) (hk:s[0].toNat=k) (h:(k:Int)<1\/16<(k:Int)) :
  Calls prog 88 #[.string s] w fun e w'=>e=.returned (.tuple #[.agg #[.int .i64 (decC s.data.toList 0),.int .i64 (decC s.data.toList 1),.int .i64 (decC s.data.toList 2),.int .i64 (decC s.data.toList 3),.int .i64 (decC s.data.toList 4),.int .i64 (decC s.data.toList 5),.int .i64 (decC s.data.toList 6),.int .i64 (decC s.data.toList 7),.int .i64 (decC s.data.toList 8)],.int .i64 (decE s.data.toList)])/\Below w.heap.size w w':=by
 have hne:=isEmpty_no s h0
 have hE:Hid (decC s.data.toList=zero9/\decE s.data.toList=1):=by
  rw [cons_of s h0];exact dec_kind s[0] _ (by rw [hk];omega)
 have hk256:k<256:=by rw [<- hk];exact byte_lt _
 have hZ0:=((Has.newK w 31 0).congr (d:=zero9) (fun j _=>by simp [base,zero9])).alloc (by simp) (.cells #[.int .i64 k,.int .i64 0,.int .i64 0,.int .i64 0,.int .i64 0,.int .i64 0,.int .i64 0,.int .i64 0,.int .i64 0] 31)
 have hC0:Has ((w.alloc (.cells #[.int .i64 0,.int .i64 0,.int .i64 0,.int .i64 0,.int .i64 0,.int .i64 0,.int .i64 0,.int .i64 0,.int .i64 0] 31)).alloc (.cells #[.int .i64 k,.int .i64 0,.int .i64 0,.int .i64 0,.int .i64 0,.int .i64 0,.int .i64 0,.int .i64 0,.int .i64 0] 31)) (w.heap.size+1) (base k):=by simpa using Has.newK (w.alloc (.cells #[.int .i64 0,.int .i64 0,.int .i64 0,.int .i64 0,.int .i64 0,.int .i64 0,.int .i64 0,.int .i64 0,.int .i64 0] 31)) 31 k
 have hB0:=((Below.refl w.heap.size w).alloc nlr (.cells #[.int .i64 0,.int .i64 0,.int .i64 0,.int .i64 0,.int .i64 0,.int .i64 0,.int .i64 0,.int .i64 0,.int .i64 0] 31)).alloc (by simp) (.cells #[.int .i64 k,.int .i64 0,.int .i64 0,.int .i64 0,.int .i64 0,.int .i64 0,.int .i64 0,.int .i64 0,.int .i64 0] 31)
 go_enter func88,ntmps88
 go_wp2_with fail
 refine (letters_no k h _).mono ?_
 rintro e w1 ⟨rfl,hb1⟩
 have hZ:=hZ0.below hb1 (by simp;omega)
 have hbel:=hB0.trans (hb1.mono (by simp;omega))
 clear hZ0 hC0 hB0 hb1
 have z0:=hZ.1 0 (by omega)
 have z1:=hZ.1 1 (by omega)
 have z2:=hZ.1 2 (by omega)
 have z3:=hZ.1 3 (by omega)
 have z4:=hZ.1 4 (by omega)
 have z5:=hZ.1 5 (by omega)
 have z6:=hZ.1 6 (by omega)
 have z7:=hZ.1 7 (by omega)
 have z8:=hZ.1 8 (by omega)
 have zf:=hZ.2
 simp only [zero9] at z0 z1 z2 z3 z4 z5 z6 z7 z8
 go_wp2
 have hZ':=hZ.put9 zero9
 have hB':=Below.put9 hbel nlr zero9
 change bodyPost _ _ _ _ _ (put9 w1 w.heap.size zero9)
 generalize put9 w1 w.heap.size zero9=w9 at hZ' hB' ⊢
 have y0:=hZ'.1 0 (by omega)
 have y1:=hZ'.1 1 (by omega)
 have y2:=hZ'.1 2 (by omega)
 have y3:=hZ'.1 3 (by omega)
 have y4:=hZ'.1 4 (by omega)
 have y5:=hZ'.1 5 (by omega)
 have y6:=hZ'.1 6 (by omega)
 have y7:=hZ'.1 7 (by omega)
 have y8:=hZ'.1 8 (by omega)
 exact bodyPost_ret (v:=.tuple #[.agg #[.int .i64 (zero9 0),.int .i64 (zero9 1),.int .i64 (zero9 2),.int .i64 (zero9 3),.int .i64 (zero9 4),.int .i64 (zero9 5),.int .i64 (zero9 6),.int .i64 (zero9 7),.int .i64 (zero9 8)],.int .i64 1]) (by simp [results,results88,go_sem,y0,y1,y2,y3,y4,y5,y6,y7,y8]) rfl ⟨ret_dec hE.out,hB'⟩
theorem refDecode_yes (s:ByteArray) (w:World) (hs:s.size<=maxLen) (h0:0<s.size) (k:Nat) (hk:s[0].toNat=k) (h1:1<=(k:Int)) (h2:(k:Int)<=16) :
  Calls prog 88 #[.string s] w fun e w'=>e=.returned (.tuple #[.agg #[.int .i64 (decC s.data.toList 0),.int .i64 (decC s.data.toList 1),.int .i64 (decC s.data.toList 2),.int .i64 (decC s.data.toList 3),.int .i64 (decC s.data.toList 4),.int .i64 (decC s.data.toList 5),.int .i64 (decC s.data.toList 6),.int .i64 (decC s.data.toList 7),.int .i64 (decC s.data.toList 8)],.int .i64 (decE s.data.toList)])/\Below w.heap.size w w':=by
 unfold maxLen at hs
 have hne:=isEmpty_no s h0
 have HL:=hid (cons_of s h0)
 have hl:=flds_len k
 have hlp:=flds_pos k h1 h2
 have HF:=hid (flds_lt k)
 have hZ0:=((Has.newK w 31 0).congr (d:=zero9) (fun j _=>by simp [base,zero9])).alloc (by simp) (.cells #[.int .i64 k,.int .i64 0,.int .i64 0,.int .i64 0,.int .i64 0,.int .i64 0,.int .i64 0,.int .i64 0,.int .i64 0] 31)
 have hC0:Has ((w.alloc (.cells #[.int .i64 0,.int .i64 0,.int .i64 0,.int .i64 0,.int .i64 0,.int .i64 0,.int .i64 0,.int .i64 0,.int .i64 0] 31)).alloc (.cells #[.int .i64 k,.int .i64 0,.int .i64 0,.int .i64 0,.int .i64 0,.int .i64 0,.int .i64 0,.int .i64 0,.int .i64 0] 31)) (w.heap.size+1) (base k):=by simpa using Has.newK (w.alloc (.cells #[.int .i64 0,.int .i64 0,.int .i64 0,.int .i64 0,.int .i64 0,.int .i64 0,.int .i64 0,.int .i64 0,.int .i64 0] 31)) 31 k
 have hB0:=((Below.refl w.heap.size w).alloc nlr (.cells #[.int .i64 0,.int .i64 0,.int .i64 0,.int .i64 0,.int .i64 0,.int .i64 0,.int .i64 0,.int .i64 0,.int .i64 0] 31)).alloc (by simp) (.cells #[.int .i64 k,.int .i64 0,.int .i64 0,.int .i64 0,.int .i64 0,.int .i64 0,.int .i64 0,.int .i64 0,.int .i64 0] 31)
 go_enter func88,ntmps88
 go_wp2_with fail
 refine (letters_yes k h1 h2 _).mono ?_
 rintro e w1 ⟨rfl,hb1⟩
 have hZ:=hZ0.below hb1 (by simp;omega)
 have hC:=hC0.below hb1 (by simp)
 have hbel:=hB0.trans (hb1.mono (by simp;omega))
 have hsz:w.heap.size+1<w1.heap.size:=by have:=hb1.size;simp at this;omega
 clear hZ0 hC0 hB0 hb1
 have HT:=hid (show (s.extract 1 s.size).size+1=s.size by simp;omega)
 have HTL:=hid (show (s.extract 1 s.size).data.toList.length=(s.extract 1 s.size).size by simp)
 have HNum:Hid (∀ m,5+4*m<=s.size->natOf (s.extract (1+4*m) (5+4*m)).data.toList=numB (s.extract 1 s.size).data.toList (4*m)):=by
  intro m hm
  have e:5+4*m=(1+4*m)+4:=by omega
  rw [e,ext_num s (1+4*m) (by omega),HL.out,Nat.add_comm 1 (4*m),numB_tail]
 generalize (s.extract 1 s.size).data.toList=tl at *
 generalize (s.extract 1 s.size).size=tn at *
 have hSs:(⟨(ltrs k).toArray⟩:ByteArray).size=(flds k).length:=ltrs_len k
 have hSat:Hid (∀ m (h:m<(⟨(ltrs k).toArray⟩:ByteArray).size) (h':m<(flds k).length),(⟨(ltrs k).toArray⟩:ByteArray)[m].toNat=(ltr (flds k)[m]).toNat):=by
  intro m h h'
  rw [str_at _ m h (by rw [ltrs_len];exact h')]
  simp [ltrs]
 have hSe:(⟨(ltrs k).toArray⟩:ByteArray).toList.isEmpty=false:=by
  simp only [ByteArray.toList_mk];rw [List.isEmpty_eq_false_iff];intro h;have:=ltrs_len k;rw [h] at this;simp at this;omega
 generalize (⟨(ltrs k).toArray⟩:ByteArray)=S at *
 by_cases hd:s.size=1+4*(flds k).length
 ·have HBad:Hid (okTo (flds k) tl (flds k).length=false->(decC s.data.toList=zero9/\decE s.data.toList=1)/\encE (decTo k (flds k) tl (flds k).length)=1):=by
   intro h;rw [HL.out];exact ⟨dec_bad s[0] tl (by rw [hk];exact h),dec_enc_no k tl h⟩
  have HGood:Hid (okTo (flds k) tl (flds k).length=true->(decC s.data.toList=decTo k (flds k) tl (flds k).length/\decE s.data.toList=0)/\encE (decTo k (flds k) tl (flds k).length)=0):=by
   intro h;rw [HL.out]
   have h3:tl.length=4*(flds k).length:=by have:=HT.out;rw [HTL.out];omega
   have g1:=dec_good s[0] tl (by rw [hk];omega) (by rw [hk];omega) (by rw [hk];exact h3) (by rw [hk];exact h)
   have g2:=dec_enc_yes s[0] tl (by rw [hk];omega) (by rw [hk];omega) (by rw [hk];exact h3) (by rw [hk];exact h)
   rw [hk] at g1 g2;exact ⟨g1,g2⟩
  have htest:((s.size:Int) != 1+4*((flds k).length:Int))=false:=by rw [bne_eq_false_iff_eq];omega
  have hd1:1+4*(flds k).length<=s.size:=by omega
  clear hd HT HTL HL
  generalize flds k=fs at *
  go_wp2_with fail
  go_loopg [6] fs.length (fun gk i wr=>∃ m:Nat,m+gk=fs.length/\i=.int .i64 m/\Has wr w.heap.size zero9/\Has wr (w.heap.size+1) (decTo k fs tl m)/\Below w.heap.size w wr/\w.heap.size+1<wr.heap.size)
  case atStart=>exact ⟨0,by omega,rfl,hZ,hC,hbel,hsz⟩
  case round =>
   clear hZ hC hbel hsz
   obtain ⟨m,hm,rfl,hZ,hC,hbel,hsz⟩:=hrel
   have HM:=hid hm
   have hmle:m<=fs.length:=by omega
   clear hm
   by_cases hlt:m<fs.length
   ·have hf9:=HF.out (fs[m]) (List.getElem_mem hlt)
    have hlt':(m:Int)<(S.size:Int):=by omega
    have hSm:=hSat.out m (by omega) hlt
    have HST:Hid (∀ j,upd (decTo k fs tl m) (off fs[m]) (numB tl (4*m):Nat) j=decTo k fs tl (m+1) j):=by
     intro j;rw [<- getD_lt hlt];rfl
    have hnum:=HNum.out m (by omega)
    have hs5:5+4*m<=s.size:=by omega
    have hs5':(5:Int)+4*(m:Int)<=(s.size:Int):=by omega
    have hs6:(0:Int)<=1+4*(m:Int):=by omega
    have hs7:(1:Int)+4*(m:Int)<=5+4*(m:Int):=by omega
    have hs8:(0:Int)<=5+4*(m:Int):=by omega
    have hsl:∀ wx:World,(Instr.slice 9 (.string s) (some (.int .i64 (1+4*(m:Int)))) (some (.int .i64 (5+4*(m:Int)))) none).run prog wx=.ok (.string (s.extract (1+4*m) (5+4*m))) wx:=by
     intro wx
     rw [run_slice_string_if wx 9 s .i64 .i64 _ _ underlying9,if_pos ⟨hs8,hs5'⟩,if_pos ⟨hs6,hs7⟩]
     have e1:(1+4*(m:Int)).toNat=1+4*m:=by omega
     have e2:(5+4*(m:Int)).toNat=5+4*m:=by omega
     rw [e1,e2]
    clear hs6 hs7 hs8
    have hw1:IntKind.i64.wrap (4*(m:Int))=4*(m:Int):=wraps63 _ (by omega) (by omega)
    have hw2:IntKind.i64.wrap (1+4*(m:Int))=1+4*(m:Int):=wraps63 _ (by omega) (by omega)
    have hw3:IntKind.i64.wrap (5+4*(m:Int))=5+4*(m:Int):=wraps63 _ (by omega) (by omega)
    generalize fs[m]=f at *
    have q0:=hC.1 0 (by omega)
    have q1:=hC.1 1 (by omega)
    have q2:=hC.1 2 (by omega)
    have q3:=hC.1 3 (by omega)
    have q4:=hC.1 4 (by omega)
    have q5:=hC.1 5 (by omega)
    have q6:=hC.1 6 (by omega)
    have q7:=hC.1 7 (by omega)
    have q8:=hC.1 8 (by omega)
    go_wp2_with fail
    go_region_with (first | (go_at_call 140;refine (number_any _ _ (by simp;omega)).mono ?_;rintro e w' ⟨rfl,rfl⟩;rw [hnum]) | (go_at_call 56;refine (with_any (decTo k fs tl m) f hf9 _ _).mono ?_;rintro e w5 ⟨rfl,hb5⟩;have hC5:=hC.drew.below hb5 (by show _<wr.heap.size;omega);have r0:=hC5.1 0 (by omega);have r1:=hC5.1 1 (by omega);have r2:=hC5.1 2 (by omega);have r3:=hC5.1 3 (by omega);have r4:=hC5.1 4 (by omega);have r5:=hC5.1 5 (by omega);have r6:=hC5.1 6 (by omega);have r7:=hC5.1 7 (by omega);have r8:=hC5.1 8 (by omega);have rf:=hC5.2))
    all_goals
     go_wp2
     go_roundg (gk - 1)
     case measure=>have:=HM.out;omega
     case rel =>
      have hz5:wr.heap.size<=w5.heap.size:=hb5.size
      have hZ5:=hZ.drew.below hb5 (by show _<wr.heap.size;omega)
      have hB5:Below w.heap.size w w5:=hbel.drew.trans (hb5.mono (by show _<=wr.heap.size;omega))
      have p1:=hZ5.below (B:=w.heap.size+1) (Below.put9 (Below.refl _ _) nlr (upd (decTo k fs tl m) (off f) (numB tl (4*m):Nat))) (by omega)
      have p2:=(hC5.put9 (upd (decTo k fs tl m) (off f) (numB tl (4*m):Nat))).congr (fun j _=>HST.out j)
      have p3:=Below.put9 hB5 (Nat.le_succ _) (upd (decTo k fs tl m) (off f) (numB tl (4*m):Nat))
      have p4:=put9_size w5 (w.heap.size+1) (upd (decTo k fs tl m) (off f) (numB tl (4*m):Nat))
      exact ⟨m+1,by have:=HM.out;omega,by go_num,p1,p2,p3,by show _<(put9 w5 (w.heap.size+1) (upd (decTo k fs tl m) (off f) (numB tl (4*m):Nat))).heap.size;omega⟩
   ·have hme:m=fs.length:=by omega
    rw [hme] at hC
    clear hme
    generalize decTo k fs tl fs.length=d at *
    obtain ⟨c0,c1,c2,c3,c4,c5,c6,c7,c8⟩:=hC.nine
    go_wp2_with fail
    refine (refEncode_any d _).mono ?_
    rintro e w6 ⟨rfl,hb6⟩
    have hZ6:=hZ.below hb6 (by omega)
    have hC6:=hC.below hb6 (by omega)
    have hB6:=hbel.trans (hb6.mono (by omega))
    clear c0 c1 c2 c3 c4 c5 c6 c7 c8 hZ hC hbel hb6
    have z0:=hZ6.1 0 (by omega)
    have z1:=hZ6.1 1 (by omega)
    have z2:=hZ6.1 2 (by omega)
    have z3:=hZ6.1 3 (by omega)
    have z4:=hZ6.1 4 (by omega)
    have z5:=hZ6.1 5 (by omega)
    have z6:=hZ6.1 6 (by omega)
    have z7:=hZ6.1 7 (by omega)
    have z8:=hZ6.1 8 (by omega)
    obtain ⟨c0,c1,c2,c3,c4,c5,c6,c7,c8⟩:=hC6.nine
    have zf:=hZ6.2
    simp only [zero9] at z0 z1 z2 z3 z4 z5 z6 z7 z8
    cases hok:okTo fs tl fs.length with
    | false =>
     have hE:=hid (HBad.out hok).1
     rw [(HBad.out hok).2]
     go_wp2
     have hZ':=hZ6.put9 zero9
     have hB':=Below.put9 hB6 nlr zero9
     change bodyPost _ _ _ _ _ (put9 w6 w.heap.size zero9)
     generalize put9 w6 w.heap.size zero9=w9 at hZ' hB' ⊢
     have y0:=hZ'.1 0 (by omega)
     have y1:=hZ'.1 1 (by omega)
     have y2:=hZ'.1 2 (by omega)
     have y3:=hZ'.1 3 (by omega)
     have y4:=hZ'.1 4 (by omega)
     have y5:=hZ'.1 5 (by omega)
     have y6:=hZ'.1 6 (by omega)
     have y7:=hZ'.1 7 (by omega)
     have y8:=hZ'.1 8 (by omega)
     exact bodyPost_ret (v:=.tuple #[.agg #[.int .i64 (zero9 0),.int .i64 (zero9 1),.int .i64 (zero9 2),.int .i64 (zero9 3),.int .i64 (zero9 4),.int .i64 (zero9 5),.int .i64 (zero9 6),.int .i64 (zero9 7),.int .i64 (zero9 8)],.int .i64 1]) (by simp [results,results88,go_sem,y0,y1,y2,y3,y4,y5,y6,y7,y8]) rfl ⟨ret_dec hE.out,hB'⟩
    | true =>
     have hE:=hid (HGood.out hok).1
     rw [(HGood.out hok).2]
     go_wp2
     have hZ':=hZ6.put9 d
     have hB':=Below.put9 hB6 nlr d
     change bodyPost _ _ _ _ _ (put9 w6 w.heap.size d)
     generalize put9 w6 w.heap.size d=w9 at hZ' hB' ⊢
     have y0:=hZ'.1 0 (by omega)
     have y1:=hZ'.1 1 (by omega)
     have y2:=hZ'.1 2 (by omega)
     have y3:=hZ'.1 3 (by omega)
     have y4:=hZ'.1 4 (by omega)
     have y5:=hZ'.1 5 (by omega)
     have y6:=hZ'.1 6 (by omega)
     have y7:=hZ'.1 7 (by omega)
     have y8:=hZ'.1 8 (by omega)
     exact bodyPost_ret (v:=.tuple #[.agg #[.int .i64 (d 0),.int .i64 (d 1),.int .i64 (d 2),.int .i64 (d 3),.int .i64 (d 4),.int .i64 (d 5),.int .i64 (d 6),.int .i64 (d 7),.int .i64 (d 8)],.int .i64 0]) (by simp [results,results88,go_sem,y0,y1,y2,y3,y4,y5,y6,y7,y8]) rfl ⟨ret_dec hE.out,hB'⟩
 ·have hE:Hid (decC s.data.toList=zero9/\decE s.data.toList=1):=by
   rw [HL.out];exact dec_len s[0] tl (by rw [HTL.out,hk];have:=HT.out;omega)
  have htest:((s.size:Int) != 1+4*((flds k).length:Int))=true:=by rw [bne_iff_ne];omega
  clear hd
  have z0:=hZ.1 0 (by omega)
  have z1:=hZ.1 1 (by omega)
  have z2:=hZ.1 2 (by omega)
  have z3:=hZ.1 3 (by omega)
  have z4:=hZ.1 4 (by omega)
  have z5:=hZ.1 5 (by omega)
  have z6:=hZ.1 6 (by omega)
  have z7:=hZ.1 7 (by omega)
  have z8:=hZ.1 8 (by omega)
  have zf:=hZ.2
  simp only [zero9] at z0 z1 z2 z3 z4 z5 z6 z7 z8
  go_wp2
  have hZ':=hZ.put9 zero9
  have hB':=Below.put9 hbel nlr zero9
  change bodyPost _ _ _ _ _ (put9 w1 w.heap.size zero9)
  generalize put9 w1 w.heap.size zero9=w9 at hZ' hB' ⊢
  have y0:=hZ'.1 0 (by omega)
  have y1:=hZ'.1 1 (by omega)
  have y2:=hZ'.1 2 (by omega)
  have y3:=hZ'.1 3 (by omega)
  have y4:=hZ'.1 4 (by omega)
  have y5:=hZ'.1 5 (by omega)
  have y6:=hZ'.1 6 (by omega)
  have y7:=hZ'.1 7 (by omega)
  have y8:=hZ'.1 8 (by omega)
  exact bodyPost_ret (v:=.tuple #[.agg #[.int .i64 (zero9 0),.int .i64 (zero9 1),.int .i64 (zero9 2),.int .i64 (zero9 3),.int .i64 (zero9 4),.int .i64 (zero9 5),.int .i64 (zero9 6),.int .i64 (zero9 7),.int .i64 (zero9 8)],.int .i64 1]) (by simp [results,results88,go_sem,y0,y1,y2,y3,y4,y5,y6,y7,y8]) rfl ⟨ret_dec hE.out,hB'⟩
theorem refDecode_any (s:ByteArray) (w:World) (hs:s.size<=maxLen) :
  Calls prog 88 #[.string s] w fun e w'=>e=.returned (.tuple #[.agg #[.int .i64 (decC s.data.toList 0),.int .i64 (decC s.data.toList 1),.int .i64 (decC s.data.toList 2),.int .i64 (decC s.data.toList 3),.int .i64 (decC s.data.toList 4),.int .i64 (decC s.data.toList 5),.int .i64 (decC s.data.toList 6),.int .i64 (decC s.data.toList 7),.int .i64 (decC s.data.toList 8)],.int .i64 (decE s.data.toList)])/\Below w.heap.size w w':=by
 by_cases h0:0<s.size
 ·by_cases h:1<=(s[0].toNat:Int)/\(s[0].toNat:Int)<=16
  ·exact refDecode_yes s w hs h0 _ rfl h.1 h.2
  ·exact refDecode_no s w h0 _ rfl (by omega)
 ·have e:s=ByteArray.empty:=by
   apply ByteArray.ext
   apply Array.eq_empty_of_size_eq_zero
   show s.size=0
   omega
  subst e
  exact refDecode_nil w
end
end Go.Proofs.YtalncjhldkcmaaaGreat
