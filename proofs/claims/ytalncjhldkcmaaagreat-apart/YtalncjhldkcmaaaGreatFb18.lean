import Derived.Test.YtalncjhldkcmaaaGreatFb07
import Derived.Test.YtalncjhldkcmaaaGreatFb06
import Derived.Test.YtalncjhldkcmaaaGreatFb16
namespace Go.Proofs.YtalncjhldkcmaaaGreat
open _root_.Go.Proofs.Tryz
set_option maxHeartbeats 16000000
set_option maxRecDepth 8000
section
open Go.RowKit Go.Shelf
open Go.Sort (grow)
def FindEnds (s:ByteArray) (w:World) (e:Ending) (w':World):Prop :=
 Below w.heap.size w w'/\((∃ t x,findD s.data.toList=some (t,x)/\t<18446744073709551616/\x.length<=s.size/\e=.returned (.tuple #[.agg #[.int .i64 (s.size / 128:Nat),.int .u64 t],.string ⟨x.toArray⟩,.bool true])) \/
  (findD s.data.toList=none/\e=.returned (.tuple #[.agg #[.int .i64 0,.int .u64 0],.string ⟨#[]⟩,.bool false])))
theorem newH_lt (l:List UInt8) (n:Nat):newH l n<2:=by unfold newH;split <;> omega
theorem cut_ext (s:ByteArray) (o k:Nat) (_h:o+k<=s.size):((s.extract o s.size).extract 0 k).data.toList=cutB s.data.toList o k:=by
 rw [<- ext_take,ext_drop];rfl
theorem slice_hiU (s:ByteArray) (z:Nat) (hz:z<=s.size) (u:World):(Instr.slice 9 (.string s) none (some (.int .u64 z)) none).run prog u=.ok (.string (s.extract 0 z)) u:=by
 have h:(z:Int)<=(s.size:Int):=by omega
 simp [go_sem,h]
theorem dsk_set {W:World} {b:Nat} {t:TypeId} {r0 m0 r m:Value} (h:RecAt W b #[r0,m0] t) :
  RecAt ((W.setCell ⟨b,0,none⟩ r).setCell ⟨b,1,none⟩ m) b #[r,m] t:=(h.set 0 r).set 1 m
theorem find_bad (s:ByteArray) (hs:s.size<=maxLen) (hbad:s.size % 128≠0\/s.size / 128<16\/256<s.size / 128) (w:World):Calls prog 47 #[.string s] w (FindEnds s w):=by
 unfold maxLen at hs
 have hF:findD s.data.toList=none:=by
  unfold findD;simp only [Array.length_toList];exact if_pos hbad
 have HF:=hid hF
 clear hF
 have hb2:Below w.heap.size w ((w.alloc (.cells #[.int .i64 0,.int .u64 0] 106)).alloc (.cells #[.int .i64 ((s.size:Int) / 128),.int .u64 0] 106)):=((Below.refl _ w).alloc nlr _).alloc (by simp) _
 have HB2:=hid hb2
 clear hb2
 have h3:(s.size:Int) % 128≠0\/(s.size:Int) / 128<16\/256<(s.size:Int) / 128:=by omega
 clear hbad
 go_enter func47,ntmps47
 by_cases ha:(s.size:Int) % 128=0
 ·by_cases hb:(s.size:Int) / 128<16
  ·go_wp2
   exact bodyPost_ret (v:=.tuple #[.agg #[.int .i64 0,.int .u64 0],.string ⟨#[]⟩,.bool false]) (by simp [results,results47,go_sem]) rfl ⟨HB2.out,.inr ⟨HF.out,rfl⟩⟩
  ·have hc:256<(s.size:Int) / 128:=by omega
   go_wp2
   exact bodyPost_ret (v:=.tuple #[.agg #[.int .i64 0,.int .u64 0],.string ⟨#[]⟩,.bool false]) (by simp [results,results47,go_sem]) rfl ⟨HB2.out,.inr ⟨HF.out,rfl⟩⟩
 ·go_wp2
  exact bodyPost_ret (v:=.tuple #[.agg #[.int .i64 0,.int .u64 0],.string ⟨#[]⟩,.bool false]) (by simp [results,results47,go_sem]) rfl ⟨HB2.out,.inr ⟨HF.out,rfl⟩⟩
theorem find_good (s:ByteArray) (n:Nat) (hn:s.size=n*128) (h16:16<=n) (h256:n<=256) (w:World):Calls prog 47 #[.string s] w (FindEnds s w):=by
 have e1:(s.size:Int) / 128=(n:Int):=by omega
 have e2:(s.size:Int) % 128=0:=by omega
 have hnI:(16:Int)<=(n:Int):=by omega
 have hnI2:(n:Int)<=256:=by omega
 have hss:(s.size:Int)<=32768:=by omega
 -- the half
 have hh:=newH_lt s.data.toList n
 have HNw:=hid (newest_any n 0 h16 h256 s hn)
 have HF1:Hid (findD s.data.toList=if headB (rd8 (cutB s.data.toList (newH s.data.toList n*(n / 2)*128) 128)) (rd8 ((cutB s.data.toList (newH s.data.toList n*(n / 2)*128) 128).drop 8)) (rd8 ((cutB s.data.toList (newH s.data.toList n*(n / 2)*128) 128).drop 16))≠cutB s.data.toList (newH s.data.toList n*(n / 2)*128) 128\/rd8 (cutB s.data.toList (newH s.data.toList n*(n / 2)*128) 128) % 2≠newH s.data.toList n\/(n / 2 - 1)*128<rd8 ((cutB s.data.toList (newH s.data.toList n*(n / 2)*128) 128).drop 8) then none else
   if sumN (cutB s.data.toList ((newH s.data.toList n*(n / 2)+1)*128) (rd8 ((cutB s.data.toList (newH s.data.toList n*(n / 2)*128) 128).drop 8)))≠rd8 ((cutB s.data.toList (newH s.data.toList n*(n / 2)*128) 128).drop 16) then none else some (rd8 (cutB s.data.toList (newH s.data.toList n*(n / 2)*128) 128),cutB s.data.toList ((newH s.data.toList n*(n / 2)+1)*128) (rd8 ((cutB s.data.toList (newH s.data.toList n*(n / 2)*128) 128).drop 8)))):=by
  have en:s.data.toList.length / 128=n:=by simp only [Array.length_toList];show s.size / 128=n;omega
  have em:s.data.toList.length % 128=0:=by simp only [Array.length_toList];show s.size % 128=0;omega
  refine hid ?_
  unfold findD
  simp only [en,em]
  rw [if_neg (by omega)]
 generalize newH s.data.toList n=h at *
 have hq:h*(n / 2)+n / 2<=n:=by
  have:h=0\/h=1:=by omega
  rcases this with rfl | rfl <;> omega
 have hF0:=fun (t:Nat) (u:World)=>first_any n t h (by omega) (by omega) u
 rw [show h % 2=h by omega] at hF0
 have HF0:=hid hF0
 have HS:=hid (cut_ext s (h*(n / 2)*128) 128 (by omega))
 have HSx:=hid (fun k (hk:k<=(n / 2 - 1)*128)=>cut_ext s ((h*(n / 2)+1)*128) k (by omega))
 have hsl:=fun u=>slice_lo s (h*(n / 2)*128) (by omega) u
 have hsl2:=fun u=>slice_lo s ((h*(n / 2)+1)*128) (by omega) u
 have hz1:(s.extract (h*(n / 2)*128) s.size).size=s.size - h*(n / 2)*128:=by simp
 have hz1':(128:Int)<=((s.extract (h*(n / 2)*128) s.size).size:Int):=by rw [hz1];omega
 have hz2:(s.extract ((h*(n / 2)+1)*128) s.size).size=s.size - (h*(n / 2)+1)*128:=by simp
 have hz2':(n / 2 - 1)*128<=(s.extract ((h*(n / 2)+1)*128) s.size).size:=by rw [hz2];omega
 have hmul:((h*(n / 2):Nat):Int)*128=((h*(n / 2)*128:Nat):Int):=by omega
 have hmul2:(((h*(n / 2):Nat):Int)+1)*128=(((h*(n / 2)+1)*128:Nat):Int):=by omega
 have hqI:((h*(n / 2):Nat):Int)<=256:=by omega
 generalize s.extract (h*(n / 2)*128) s.size=A1 at *
 generalize s.extract ((h*(n / 2)+1)*128) s.size=A2 at *
 have hsec:(A1.extract 0 128).size=128:=by simp;omega
 have HRH:=hid (readHead_any (A1.extract 0 128) hsec)
 rw [HS.out] at HRH
 generalize cutB s.data.toList (h*(n / 2)*128) 128=sec at *
 generalize (h*(n / 2)+1)*128=o2 at *
 generalize h*(n / 2)*128=o1 at *
 generalize h*(n / 2)=q at *
 have HT:=hid (rd8_lt sec)
 have HN:=hid (rd8_lt (sec.drop 8))
 have HSu:=hid (rd8_lt (sec.drop 16))
 generalize rd8 sec=T at *
 generalize rd8 (sec.drop 8)=N at *
 generalize rd8 (sec.drop 16)=S at *
 clear hz1 hz2 HS
 go_enter func47,ntmps47
 go_wp2_with fail
 refine (HNw.out _).mono ?_
 clear HNw
 rintro e w2 ⟨rfl,hb2⟩
 have HFz:Hid (∀ u,Calls prog 73 #[.agg #[.int .i64 n,.int .u64 0],.int .u64 h] u fun e w'=>e=.returned (.int .i64 q)/\Below u.heap.size u w'):=hid (fun u=>HF0.out 0 u)
 have hRr:RecAt w2 w.heap.size #[.int .i64 0,.int .u64 0] 106:=((RecAt.new w _ _).on (bal)).on hb2
 have hs1:(w.alloc (.cells #[.int .i64 0,.int .u64 0] 106)).heap.size=w.heap.size+1:=by simp
 have hRd:RecAt w2 (w.heap.size+1) #[.int .i64 n,.int .u64 0] 106:=by
  have:=RecAt.new (w.alloc (.cells #[.int .i64 0,.int .u64 0] 106)) #[.int .i64 n,.int .u64 0] 106
  rw [hs1] at this;exact this.on hb2
 have hB2:Below w.heap.size w w2:=(((Below.refl _ w).alloc nlr (.cells #[.int .i64 0,.int .u64 0] 106)).alloc (by simp) (.cells #[.int .i64 n,.int .u64 0] 106)).trans (hb2.mono (by simp;omega))
 have HRr:=hid hRr
 have HRd:=hid hRd
 have HB2:=hid hB2
 have c0:w2.cell? ⟨w.heap.size+1,0,none⟩=some (.int .i64 n):=hRd.cell 0
 have c1:w2.cell? ⟨w.heap.size+1,1,none⟩=some (.int .u64 0):=hRd.cell 1
 clear hb2 hRr hRd hB2 hs1 hF0 HF0
 go_wp2_with fail
 refine (HFz.out _).mono ?_
 rintro e w3 ⟨rfl,hb3⟩
 have HRr3:=hid (HRr.out.on hb3)
 have HRd3:=hid (HRd.out.on hb3)
 have HB3:=hid (HB2.out.trans (hb3.mono HB2.out.size))
 clear hb3 HRr HRd HB2 c0 c1
 have hz128:(128:Int)<=(A1.size:Int):=hz1'
 go_wp2_with fail
 refine (HRH.out _).mono ?_
 clear HRH
 rintro e w4 ⟨hcase,hb4⟩
 have HRr4:=hid (HRr3.out.on hb4)
 have HRd4:=hid (HRd3.out.on hb4)
 have HB4:=hid (HB3.out.trans (hb4.mono HB3.out.size))
 clear hb4 HRr3 HRd3 HB3
 -- the head's box
 have hRr5:∀ o,RecAt (w4.alloc o) w.heap.size #[.int .i64 0,.int .u64 0] 106:=fun o=>HRr4.out.on ((Below.refl _ _).alloc nlr o)
 have hRd5:∀ o,RecAt (w4.alloc o) (w.heap.size+1) #[.int .i64 n,.int .u64 0] 106:=fun o=>HRd4.out.on ((Below.refl _ _).alloc nlr o)
 have hB5:∀ o,Below w.heap.size w (w4.alloc o):=fun o=>HB4.out.trans (((Below.refl _ _).alloc nlr o).mono HB4.out.size)
 have HR5:=hid (And.intro hRr5 (And.intro hRd5 hB5))
 clear hRr5 hRd5 hB5 HRr4 HRd4
 have hmx:prog.follows .mixedOrders=true:=by kernel_rfl
 have HRm:Hid (∀ u,Calls prog 84 #[.agg #[.int .i64 n,.int .u64 0]] u fun e w'=>e=.returned (.int .u64 ((n / 2 - 1)*128:Nat))/\Below u.heap.size u w'):=hid (fun u=>room_any n 0 (by omega) (by omega) u)
 rcases hcase with ⟨hhd,rfl⟩ | ⟨hhd,rfl⟩
 rotate_left
 ·-- no head
  have HNo:=hid (show findD s.data.toList=none by rw [HF1.out,if_pos (.inl hhd)])
  clear HF1 hhd
  go_wp2_with fail
  have hRr:=HR5.out.1 (.cells #[.int .u64 0,.int .u64 0,.int .u64 0] 157)
  have hRd:=HR5.out.2.1 (.cells #[.int .u64 0,.int .u64 0,.int .u64 0] 157)
  have hB5:=HR5.out.2.2 (.cells #[.int .u64 0,.int .u64 0,.int .u64 0] 157)
  have hRh:=RecAt.new w4 #[.int .u64 0,.int .u64 0,.int .u64 0] 157
  generalize w4.alloc (.cells #[.int .u64 0,.int .u64 0,.int .u64 0] 157)=W at *
  have c0:W.cell? ⟨w.heap.size+1,0,none⟩=some (.int .i64 n):=hRd.cell 0
  have c1:W.cell? ⟨w.heap.size+1,1,none⟩=some (.int .u64 0):=hRd.cell 1
  have g0:W.cell? ⟨w4.heap.size,0,none⟩=some (.int .u64 0):=hRh.cell 0
  have g1:W.cell? ⟨w4.heap.size,1,none⟩=some (.int .u64 0):=hRh.cell 1
  have g2:W.cell? ⟨w4.heap.size,2,none⟩=some (.int .u64 0):=hRh.cell 2
  have q0:=cell_regrown c0
  have q1:=cell_regrown c1
  have r0:=cell_regrown g0
  have r1:=cell_regrown g1
  have r2:=cell_regrown g2
  have kR:=fun d os=>Calls.regrown_of (HRm.out (grow (redrawn W d) os))
  refine wp_region_quiet_below hmx (by kernel_rfl) ?_
  repeat (quiet_step (with_reducible exact kR _ _))
  refine wpQuiet_nil ?_
  intro _ hw'
  obtain ⟨⟨dq,osq⟩,hw''⟩:=hw'
  subst hw''
  have hbq:=below_regrown W dq osq
  clear q0 q1 r0 r1 r2 kR c0 c1 g0 g1 g2
  simp only
  generalize grow (redrawn W dq) osq=W2 at *
  have HRr:=hid (hRr.on hbq)
  have HRd:=hid (hRd.on hbq)
  have HRh:=hid (hRh.on hbq)
  have HB:=hid (hB5.trans (hbq.mono hB5.size))
  clear hRr hRd hB5 hRh hbq
  have d0:W2.cell? ⟨w.heap.size,0,none⟩=some (.int .i64 0):=HRr.out.cell 0
  have d1:W2.cell? ⟨w.heap.size,1,none⟩=some (.int .u64 0):=HRr.out.cell 1
  have f0:=HRr.out.fz 0
  have f1:=HRr.out.fz 1
  have E0:=hid ((dsk_set (r:=.int .i64 0) (m:=.int .u64 0) HRr.out).cell 0)
  have E1:=hid ((dsk_set (r:=.int .i64 0) (m:=.int .u64 0) HRr.out).cell 1)
  have HBF:=hid ((HB.out.setCell (p:=⟨w.heap.size,0,none⟩) nlr (.int .i64 0)).setCell (p:=⟨w.heap.size,1,none⟩) nlr (.int .u64 0))
  go_wp2
  exact bodyPost_ret (v:=.tuple #[.agg #[.int .i64 0,.int .u64 0],.string ⟨#[]⟩,.bool false]) (by have a0:=E0.out;have a1:=E1.out;simp [results,results47,go_sem,a0,a1]) rfl ⟨HBF.out,.inr ⟨HNo.out,rfl⟩⟩
 ·by_cases hpar:T % 2=h
  rotate_left
  ·-- a head of the other half
   have HNo:=hid (show findD s.data.toList=none by rw [HF1.out,if_pos (.inr (.inl hpar))])
   have hp1:((T:Int).tmod 2 != (h:Int))=true:=by rw [Int.tmod_eq_emod_of_nonneg (by omega),bne_iff_ne];omega
   clear HF1 hhd hpar
   go_wp2_with fail
   have hRr:=HR5.out.1 (.cells #[.int .u64 T,.int .u64 N,.int .u64 S] 157)
   have hRd:=HR5.out.2.1 (.cells #[.int .u64 T,.int .u64 N,.int .u64 S] 157)
   have hB5:=HR5.out.2.2 (.cells #[.int .u64 T,.int .u64 N,.int .u64 S] 157)
   have hRh:=RecAt.new w4 #[.int .u64 T,.int .u64 N,.int .u64 S] 157
   generalize w4.alloc (.cells #[.int .u64 T,.int .u64 N,.int .u64 S] 157)=W at *
   have c0:W.cell? ⟨w.heap.size+1,0,none⟩=some (.int .i64 n):=hRd.cell 0
   have c1:W.cell? ⟨w.heap.size+1,1,none⟩=some (.int .u64 0):=hRd.cell 1
   have g0:W.cell? ⟨w4.heap.size,0,none⟩=some (.int .u64 T):=hRh.cell 0
   have g1:W.cell? ⟨w4.heap.size,1,none⟩=some (.int .u64 N):=hRh.cell 1
   have g2:W.cell? ⟨w4.heap.size,2,none⟩=some (.int .u64 S):=hRh.cell 2
   have q0:=cell_regrown c0
   have q1:=cell_regrown c1
   have r0:=cell_regrown g0
   have r1:=cell_regrown g1
   have r2:=cell_regrown g2
   have kR:=fun d os=>Calls.regrown_of (HRm.out (grow (redrawn W d) os))
   refine wp_region_quiet_below hmx (by kernel_rfl) ?_
   repeat (quiet_step (with_reducible exact kR _ _))
   refine wpQuiet_nil ?_
   intro _ hw'
   obtain ⟨⟨dq,osq⟩,hw''⟩:=hw'
   subst hw''
   have hbq:=below_regrown W dq osq
   clear q0 q1 r0 r1 r2 kR c0 c1 g0 g1 g2
   simp only
   generalize grow (redrawn W dq) osq=W2 at *
   have HRr:=hid (hRr.on hbq)
   have HRd:=hid (hRd.on hbq)
   have HRh:=hid (hRh.on hbq)
   have HB:=hid (hB5.trans (hbq.mono hB5.size))
   clear hRr hRd hB5 hRh hbq
   have d0:W2.cell? ⟨w.heap.size,0,none⟩=some (.int .i64 0):=HRr.out.cell 0
   have d1:W2.cell? ⟨w.heap.size,1,none⟩=some (.int .u64 0):=HRr.out.cell 1
   have f0:=HRr.out.fz 0
   have f1:=HRr.out.fz 1
   have E0:=hid ((dsk_set (r:=.int .i64 0) (m:=.int .u64 0) HRr.out).cell 0)
   have E1:=hid ((dsk_set (r:=.int .i64 0) (m:=.int .u64 0) HRr.out).cell 1)
   have HBF:=hid ((HB.out.setCell (p:=⟨w.heap.size,0,none⟩) nlr (.int .i64 0)).setCell (p:=⟨w.heap.size,1,none⟩) nlr (.int .u64 0))
   go_wp2
   exact bodyPost_ret (v:=.tuple #[.agg #[.int .i64 0,.int .u64 0],.string ⟨#[]⟩,.bool false]) (by have a0:=E0.out;have a1:=E1.out;simp [results,results47,go_sem,a0,a1]) rfl ⟨HBF.out,.inr ⟨HNo.out,rfl⟩⟩
  ·have hp1:((T:Int).tmod 2 != (h:Int))=false:=by rw [Int.tmod_eq_emod_of_nonneg (by omega),bne_eq_false_iff_eq];omega
   by_cases hroom:(n / 2 - 1)*128<N
   ·-- a text that is too long
    have HNo:=hid (show findD s.data.toList=none by rw [HF1.out,if_pos (.inr (.inr hroom))])
    have hr1:(((n / 2 - 1)*128:Nat):Int)<(N:Int):=by omega
    generalize (n / 2 - 1)*128=R at *
    clear HF1 hhd hpar
    go_wp2_with fail
    have hRr:=HR5.out.1 (.cells #[.int .u64 T,.int .u64 N,.int .u64 S] 157)
    have hRd:=HR5.out.2.1 (.cells #[.int .u64 T,.int .u64 N,.int .u64 S] 157)
    have hB5:=HR5.out.2.2 (.cells #[.int .u64 T,.int .u64 N,.int .u64 S] 157)
    have hRh:=RecAt.new w4 #[.int .u64 T,.int .u64 N,.int .u64 S] 157
    generalize w4.alloc (.cells #[.int .u64 T,.int .u64 N,.int .u64 S] 157)=W at *
    have c0:W.cell? ⟨w.heap.size+1,0,none⟩=some (.int .i64 n):=hRd.cell 0
    have c1:W.cell? ⟨w.heap.size+1,1,none⟩=some (.int .u64 0):=hRd.cell 1
    have g0:W.cell? ⟨w4.heap.size,0,none⟩=some (.int .u64 T):=hRh.cell 0
    have g1:W.cell? ⟨w4.heap.size,1,none⟩=some (.int .u64 N):=hRh.cell 1
    have g2:W.cell? ⟨w4.heap.size,2,none⟩=some (.int .u64 S):=hRh.cell 2
    have q0:=cell_regrown c0
    have q1:=cell_regrown c1
    have r0:=cell_regrown g0
    have r1:=cell_regrown g1
    have r2:=cell_regrown g2
    have kR:=fun d os=>Calls.regrown_of (HRm.out (grow (redrawn W d) os))
    refine wp_region_quiet_below hmx (by kernel_rfl) ?_
    repeat (quiet_step (with_reducible exact kR _ _))
    refine wpQuiet_nil ?_
    intro _ hw'
    obtain ⟨⟨dq,osq⟩,hw''⟩:=hw'
    subst hw''
    have hbq:=below_regrown W dq osq
    clear q0 q1 r0 r1 r2 kR c0 c1 g0 g1 g2
    simp only
    generalize grow (redrawn W dq) osq=W2 at *
    have HRr:=hid (hRr.on hbq)
    have HRd:=hid (hRd.on hbq)
    have HRh:=hid (hRh.on hbq)
    have HB:=hid (hB5.trans (hbq.mono hB5.size))
    clear hRr hRd hB5 hRh hbq
    have d0:W2.cell? ⟨w.heap.size,0,none⟩=some (.int .i64 0):=HRr.out.cell 0
    have d1:W2.cell? ⟨w.heap.size,1,none⟩=some (.int .u64 0):=HRr.out.cell 1
    have f0:=HRr.out.fz 0
    have f1:=HRr.out.fz 1
    have E0:=hid ((dsk_set (r:=.int .i64 0) (m:=.int .u64 0) HRr.out).cell 0)
    have E1:=hid ((dsk_set (r:=.int .i64 0) (m:=.int .u64 0) HRr.out).cell 1)
    have HBF:=hid ((HB.out.setCell (p:=⟨w.heap.size,0,none⟩) nlr (.int .i64 0)).setCell (p:=⟨w.heap.size,1,none⟩) nlr (.int .u64 0))
    go_wp2
    exact bodyPost_ret (v:=.tuple #[.agg #[.int .i64 0,.int .u64 0],.string ⟨#[]⟩,.bool false]) (by have a0:=E0.out;have a1:=E1.out;simp [results,results47,go_sem,a0,a1]) rfl ⟨HBF.out,.inr ⟨HNo.out,rfl⟩⟩
   ·have hr1:¬ ((((n / 2 - 1)*128:Nat):Int)<(N:Int)):=by omega
    have HF2:=hid (show findD s.data.toList=if sumN (cutB s.data.toList o2 N)≠S then none else some (T,cutB s.data.toList o2 N) by rw [HF1.out,if_neg (by intro h;rcases h with h | h | h;exact h hhd;exact h hpar;exact hroom h)])
    have HSx2:=hid (HSx.out N (by omega))
    have hNs:N<=A2.size:=by omega
    have hNb:N<=20000:=by omega
    generalize (n / 2 - 1)*128=R at *
    clear HF1 hhd hpar HSx
    go_wp2_with fail
    have hRr:=HR5.out.1 (.cells #[.int .u64 T,.int .u64 N,.int .u64 S] 157)
    have hRd:=HR5.out.2.1 (.cells #[.int .u64 T,.int .u64 N,.int .u64 S] 157)
    have hB5:=HR5.out.2.2 (.cells #[.int .u64 T,.int .u64 N,.int .u64 S] 157)
    have hRh:=RecAt.new w4 #[.int .u64 T,.int .u64 N,.int .u64 S] 157
    generalize w4.alloc (.cells #[.int .u64 T,.int .u64 N,.int .u64 S] 157)=W at *
    have c0:W.cell? ⟨w.heap.size+1,0,none⟩=some (.int .i64 n):=hRd.cell 0
    have c1:W.cell? ⟨w.heap.size+1,1,none⟩=some (.int .u64 0):=hRd.cell 1
    have g0:W.cell? ⟨w4.heap.size,0,none⟩=some (.int .u64 T):=hRh.cell 0
    have g1:W.cell? ⟨w4.heap.size,1,none⟩=some (.int .u64 N):=hRh.cell 1
    have g2:W.cell? ⟨w4.heap.size,2,none⟩=some (.int .u64 S):=hRh.cell 2
    have q0:=cell_regrown c0
    have q1:=cell_regrown c1
    have r0:=cell_regrown g0
    have r1:=cell_regrown g1
    have r2:=cell_regrown g2
    have kR:=fun d os=>Calls.regrown_of (HRm.out (grow (redrawn W d) os))
    refine wp_region_quiet_below hmx (by kernel_rfl) ?_
    repeat (quiet_step (with_reducible exact kR _ _))
    refine wpQuiet_nil ?_
    intro _ hw'
    obtain ⟨⟨dq,osq⟩,hw''⟩:=hw'
    subst hw''
    have hbq:=below_regrown W dq osq
    clear q0 q1 r0 r1 r2 kR c0 c1 g0 g1 g2
    simp only
    generalize grow (redrawn W dq) osq=W2 at *
    have HRr:=hid (hRr.on hbq)
    have HRd:=hid (hRd.on hbq)
    have HRh:=hid (hRh.on hbq)
    have HB:=hid (hB5.trans (hbq.mono hB5.size))
    clear hRr hRd hB5 hRh hbq
    have hsl3:=fun u=>slice_hiU A2 N hNs u
    have hXs:(A2.extract 0 N).size<=100000:=by simp;omega
    have HSm:=hid (fun u=>sumOf_any (A2.extract 0 N) hXs u)
    rw [HSx2.out] at HSm
    have HXe:=hid (show A2.extract 0 N=⟨(cutB s.data.toList o2 N).toArray⟩ by rw [<- HSx2.out])
    have HXl:=hid (show (cutB s.data.toList o2 N).length<=s.size by unfold cutB;rw [List.length_take,List.length_drop,Array.length_toList];show min N (s.size - o2)<=s.size;omega)
    clear hXs HSx2
    have hw1:IntKind.i64.wrap ((q:Int)+1)=(q:Int)+1:=wraps63 _ (by omega) (by omega)
    have hw2:IntKind.i64.wrap (o2:Int)=(o2:Int):=wraps63 _ (by omega) (by omega)
    go_wp2_with fail
    have c0:W2.cell? ⟨w.heap.size+1,0,none⟩=some (.int .i64 n):=HRd.out.cell 0
    have c1:W2.cell? ⟨w.heap.size+1,1,none⟩=some (.int .u64 0):=HRd.out.cell 1
    have g0:W2.cell? ⟨w4.heap.size,0,none⟩=some (.int .u64 T):=HRh.out.cell 0
    have g1:W2.cell? ⟨w4.heap.size,1,none⟩=some (.int .u64 N):=HRh.out.cell 1
    have g2:W2.cell? ⟨w4.heap.size,2,none⟩=some (.int .u64 S):=HRh.out.cell 2
    have q0:=cell_regrown c0
    have q1:=cell_regrown c1
    have r0:=cell_regrown g0
    have r1:=cell_regrown g1
    have r2:=cell_regrown g2
    have kF:=fun d os=>Calls.regrown_of (HFz.out (grow (redrawn W2 d) os))
    refine wp_region_quiet_below hmx (by kernel_rfl) ?_
    repeat (quiet_step (with_reducible exact kF _ _))
    refine wpQuiet_nil ?_
    intro _ hw'
    obtain ⟨⟨dq3,osq3⟩,hw''⟩:=hw'
    subst hw''
    have hbq:=below_regrown W2 dq3 osq3
    clear q0 q1 r0 r1 r2 kF c0 c1 g0 g1 g2
    simp only
    generalize grow (redrawn W2 dq3) osq3=W3 at *
    have HRr:=hid (HRr.out.on hbq)
    have HRd:=hid (HRd.out.on hbq)
    have HRh:=hid (HRh.out.on hbq)
    have HB:=hid (HB.out.trans (hbq.mono HB.out.size))
    clear hbq
    generalize A2.extract 0 N=X at *
    generalize cutB s.data.toList o2 N=x at *
    go_wp2_with fail
    have c0:W3.cell? ⟨w.heap.size+1,0,none⟩=some (.int .i64 n):=HRd.out.cell 0
    have c1:W3.cell? ⟨w.heap.size+1,1,none⟩=some (.int .u64 0):=HRd.out.cell 1
    have g0:W3.cell? ⟨w4.heap.size,0,none⟩=some (.int .u64 T):=HRh.out.cell 0
    have g1:W3.cell? ⟨w4.heap.size,1,none⟩=some (.int .u64 N):=HRh.out.cell 1
    have g2:W3.cell? ⟨w4.heap.size,2,none⟩=some (.int .u64 S):=HRh.out.cell 2
    have q0:=cell_regrown c0
    have q1:=cell_regrown c1
    have r0:=cell_regrown g0
    have r1:=cell_regrown g1
    have r2:=cell_regrown g2
    have kF:=fun d os=>Calls.regrown_of (HSm.out (grow (redrawn W3 d) os))
    refine wp_region_quiet_below hmx (by kernel_rfl) ?_
    repeat (quiet_step (with_reducible exact kF _ _))
    refine wpQuiet_nil ?_
    intro _ hw'
    obtain ⟨⟨dq4,osq4⟩,hw''⟩:=hw'
    subst hw''
    have hbq:=below_regrown W3 dq4 osq4
    clear q0 q1 r0 r1 r2 kF c0 c1 g0 g1 g2
    simp only
    generalize grow (redrawn W3 dq4) osq4=W4 at *
    have HRr:=hid (HRr.out.on hbq)
    have HRd:=hid (HRd.out.on hbq)
    have HRh:=hid (HRh.out.on hbq)
    have HB:=hid (HB.out.trans (hbq.mono HB.out.size))
    clear hbq
    by_cases hsum:sumN x=S
    ·have hs1:((sumN x:Int) != (S:Int))=false:=by rw [bne_eq_false_iff_eq];omega
     have HYes:=hid (show findD s.data.toList=some (T,x) by rw [HF2.out,if_neg (by simpa using hsum)])
     generalize sumN x=sx at *
     have c1:W4.cell? ⟨w.heap.size+1,1,none⟩=some (.int .u64 0):=HRd.out.cell 1
     have c0:W4.cell? ⟨w.heap.size+1,0,none⟩=some (.int .i64 n):=HRd.out.cell 0
     have fc:=HRd.out.fz 1
     have g0:W4.cell? ⟨w4.heap.size,0,none⟩=some (.int .u64 T):=HRh.out.cell 0
     have d0:W4.cell? ⟨w.heap.size,0,none⟩=some (.int .i64 0):=HRr.out.cell 0
     have d1:W4.cell? ⟨w.heap.size,1,none⟩=some (.int .u64 0):=HRr.out.cell 1
     have f0:=HRr.out.fz 0
     have f1:=HRr.out.fz 1
     have hRr5:RecAt (W4.setCell ⟨w.heap.size+1,1,none⟩ (.int .u64 T)) w.heap.size #[.int .i64 0,.int .u64 0] 106:=(Below.heap_setCell W4 ⟨w.heap.size+1,1,none⟩ (.int .u64 T) w.heap.size (by simp)).trans HRr.out
     have E0:=hid ((dsk_set (r:=.int .i64 n) (m:=.int .u64 T) hRr5).cell 0)
     have E1:=hid ((dsk_set (r:=.int .i64 n) (m:=.int .u64 T) hRr5).cell 1)
     have HBF:=hid (((HB.out.setCell (p:=⟨w.heap.size+1,1,none⟩) (by simp) (.int .u64 T)).setCell (p:=⟨w.heap.size,0,none⟩) nlr (.int .i64 n)).setCell (p:=⟨w.heap.size,1,none⟩) nlr (.int .u64 T))
     clear hRr5
     go_wp2
     refine bodyPost_ret (v:=.tuple #[.agg #[.int .i64 n,.int .u64 T],.string X,.bool true]) (by have a0:=E0.out;have a1:=E1.out;simp [results,results47,go_sem,a0,a1]) rfl ⟨HBF.out,.inl ⟨T,x,HYes.out,HT.out,HXl.out,?_⟩⟩
     rw [HXe.out,show s.size / 128=n by omega]
    ·have hs1:((sumN x:Int) != (S:Int))=true:=by rw [bne_iff_ne];omega
     have HNo:=hid (show findD s.data.toList=none by rw [HF2.out,if_pos hsum])
     generalize sumN x=sx at *
     have d0:W4.cell? ⟨w.heap.size,0,none⟩=some (.int .i64 0):=HRr.out.cell 0
     have d1:W4.cell? ⟨w.heap.size,1,none⟩=some (.int .u64 0):=HRr.out.cell 1
     have f0:=HRr.out.fz 0
     have f1:=HRr.out.fz 1
     have E0:=hid ((dsk_set (r:=.int .i64 0) (m:=.int .u64 0) HRr.out).cell 0)
     have E1:=hid ((dsk_set (r:=.int .i64 0) (m:=.int .u64 0) HRr.out).cell 1)
     have HBF:=hid ((HB.out.setCell (p:=⟨w.heap.size,0,none⟩) nlr (.int .i64 0)).setCell (p:=⟨w.heap.size,1,none⟩) nlr (.int .u64 0))
     go_wp2
     exact bodyPost_ret (v:=.tuple #[.agg #[.int .i64 0,.int .u64 0],.string ⟨#[]⟩,.bool false]) (by have a0:=E0.out;have a1:=E1.out;simp [results,results47,go_sem,a0,a1]) rfl ⟨HBF.out,.inr ⟨HNo.out,rfl⟩⟩
theorem dfind_any (s:ByteArray) (hs:s.size<=maxLen) (w:World):Calls prog 47 #[.string s] w (FindEnds s w):=by
 by_cases hbad:s.size % 128≠0\/s.size / 128<16\/256<s.size / 128
 ·exact find_bad s hs hbad w
 ·exact find_good s (s.size / 128) (by omega) (by omega) (by omega) w
end
end Go.Proofs.YtalncjhldkcmaaaGreat
