import Derived.Test.YtalncjhldkcmaaaGreatFb12
import Derived.Test.YtalncjhldkcmaaaGreatFb03
import Derived.Test.YtalncjhldkcmaaaGreatFb00
namespace Go.Proofs.YtalncjhldkcmaaaGreat
open _root_.Go.Proofs.Tryz
set_option maxHeartbeats 16000000
set_option maxRecDepth 8000
section
open Go.RowKit Go.Shelf
attribute [local go_sem] run_store_cplx
theorem move_turns {w:World} {cb:Nat} {c:Nat->Int} {q:PT} {bx px py:Nat} (hC:Has w cb c) (hl:cb<w.heap.size) (h5:c 5=bx) (h6:c 6=px) (h7:c 7=py) (hx:px<5) (hy:py<5) :
  Turns 154 #[.pointer (some ⟨cb,0,none⟩)] w.heap.size w q (q.stored bx px py):=by
 intro u p hb hp hR
 have HS:=hid (store_any p q bx px py u.drew hR)
 have hpl:=@placeAt_any px py (by omega) (by omega)
 have k5:=(hb.cell (p:=⟨cb,5,none⟩) hl).trans (hC.1 5 (by omega))
 have k6:=(hb.cell (p:=⟨cb,6,none⟩) hl).trans (hC.1 6 (by omega))
 have k7:=(hb.cell (p:=⟨cb,7,none⟩) hl).trans (hC.1 7 (by omega))
 rw [h5] at k5
 rw [h6] at k6
 rw [h7] at k7
 simp only [pl] at HS hpl
 clear hR hC
 simp only [List.append_toArray,List.cons_append,List.nil_append]
 go_enter func154,ntmps154
 go_wp2_with fail
 go_region_with (first
  | (go_at_call 147;refine (hpl _).mono ?_;rintro e w' ⟨rfl,rfl⟩)
  | (go_at_call 151;refine HS.out.mono ?_;clear HS;rintro e u1 ⟨rfl,hr1,hk1⟩))
 all_goals go_end0
 all_goals exact ⟨rfl,hr1,((Keeps.refl _ u).drew).trans hk1⟩
end
section
open Go.RowKit
theorem rget_any (c:Nat->Int) (f:Nat) (hf:f<9) (w:World) :
  Calls prog 53 #[.agg #[.int .i64 (c 0),.int .i64 (c 1),.int .i64 (c 2),.int .i64 (c 3),.int .i64 (c 4),.int .i64 (c 5),.int .i64 (c 6),.int .i64 (c 7),.int .i64 (c 8)],.int .u8 ((ltr f).toNat:Int)] w fun e w'=>e=.returned (.int .i64 (c (off f)))/\Below w.heap.size w w':=by
 rcases lt9 hf with rfl | rfl | rfl | rfl | rfl | rfl | rfl | rfl | rfl
 all_goals
  show Calls prog 53 #[.agg _,.int .u8 _] w _
  simp only [ltr,List.getD_cons_zero,List.getD_cons_succ]
  go_enter func53,ntmps53
  go_wp2
  go_ret
  exact ⟨rfl,bal⟩
theorem four_cells (v:Nat) (hv:v<4294967296) (w:World):∀ j (hj:j<(be4 v).length),(w.alloc (.cells #[.int .u8 ((v:Int) / 16777216),.int .u8 ((v:Int) / 65536 % 256),.int .u8 ((v:Int) / 256 % 256),.int .u8 ((v:Int) % 256)] 5)).cell? ((⟨w.heap.size,0,none⟩:Addr).add j)=some (.int .u8 ((be4 v)[j].toNat:Int)):=by
 intro j hj
 have e:((⟨w.heap.size,0,none⟩:Addr).add j)=⟨w.heap.size,j,none⟩:=by unfold Addr.add;split <;> simp_all
 rw [e,World.cell?_alloc_new]
 have hb:=be4_cells v hv
 have hh:(byteCells (be4 v))[j]? = some (.int .u8 ((be4 v)[j].toNat:Int)):=by simp [byteCells,hj]
 rw [hb] at hh
 rw [<- hh]
 simp
theorem with_0 (c:Nat->Int) (n:Int) (w:World) :
  Calls prog 56 #[.agg #[.int .i64 (c 0),.int .i64 (c 1),.int .i64 (c 2),.int .i64 (c 3),.int .i64 (c 4),.int .i64 (c 5),.int .i64 (c 6),.int .i64 (c 7),.int .i64 (c 8)],.int .u8 116,.int .i64 n] w fun e w'=>e=.returned (.agg #[.int .i64 (c 0),.int .i64 (n),.int .i64 (c 2),.int .i64 (c 3),.int .i64 (c 4),.int .i64 (c 5),.int .i64 (c 6),.int .i64 (c 7),.int .i64 (c 8)])/\Below w.heap.size w w':=by
 go_enter func56,ntmps56
 go_wp2
 exact bodyPost_ret (v:=.agg #[.int .i64 (c 0),.int .i64 (n),.int .i64 (c 2),.int .i64 (c 3),.int .i64 (c 4),.int .i64 (c 5),.int .i64 (c 6),.int .i64 (c 7),.int .i64 (c 8)]) (by simp [results,results56,go_sem]) rfl ⟨rfl,(bal).alloc (by simp) _⟩
theorem with_1 (c:Nat->Int) (n:Int) (w:World) :
  Calls prog 56 #[.agg #[.int .i64 (c 0),.int .i64 (c 1),.int .i64 (c 2),.int .i64 (c 3),.int .i64 (c 4),.int .i64 (c 5),.int .i64 (c 6),.int .i64 (c 7),.int .i64 (c 8)],.int .u8 111,.int .i64 n] w fun e w'=>e=.returned (.agg #[.int .i64 (c 0),.int .i64 (c 1),.int .i64 (n),.int .i64 (c 3),.int .i64 (c 4),.int .i64 (c 5),.int .i64 (c 6),.int .i64 (c 7),.int .i64 (c 8)])/\Below w.heap.size w w':=by
 go_enter func56,ntmps56
 go_wp2
 exact bodyPost_ret (v:=.agg #[.int .i64 (c 0),.int .i64 (c 1),.int .i64 (n),.int .i64 (c 3),.int .i64 (c 4),.int .i64 (c 5),.int .i64 (c 6),.int .i64 (c 7),.int .i64 (c 8)]) (by simp [results,results56,go_sem]) rfl ⟨rfl,(bal).alloc (by simp) _⟩
theorem with_2 (c:Nat->Int) (n:Int) (w:World) :
  Calls prog 56 #[.agg #[.int .i64 (c 0),.int .i64 (c 1),.int .i64 (c 2),.int .i64 (c 3),.int .i64 (c 4),.int .i64 (c 5),.int .i64 (c 6),.int .i64 (c 7),.int .i64 (c 8)],.int .u8 100,.int .i64 n] w fun e w'=>e=.returned (.agg #[.int .i64 (c 0),.int .i64 (c 1),.int .i64 (c 2),.int .i64 (n),.int .i64 (c 4),.int .i64 (c 5),.int .i64 (c 6),.int .i64 (c 7),.int .i64 (c 8)])/\Below w.heap.size w w':=by
 go_enter func56,ntmps56
 go_wp2
 exact bodyPost_ret (v:=.agg #[.int .i64 (c 0),.int .i64 (c 1),.int .i64 (c 2),.int .i64 (n),.int .i64 (c 4),.int .i64 (c 5),.int .i64 (c 6),.int .i64 (c 7),.int .i64 (c 8)]) (by simp [results,results56,go_sem]) rfl ⟨rfl,(bal).alloc (by simp) _⟩
theorem with_3 (c:Nat->Int) (n:Int) (w:World) :
  Calls prog 56 #[.agg #[.int .i64 (c 0),.int .i64 (c 1),.int .i64 (c 2),.int .i64 (c 3),.int .i64 (c 4),.int .i64 (c 5),.int .i64 (c 6),.int .i64 (c 7),.int .i64 (c 8)],.int .u8 118,.int .i64 n] w fun e w'=>e=.returned (.agg #[.int .i64 (c 0),.int .i64 (c 1),.int .i64 (c 2),.int .i64 (c 3),.int .i64 (n),.int .i64 (c 5),.int .i64 (c 6),.int .i64 (c 7),.int .i64 (c 8)])/\Below w.heap.size w w':=by
 go_enter func56,ntmps56
 go_wp2
 exact bodyPost_ret (v:=.agg #[.int .i64 (c 0),.int .i64 (c 1),.int .i64 (c 2),.int .i64 (c 3),.int .i64 (n),.int .i64 (c 5),.int .i64 (c 6),.int .i64 (c 7),.int .i64 (c 8)]) (by simp [results,results56,go_sem]) rfl ⟨rfl,(bal).alloc (by simp) _⟩
theorem with_4 (c:Nat->Int) (n:Int) (w:World) :
  Calls prog 56 #[.agg #[.int .i64 (c 0),.int .i64 (c 1),.int .i64 (c 2),.int .i64 (c 3),.int .i64 (c 4),.int .i64 (c 5),.int .i64 (c 6),.int .i64 (c 7),.int .i64 (c 8)],.int .u8 98,.int .i64 n] w fun e w'=>e=.returned (.agg #[.int .i64 (c 0),.int .i64 (c 1),.int .i64 (c 2),.int .i64 (c 3),.int .i64 (c 4),.int .i64 (n),.int .i64 (c 6),.int .i64 (c 7),.int .i64 (c 8)])/\Below w.heap.size w w':=by
 go_enter func56,ntmps56
 go_wp2
 exact bodyPost_ret (v:=.agg #[.int .i64 (c 0),.int .i64 (c 1),.int .i64 (c 2),.int .i64 (c 3),.int .i64 (c 4),.int .i64 (n),.int .i64 (c 6),.int .i64 (c 7),.int .i64 (c 8)]) (by simp [results,results56,go_sem]) rfl ⟨rfl,(bal).alloc (by simp) _⟩
theorem with_5 (c:Nat->Int) (n:Int) (w:World) :
  Calls prog 56 #[.agg #[.int .i64 (c 0),.int .i64 (c 1),.int .i64 (c 2),.int .i64 (c 3),.int .i64 (c 4),.int .i64 (c 5),.int .i64 (c 6),.int .i64 (c 7),.int .i64 (c 8)],.int .u8 120,.int .i64 n] w fun e w'=>e=.returned (.agg #[.int .i64 (c 0),.int .i64 (c 1),.int .i64 (c 2),.int .i64 (c 3),.int .i64 (c 4),.int .i64 (c 5),.int .i64 (n),.int .i64 (c 7),.int .i64 (c 8)])/\Below w.heap.size w w':=by
 go_enter func56,ntmps56
 go_wp2
 exact bodyPost_ret (v:=.agg #[.int .i64 (c 0),.int .i64 (c 1),.int .i64 (c 2),.int .i64 (c 3),.int .i64 (c 4),.int .i64 (c 5),.int .i64 (n),.int .i64 (c 7),.int .i64 (c 8)]) (by simp [results,results56,go_sem]) rfl ⟨rfl,(bal).alloc (by simp) _⟩
theorem with_6 (c:Nat->Int) (n:Int) (w:World) :
  Calls prog 56 #[.agg #[.int .i64 (c 0),.int .i64 (c 1),.int .i64 (c 2),.int .i64 (c 3),.int .i64 (c 4),.int .i64 (c 5),.int .i64 (c 6),.int .i64 (c 7),.int .i64 (c 8)],.int .u8 121,.int .i64 n] w fun e w'=>e=.returned (.agg #[.int .i64 (c 0),.int .i64 (c 1),.int .i64 (c 2),.int .i64 (c 3),.int .i64 (c 4),.int .i64 (c 5),.int .i64 (c 6),.int .i64 (n),.int .i64 (c 8)])/\Below w.heap.size w w':=by
 go_enter func56,ntmps56
 go_wp2
 exact bodyPost_ret (v:=.agg #[.int .i64 (c 0),.int .i64 (c 1),.int .i64 (c 2),.int .i64 (c 3),.int .i64 (c 4),.int .i64 (c 5),.int .i64 (c 6),.int .i64 (n),.int .i64 (c 8)]) (by simp [results,results56,go_sem]) rfl ⟨rfl,(bal).alloc (by simp) _⟩
theorem with_7 (c:Nat->Int) (n:Int) (w:World) :
  Calls prog 56 #[.agg #[.int .i64 (c 0),.int .i64 (c 1),.int .i64 (c 2),.int .i64 (c 3),.int .i64 (c 4),.int .i64 (c 5),.int .i64 (c 6),.int .i64 (c 7),.int .i64 (c 8)],.int .u8 110,.int .i64 n] w fun e w'=>e=.returned (.agg #[.int .i64 (c 0),.int .i64 (c 1),.int .i64 (c 2),.int .i64 (c 3),.int .i64 (c 4),.int .i64 (c 5),.int .i64 (c 6),.int .i64 (c 7),.int .i64 (n)])/\Below w.heap.size w w':=by
 go_enter func56,ntmps56
 go_wp2
 exact bodyPost_ret (v:=.agg #[.int .i64 (c 0),.int .i64 (c 1),.int .i64 (c 2),.int .i64 (c 3),.int .i64 (c 4),.int .i64 (c 5),.int .i64 (c 6),.int .i64 (c 7),.int .i64 (n)]) (by simp [results,results56,go_sem]) rfl ⟨rfl,(bal).alloc (by simp) _⟩
theorem with_8 (c:Nat->Int) (n:Int) (w:World) :
  Calls prog 56 #[.agg #[.int .i64 (c 0),.int .i64 (c 1),.int .i64 (c 2),.int .i64 (c 3),.int .i64 (c 4),.int .i64 (c 5),.int .i64 (c 6),.int .i64 (c 7),.int .i64 (c 8)],.int .u8 113,.int .i64 n] w fun e w'=>e=.returned (.agg #[.int .i64 (c 0),.int .i64 (c 1),.int .i64 (c 2),.int .i64 (c 3),.int .i64 (c 4),.int .i64 (c 5),.int .i64 (c 6),.int .i64 (c 7),.int .i64 (n)])/\Below w.heap.size w w':=by
 go_enter func56,ntmps56
 go_wp2
 exact bodyPost_ret (v:=.agg #[.int .i64 (c 0),.int .i64 (c 1),.int .i64 (c 2),.int .i64 (c 3),.int .i64 (c 4),.int .i64 (c 5),.int .i64 (c 6),.int .i64 (c 7),.int .i64 (n)]) (by simp [results,results56,go_sem]) rfl ⟨rfl,(bal).alloc (by simp) _⟩
theorem with_any (c:Nat->Int) (f:Nat) (hf:f<9) (n:Int) (w:World) :
  Calls prog 56 #[.agg #[.int .i64 (c 0),.int .i64 (c 1),.int .i64 (c 2),.int .i64 (c 3),.int .i64 (c 4),.int .i64 (c 5),.int .i64 (c 6),.int .i64 (c 7),.int .i64 (c 8)],.int .u8 ((ltr f).toNat:Int),.int .i64 n] w fun e w'=>e=.returned (.agg #[.int .i64 (upd c (off f) n 0),.int .i64 (upd c (off f) n 1),.int .i64 (upd c (off f) n 2),.int .i64 (upd c (off f) n 3),.int .i64 (upd c (off f) n 4),.int .i64 (upd c (off f) n 5),.int .i64 (upd c (off f) n 6),.int .i64 (upd c (off f) n 7),.int .i64 (upd c (off f) n 8)])/\Below w.heap.size w w':=by
 rcases lt9 hf with rfl | rfl | rfl | rfl | rfl | rfl | rfl | rfl | rfl
 ·exact with_0 c n w
 ·exact with_1 c n w
 ·exact with_2 c n w
 ·exact with_3 c n w
 ·exact with_4 c n w
 ·exact with_5 c n w
 ·exact with_6 c n w
 ·exact with_7 c n w
 ·exact with_8 c n w
theorem four_any (v:Nat) (hv:v<4294967296) (w:World) :
  Calls prog 55 #[.int .i64 v] w fun e w'=>e=.returned (.string ⟨(be4 v).toArray⟩)/\Below w.heap.size w w':=by
 have hcv:=own_conv (w:=w.alloc (.cells #[.int .u8 ((v:Int) / 16777216),.int .u8 ((v:Int) / 65536 % 256),.int .u8 ((v:Int) / 256 % 256),.int .u8 ((v:Int) % 256)] 5)) (g:=w.heap.size) (cap:=4) (l:=be4 v) (four_cells v hv w)
 rw [be4_len] at hcv
 go_enter func55,ntmps55
 go_wp2
 go_ret
 exact ⟨rfl,bal⟩
def natOf (l:List UInt8):Nat:=l.foldl (fun n b=>256*n+b.toNat) 0
theorem natOf_snoc (l:List UInt8) (b:UInt8):natOf (l++[b])=256*natOf l+b.toNat:=by simp [natOf]
theorem natOf_lt (l:List UInt8):natOf l<256 ^ l.length:=by
 unfold natOf
 suffices h:∀ (l:List UInt8) (a:Nat),l.foldl (fun n b=>256*n+b.toNat) a<256 ^ l.length*(a+1) by simpa using h l 0
 intro l
 induction l with
 | nil=>intro a;simp
 | cons b l ih =>
  intro a
  have:=ih (256*a+b.toNat)
  have hb:=byte_lt b
  rw [List.foldl_cons,List.length_cons,Nat.pow_succ]
  refine Nat.lt_of_lt_of_le this ?_
  rw [Nat.mul_assoc]
  exact Nat.mul_le_mul_left _ (by omega)
theorem take_snoc (s:ByteArray) (k:Nat) (h:k<s.size):s.data.toList.take (k+1)=s.data.toList.take k++[s[k]]:=by
 rw [List.take_succ_eq_append_getElem (by simpa using h)];rfl
theorem natOf_bound (l:List UInt8) (h:l.length<=4):natOf l<4294967296:=by
 have:=natOf_lt l
 have h2:256 ^ l.length<=256 ^ 4:=Nat.pow_le_pow_right (by omega) h
 omega
theorem number_any (s:ByteArray) (w:World) (hs:s.size<=4) :
  Calls prog 140 #[.string s] w fun e w'=>e=.returned (.int .i64 (natOf s.data.toList:Nat))/\w'=w:=by
 go_enter func140,ntmps140
 go_wp2
 go_loop [3,4] (fun n i=>∃ k:Nat,k<=s.size/\i=.int .i64 k/\n=.int .i64 (natOf (s.data.toList.take k):Nat)) (fun _ i=>s.size - (intOf i).toNat)
 case atStart=>exact ⟨0,Nat.zero_le _,rfl,rfl⟩
 case round =>
  obtain ⟨k,hk,rfl,rfl⟩:=hrel
  have hlen:(s.data.toList.take k).length<=4:=by rw [List.length_take];omega
  have hb:=natOf_bound (s.data.toList.take k) hlen
  by_cases hlt:k<s.size
  ·have HS:Hid (((natOf (s.data.toList.take (k+1)):Nat):Int)=256*(natOf (s.data.toList.take k):Nat)+(s[k].toNat:Int)):=by
    rw [take_snoc s k hlt,natOf_snoc];show _=_;omega
   have hbk:=byte_lt s[k]
   go_wp2
   go_round
   case rel=>exact ⟨k+1,by omega,by go_num,by rw [HS.out]⟩
   case measure=>simp [intOf];omega
  ·go_wp2
   go_ret
   exact ⟨ret_int (by rw [List.take_of_length_le (by simp;omega)]),rfl⟩
end
end Go.Proofs.YtalncjhldkcmaaaGreat
