import Derived.Test.YtalncjhldkcmaaaGreatFb11
import Derived.Laws.EntriesVeiled
namespace Go.Proofs.YtalncjhldkcmaaaGreat
open _root_.Go.Proofs.Tryz
set_option maxHeartbeats 16000000
set_option maxRecDepth 8000
section
open Go.RowKit Go.Shelf
attribute [local go_sem] Oper.semAt_some
def GivesT {α:Type} (P:Program) (g:Nat) (lb:Array Value) (encs:α->Array Value) (n₀ N:Nat) (xs:List α) (w:World):Prop :=
 ∀ (Y:Nat->Prop) u X,Keeps Y w u->(∀ k,Y k->n₀<=k/\k<N)->(∀ k,X k->n₀<=k)->GivesM P g lb encs X xs u
theorem range_givesT (n₀:Nat) (root:Option Addr) (n fr tt:Int) (l:List KV) (w:World) (hT:TreeIs n₀ w root l) :
  Calls prog 78 #[.agg #[.pointer root,.int .i64 n],.int .u32 fr,.int .u32 tt] w fun e w' =>
   ∃ lb,e=.returned (.func (.func 128) #[] lb)/\GivesT prog 128 lb encKV n₀ w.heap.size (sel fr tt l) w'/\Below w.heap.size w w':=range_givesM n₀ root n fr tt l w hT
theorem tubes_closeA (n₀:Nat) {lb:Array Value} (ts:List TN) (hok:∀ t∈ts,t.2.Ok/\t.1<1024) {w w2:World} (hn:n₀<=w.heap.size) (hG:GivesT prog 128 lb encKV n₀ w.heap.size (ts.map kvT) w2) (hb:Below w.heap.size w w2) :
  ∃ bx,Ending.returned (.func (.func 196) #[] #[.pointer (some ⟨w2.heap.size,0,none⟩)])=.returned (.func (.func 196) #[] #[.pointer (some ⟨bx,0,none⟩)])/\GivesT prog 196 #[.pointer (some ⟨bx,0,none⟩)] encT n₀ w.heap.size ts (w2.alloc (.cells #[.func (.func 128) #[] lb] 162))/\Below w.heap.size w (w2.alloc (.cells #[.func (.func 128) #[] lb] 162)):=by
 have h1:Below w2.heap.size w2 (w2.alloc (.cells #[.func (.func 128) #[] lb] 162)):=bal
 have hs:=hb.size
 refine ⟨_,rfl,fun Y u X hk hY hX => ?_,hb.trans (h1.mono hs)⟩
 have hku:=hk.size
 have hsz:(w2.alloc (.cells #[.func (.func 128) #[] lb] 162)).heap.size=w2.heap.size+1:=by simp
 exact tubes1_givesM X n₀ _ hX lb ts hok u (by omega) (by omega) ((hk.cell (p:=⟨w2.heap.size,0,none⟩) (by show w2.heap.size<_;omega) (fun h=>by have h':=(hY _ h).2;simp at h';omega)).trans (Boxed.new w2 _ _).cell)
  (fun X' hX'=>hG Y u X' (((Keeps.refl _ w2).alloc _).trans hk) hY hX')
theorem tubes_closeB (n₀:Nat) {lb:Array Value} (ts:List TN) (hok:∀ t∈ts,t.2.Ok/\t.1<1024) {w w2:World} {v:Value} (hn:n₀<=w.heap.size) (hG:GivesT prog 128 lb encKV n₀ (w.alloc (.cells #[.nilFunc] 162)).drew.heap.size (ts.map kvT) w2) (hbx:Boxed w2 w.heap.size 162 v) (hb:Below w.heap.size w w2) :
  ∃ bx,Ending.returned (.func (.func 196) #[] #[.pointer (some ⟨w.heap.size,0,none⟩)])=.returned (.func (.func 196) #[] #[.pointer (some ⟨bx,0,none⟩)])/\GivesT prog 196 #[.pointer (some ⟨bx,0,none⟩)] encT n₀ w.heap.size ts (w2.setCell ⟨w.heap.size,0,none⟩ (.func (.func 128) #[] lb))/\Below w.heap.size w (w2.setCell ⟨w.heap.size,0,none⟩ (.func (.func 128) #[] lb)):=by
 have hs:=hb.size
 have hl:=hbx.lt
 have hsz:(w.alloc (.cells #[.nilFunc] 162)).drew.heap.size=w.heap.size+1:=by show (w.alloc _).heap.size=_;simp
 rw [hsz] at hG
 have hk0:Keeps (fun g=>g=w.heap.size) w2 (w2.setCell ⟨w.heap.size,0,none⟩ (.func (.func 128) #[] lb)):=(Keeps.refl (fun g=>g=w.heap.size) w2).setCell (p:=⟨w.heap.size,0,none⟩) (.inl rfl) _
 have hk0s:=hk0.size
 refine ⟨_,rfl,fun Y u X hk hY hX => ?_,hb.setCell (p:=⟨w.heap.size,0,none⟩) nlr _⟩
 have hku:=hk.size
 exact tubes1_givesM X n₀ _ hX lb ts hok u (by omega) (by omega) ((hk.cell (p:=⟨w.heap.size,0,none⟩) (by show w.heap.size<_;omega) (fun h=>by have h':=(hY _ h).2;simp at h')).trans (hbx.set _).cell)
  (fun X' hX'=>hG (fun k=>Y k\/k=w.heap.size) u X' ((hk0.mono (fun k _ h=>.inr h)).trans (hk.mono (fun k _ h=>.inl h))) (fun k h=>by rcases h with h | h;(have:=hY k h;omega);omega) hX')
theorem tubes_any (n₀ b:Nat) (l:List KV) (ts:List TN) (hok:∀ t∈ts,t.2.Ok/\t.1<1024) (hts:sel (tubeK 1) (tubeK 999) l=ts.map kvT) (w:World) (hT:TxAt n₀ w b l) :
  Calls prog 163 #[.pointer (some ⟨b,0,none⟩)] w fun e w'=>∃ bx,e=.returned (.func (.func 196) #[] #[.pointer (some ⟨bx,0,none⟩)])/\GivesT prog 196 #[.pointer (some ⟨bx,0,none⟩)] encT n₀ w.heap.size ts w'/\Below w.heap.size w w':=by
 have hmf:∀ (fn:Fn) (first cap:Array Value) (w:World),(Instr.makeFunc fn first cap).run prog w=.ok (.func fn first cap) w:=fun _ _ _ _=>rfl
 obtain ⟨⟨r,hB,hI⟩,hf⟩:=hT
 have hn0:=hI.2.1
 have c0:=hB.c0
 have c1:=hB.c1
 have k1:=tubeKey_any 1 (by omega)
 have k9:=tubeKey_any 999 (by omega)
 have HR:=hid (fun u (hu:Below w.heap.size w u)=>hts ▸ range_givesT n₀ r l.length (tubeK 1) (tubeK 999) l u (hI.below (hu.mono hn0)))
 have hD1:Below w.heap.size w w.drew:=(Below.refl _ w).drew
 have hba:Below w.heap.size w (w.alloc (.cells #[.nilFunc] 162)):=(Below.refl _ w).alloc nlr _
 have hD2:=hba.drew
 have a0:=(hba.cell (p:=⟨b,0,none⟩) hB.lt).trans c0
 have a1:=(hba.cell (p:=⟨b,1,none⟩) hB.lt).trans c1
 have HBx:=hid (Boxed.new w 162 .nilFunc)
 clear hI hB
 go_enter func163,ntmps163
 go_wp2_with fail
 go_region_with (first
  | (go_at_call_of 184 (Value.int IntKind.i64 999);refine (k9 _).mono ?_;rintro e w' ⟨rfl,rfl⟩)
  | (go_at_call 184;refine (k1 _).mono ?_;rintro e w' ⟨rfl,rfl⟩)
  | (go_at_call 78;refine (HR.out _ ?_).mono ?_;(first | exact hD1 | exact hD2);rintro e w2 ⟨lb,rfl,hG,hb2⟩;(try (have hbx:=boxed_below (W:=(w.alloc (.cells #[.nilFunc] 162)).drew) HBx.out hb2;have g0:=hbx.cell;have g1:=hbx.frozen))))
 all_goals go_wp2_with fail
 all_goals go_ret
 all_goals first
  | exact tubes_closeA n₀ ts hok hn0 hG ((Below.refl w.heap.size w).drew.trans hb2)
  | exact tubes_closeB n₀ ts hok hn0 hG hbx (hD2.trans (hb2.mono hD2.size))
end
end Go.Proofs.YtalncjhldkcmaaaGreat
