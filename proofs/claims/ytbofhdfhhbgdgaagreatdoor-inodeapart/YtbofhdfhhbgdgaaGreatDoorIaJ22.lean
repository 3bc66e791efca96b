/- Joined: KNew, CTakeD. -/
import Derived.Test.YtbofhdfhhbgdgaaGreatDoorIaJ20
import Derived.Test.YtbofhdfhhbgdgaaGreatDoorIaJ1
import Derived.Carry
import Derived.Test.YtbofhdfhhbgdgaaGreatDoorIaJ21
import Derived.Test.YtbofhdfhhbgdgaaGreatDoorIaJ18
import Derived.Deep.RegionHeld3
/- The contract of New. -/
namespace Go.Proofs.YtbofhdfhhbgdgaaGreatDoor
set_option maxRecDepth 100000
set_option maxHeartbeats 8000000
open Go.RowKit Go.Shelf Go.Maps
set_option linter.unusedVariables false
theorem adC {B w a n c ns}(h:iR B w a n c ns):gq w a n ns:=by
 refine⟨h.1,fun hp=>?_⟩
 obtain⟨g,e,_,_,_⟩:=h.cell (j:=0) hp
 refine⟨g,0,e,fun j hj=>?_⟩
 obtain⟨g',e',_,hc,_⟩:=h.cell hj
 rw[e] at e'
 cases e'
 rw[Nat.zero_add]
 exact hc
theorem ae5 {w a}{n c:Nat}{ns}(h:gq w a n ns)(hn:n<=17592186043904) :
  ∃ a1 c1 w1,(∀ ty,(Builtin.append_ #[22,22] ty #[.slice (some ⟨w.heap.size,0,none⟩) 0 0,.slice a n c]).run Tryz.prog (w.alloc (.cells #[] 3))=.ok (.slice a1 n c1) w1)/\iR w.heap.size w1 a1 n c1 ns/\Below w.heap.size w w1:=by
 obtain⟨i0,hi,hz0,hz1,hz2⟩:=info_parts info3
 have hb0:Below w.heap.size w (w.alloc (.cells #[] 3)):=(Below.refl _ w).alloc (Nat.le_refl _) _
 have hs:(w.alloc (.cells #[] 3)).heap.size=w.heap.size+1:=by simp
 by_cases h0:n=0
 ·subst h0
  obtain rfl:ns=[]:=List.eq_nil_of_length_eq_zero h.1
  refine⟨some ⟨w.heap.size,0,none⟩,0,w.alloc (.cells #[] 3),fun ty=>?_,⟨rfl,by omega,by unfold maxLen;omega,.inr ⟨w.heap.size,#[],rfl,Nat.le_refl _,World.alloc_heap_new _ _,rfl,rfl⟩⟩,hb0⟩
  cases a<;>simp[Builtin.append_,run_underlying Tryz.underlying22,sizeOf,typeInfo,hi,Builtin.lenOf,Builtin.firstCells,storeCells,loadCells,loadCellsFrom]
 ·obtain⟨b,off,rfl,hc⟩:=h.2 (by omega)
  have hl:=h.1
  have hown:(w.alloc (.cells #[] 3)).ownsRow w.heap.size 3 1 (.slice (some ⟨w.heap.size,0,none⟩) 0 0) 0 []:=⟨rfl,.inr ⟨_,0,#[],rfl,Nat.le_refl _,World.alloc_heap_new _ _,Nat.le_refl _,by unfold maxLen;omega,rfl,rfl⟩⟩
  obtain⟨v',w',hr,ho,hg,_⟩:=run_append_own (P:=Tryz.prog) (w.alloc (.cells #[] 3)) w.heap.size 22 0 3 i0 (.int .i64 0) 1 8 Tryz.underlying22 hi hz0 hz1 hz2 rfl (by decide) _ 0 [] hown ⟨b,off,none⟩ n c (ns.map (Value.int .i64)) (by simp[hl]) (by
   intro j u hj
   have hjl:j<n:=by have:=(List.getElem?_eq_some_iff.1 hj).1;simp at this;omega
   rw[World.aF,hb0.cell (p:=⟨b,off+j,none⟩) (aH (hc j hjl)),hc j hjl]
   rw[List.getElem?_map,List.getElem?_eq_getElem (by omega)] at hj
   rw[List.getElem?_eq_getElem (by omega)]
   simpa using hj) (vw ns) (by unfold maxLen;omega) (by omega) (by omega)
  rw[List.nil_append,Nat.zero_add] at ho
  have hgr:Gr w.heap.size w' v' ns:=by unfold Gr;rw[hl];exact ho
  obtain⟨a1,c1,rfl,hO⟩:=hgr.own
  rw[hl] at hr hO
  refine⟨a1,c1,w',fun ty=>hr,hO,hb0.grown hg (by omega) (fun k e=>?_)⟩
  simp[Value.ownBlock] at e
  omega
theorem ab2 (w:World):Calls Tryz.prog 99 #[.slice none 0 0] w fun e w'=>e=.returned (.slice none 0 0)/\w=w':=by
 have q:∀ (w:World) (a:Option Addr) (n c n' c':Nat),(binOp .eql 22 (.slice a n c) (.slice none n' c')).run Tryz.prog w=.ok (.bool a.isNone) w:=fun w a n c n' c'=>Lib.run_eql_slice_nil w _ _ a n c n' c' Tryz.underlying22
 go_enter Tryz.func99,Tryz.ntmps99
 go_wp2
 go_ret
 exact⟨rfl,rfl⟩
theorem yT (x:Addr)(len cap:Nat)(ns:List Int)(w:World)(h:gq w (some x) len ns)(hn:len<=17592186043904) :
  Calls Tryz.prog 99 #[.slice (some x) len cap] w fun e w'=>∃ a1 c1,e=.returned (.slice a1 len c1)/\Hid (iR w.heap.size w' a1 len c1 ns/\Below w.heap.size w w'):=by
 obtain⟨a1,c1,w1,r1,o1,b1⟩:=ae5 (c:=cap) h hn
 have R:=hide r1
 have X:Hid (iR w.heap.size w1 a1 len c1 ns/\Below w.heap.size w w1):=⟨o1,b1⟩
 clear r1 o1 b1 h hn
 have q:∀ (w:World) (a:Option Addr) (n c n' c':Nat),(binOp .eql 22 (.slice a n c) (.slice none n' c')).run Tryz.prog w=.ok (.bool a.isNone) w:=fun w a n c n' c'=>Lib.run_eql_slice_nil w _ _ a n c n' c' Tryz.underlying22
 go_enter Tryz.func99,Tryz.ntmps99
 go_wp2_with (at_builtin;refine wpList_append_run 22 rfl _ _ rfl _ _ _ rfl rfl (ah R) ?_;clear R)
 go_ret
 exact⟨_,_,rfl,X⟩
theorem ab3 (a:Option Addr)(len cap:Nat)(ns:List Int)(w:World)(h:gq w a len ns)(hn:len<=17592186043904)(ha:a=none->cap=0/\len=0) :
  Calls Tryz.prog 99 #[.slice a len cap] w fun e w'=>∃ a1 c1,e=.returned (.slice a1 len c1)/\Hid (iR w.heap.size w' a1 len c1 ns/\Below w.heap.size w w'):=by
 cases a with
 | none =>
  obtain⟨rfl,rfl⟩:=ha rfl
  obtain rfl:ns=[]:=List.eq_nil_of_length_eq_zero h.1
  refine(ab2 w).mono ?_
  rintro e w' ⟨rfl,rfl⟩
  exact⟨none,0,rfl,iR.nil _ _,Below.refl _ _⟩
 | some x=>exact yT x len cap ns w h hn
def Cac.new (cap:Nat) (ps:List Int):Cac:=⟨cap,ps,fun _=>none⟩
theorem afH {w w1:World}{Sd dg D}(hD:Dv w Sd dg D){cap:Nat}(hc:1<=cap/\cap<=512){a1:Option Addr}{len c1:Nat}{ns:List Int}(ho:iR w.heap.size w1 a1 len c1 ns)(hb:Below w.heap.size w w1) :
  ∃ S,Kv ((w1.alloc (.map #[] 0)).alloc (.cells #[.pointer (some ⟨dg,0,none⟩),.int .i64 cap,.slice a1 len c1,.map (some w1.heap.size)] 175)) S (w1.heap.size+1) dg (Cac.new cap ns) D/\(∀ k,S k->Sd k\/w.heap.size<=k) /\
   Below w.heap.size w ((w1.alloc (.map #[] 0)).alloc (.cells #[.pointer (some ⟨dg,0,none⟩),.int .i64 cap,.slice a1 len c1,.map (some w1.heap.size)] 175)):=by
 have hl:=ho.1
 subst hl
 have hs:=hb.size
 have z1:(w1.alloc (.map #[] 0)).heap.size=w1.heap.size+1:=by simp
 have z2:((w1.alloc (.map #[] 0)).alloc (.cells #[.pointer (some ⟨dg,0,none⟩),.int .i64 cap,.slice a1 ns.length c1,.map (some w1.heap.size)] 175)).heap.size=w1.heap.size+2:=by simp
 have b1:Below w1.heap.size w1 (w1.alloc (.map #[] 0)):=(Below.refl _ _).alloc (Nat.le_refl _) _
 have b2:Below (w1.alloc (.map #[] 0)).heap.size (w1.alloc (.map #[] 0)) ((w1.alloc (.map #[] 0)).alloc (.cells #[.pointer (some ⟨dg,0,none⟩),.int .i64 cap,.slice a1 ns.length c1,.map (some w1.heap.size)] 175)):=(Below.refl _ _).alloc (Nat.le_refl _) _
 have b3:Below w.heap.size w ((w1.alloc (.map #[] 0)).alloc (.cells #[.pointer (some ⟨dg,0,none⟩),.int .i64 cap,.slice a1 ns.length c1,.map (some w1.heap.size)] 175)):=(hb.trans (b1.mono hs)).trans (b2.mono (by omega))
 have b4:Below w1.heap.size w1 ((w1.alloc (.map #[] 0)).alloc (.cells #[.pointer (some ⟨dg,0,none⟩),.int .i64 cap,.slice a1 ns.length c1,.map (some w1.heap.size)] 175)):=b1.trans (b2.mono (by omega))
 have o4:=ho.below b4 (Nat.le_refl _)
 have hd:=hD.below b3
 generalize hu:((w1.alloc (.map #[] 0)).alloc (.cells #[.pointer (some ⟨dg,0,none⟩),.int .i64 cap,.slice a1 ns.length c1,.map (some w1.heap.size)] 175))=u at *
 have str:u.rowIs (w1.heap.size+1) 175 4 (aev dg (Cac.new cap ns) ⟨w1.heap.size,a1,c1,fun _=>0,fun _=>(0,0)⟩):=by
  have:=World.rowIs_alloc (w1.alloc (.map #[] 0)) #[.pointer (some ⟨dg,0,none⟩),.int .i64 cap,.slice a1 ns.length c1,.map (some w1.heap.size)] 175 (aev dg (Cac.new cap ns) ⟨w1.heap.size,a1,c1,fun _=>0,fun _=>(0,0)⟩) (fun i hi=>by
   have:i=0\/i=1\/i=2\/i=3:=by simp at hi;omega
   rcases this with rfl | rfl | rfl | rfl<;>rfl)
  rw[hu,z1] at this
  exact this
 have mp:bJ u w1.heap.size D.n (fun _=>none):=(bJ.made w1 D.n).kept (b2.block _ (by omega))
 have cc:CcM u (fun k=>w.heap.size<=k/\k<u.heap.size) (w1.heap.size+1) dg D.n D.blk (Cac.new cap ns) ⟨w1.heap.size,a1,c1,fun _=>0,fun _=>(0,0)⟩:=by
  refine⟨str,mp.congr (fun k hk=>rfl),fun b l hb' e=>by simp[Cac.new] at e,fun b l hb' e=>by simp[Cac.new] at e,fun b b' l l' hb' ao9 e=>by simp[Cac.new] at e,⟨by omega,by omega⟩,⟨hs,by show w1.heap.size<_;omega⟩,fun b l hb' e=>by simp[Cac.new] at e,adC o4,⟨o4.2.1,?_⟩,fun x ex=>?_,fun k hk=>hk.2,hc⟩
  ·have:=o4.2.2.1
   unfold maxLen at this
   show c1<=9223372036854775807
   omega
  ·have ex':a1=some x:=ex
   rcases o4.2.2.2 with ⟨e,_⟩ | ⟨g,cur,e,hg,hh,_⟩
   ·rw[e] at ex';cases ex'
   ·rw[e] at ex'
    cases ex'
    exact⟨⟨hg,(Array.getElem?_eq_some_iff.1 hh).1⟩,cur,hh⟩
 exact⟨fun k=>(w.heap.size<=k/\k<u.heap.size)\/Sd k,⟨_,Sd,_,cc,hd,fun k hk hs'=>by have:=hD.lt hs';omega,fun k=>Iff.rfl⟩,fun k hk=>by
  rcases hk with hk | hk
  ·exact .inr hk.1
  ·exact .inl hk,b3⟩
theorem ai5 (dg:Nat)(Sd:Nat->Prop)(D:Dev)(cap:Nat)(a:Option Addr)(len c:Nat)(ns:List Int)(w:World)(hD:Dv w Sd dg D)(hc:1<=cap/\cap<=512)(h:gq w a len ns)(hn:len<=17592186043904)(ha:a=none->c=0/\len=0) :
  Calls Tryz.prog 38 #[.pointer (some ⟨dg,0,none⟩),.int .i64 cap,.slice a len c] w fun e w'=>∃ g,e=.returned (.tuple #[.pointer (some ⟨g,0,none⟩),.int .i64 0])/\Hid (∃ S,Kv w' S g dg (Cac.new cap ns) D/\(∀ k,S k->Sd k\/w.heap.size<=k)/\Below w.heap.size w w'):=by
 have K:=hide (ab3 a len c ns w h hn ha)
 have KN:Hid (∀ w1 a1 c1,iR w.heap.size w1 a1 len c1 ns->Below w.heap.size w w1->_):=fun w1 a1 c1 ho hb=>afH (w:=w) (w1:=w1) (len:=len) hD hc ho hb
 have hmm:=@run_makeMap Tryz.prog
 obtain⟨hc1,hc2⟩:=hc
 clear hD h hn ha
 go_enter Tryz.func38,Tryz.ntmps38
 go_wp2_with fail
 go_at_call 99
 refine(ah K).mono ?_
 rintro e w1 ⟨a1,c1,rfl,X⟩
 have X2:=hide (ah KN w1 a1 c1 (ah X).1 (ah X).2)
 clear K KN X
 go_wp2_with fail
 go_ret2
 exact⟨_,rfl,X2⟩
end Go.Proofs.YtbofhdfhhbgdgaaGreatDoor
/- Contract of ai4.akk. -/
namespace Go.Proofs.YtbofhdfhhbgdgaaGreatDoor
set_option maxRecDepth 100000
set_option maxHeartbeats 8000000
open Go.RowKit Go.Shelf
set_option linter.unusedVariables false
def ah6 (zs:List Int) (n:Nat):List Int:=(List.range n).map (fun (i:Nat)=>ak zs (10+2*(i:Int)) 2)
end Go.Proofs.YtbofhdfhhbgdgaaGreatDoor
