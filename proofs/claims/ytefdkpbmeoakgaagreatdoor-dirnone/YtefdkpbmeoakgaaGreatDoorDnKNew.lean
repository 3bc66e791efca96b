/- The contract of New. -/
import Derived.Test.YtefdkpbmeoakgaaGreatDoorDnJ17
import Derived.Test.YtefdkpbmeoakgaaGreatDoorDnJ1
import Derived.Carry
namespace Go.Proofs.YtefdkpbmeoakgaaGreatDoor
set_option maxRecDepth 100000
set_option maxHeartbeats 8000000
open Go.RowKit Go.Shelf Go.Maps
set_option linter.unusedVariables false
theorem adH {B w a n c ns}(h:qE B w a n c ns):jh w a n ns:=by
 refine⟨h.1,fun hp=>?_⟩
 obtain⟨g,e,_,_,_⟩:=h.cell (j:=0) hp
 refine⟨g,0,e,fun j hj=>?_⟩
 obtain⟨g',e',_,hc,_⟩:=h.cell hj
 rw[e] at e'
 cases e'
 rw[Nat.zero_add]
 exact hc
theorem ae5 {w a}{n c:Nat}{ns}(h:jh w a n ns)(hn:n<=17592186043904) :
  ∃ a1 c1 w1,(∀ ty,(Builtin.append_ #[102,102] ty #[.slice (some ⟨w.heap.size,0,none⟩) 0 0,.slice a n c]).run Tryz.prog (w.alloc (.cells #[] 3))=.ok (.slice a1 n c1) w1)/\qE w.heap.size w1 a1 n c1 ns/\Below w.heap.size w w1:=by
 obtain⟨i0,hi,hz0,hz1,hz2⟩:=info_parts info3
 have hb0:Below w.heap.size w (w.alloc (.cells #[] 3)):=(Below.refl _ w).alloc (Nat.le_refl _) _
 have hs:(w.alloc (.cells #[] 3)).heap.size=w.heap.size+1:=by simp
 by_cases h0:n=0
 ·subst h0
  obtain rfl:ns=[]:=List.eq_nil_of_length_eq_zero h.1
  refine⟨some ⟨w.heap.size,0,none⟩,0,w.alloc (.cells #[] 3),fun ty=>?_,⟨rfl,by omega,by unfold maxLen;omega,.inr ⟨w.heap.size,#[],rfl,Nat.le_refl _,World.alloc_heap_new _ _,rfl,rfl⟩⟩,hb0⟩
  cases a<;>simp[Builtin.append_,run_underlying Tryz.underlying102,sizeOf,typeInfo,hi,Builtin.lenOf,Builtin.firstCells,storeCells,loadCells,loadCellsFrom]
 ·obtain⟨b,off,rfl,hc⟩:=h.2 (by omega)
  have hl:=h.1
  have hown:(w.alloc (.cells #[] 3)).ownsRow w.heap.size 3 1 (.slice (some ⟨w.heap.size,0,none⟩) 0 0) 0 []:=⟨rfl,.inr ⟨_,0,#[],rfl,Nat.le_refl _,World.alloc_heap_new _ _,Nat.le_refl _,by unfold maxLen;omega,rfl,rfl⟩⟩
  obtain⟨v',w',hr,ho,hg,_⟩:=run_append_own (P:=Tryz.prog) (w.alloc (.cells #[] 3)) w.heap.size 102 0 3 i0 (.int .i64 0) 1 8 Tryz.underlying102 hi hz0 hz1 hz2 rfl (by decide) _ 0 [] hown ⟨b,off,none⟩ n c (ns.map (Value.int .i64)) (by simp[hl]) (by
   intro j u hj
   have hjl:j<n:=by have:=(List.getElem?_eq_some_iff.1 hj).1;simp at this;omega
   rw[World.aF,hb0.cell (p:=⟨b,off+j,none⟩) (aO (hc j hjl)),hc j hjl]
   rw[List.getElem?_map,List.getElem?_eq_getElem (by omega)] at hj
   rw[List.getElem?_eq_getElem (by omega)]
   simpa using hj) (vX ns) (by unfold maxLen;omega) (by omega) (by omega)
  rw[List.nil_append,Nat.zero_add] at ho
  have hgr:Gr w.heap.size w' v' ns:=by unfold Gr;rw[hl];exact ho
  obtain⟨a1,c1,rfl,hO⟩:=hgr.own
  rw[hl] at hr hO
  refine⟨a1,c1,w',fun ty=>hr,hO,hb0.grown hg (by omega) (fun k e=>?_)⟩
  simp[Value.ownBlock] at e
  omega
theorem abD (w:World):Calls Tryz.prog 45 #[.slice none 0 0] w fun e w'=>e=.returned (.slice none 0 0)/\w=w':=by
 have q:∀ (w:World) (a:Option Addr) (n c n' c':Nat),(binOp .eql 102 (.slice a n c) (.slice none n' c')).run Tryz.prog w=.ok (.bool a.isNone) w:=fun w a n c n' c'=>Lib.run_eql_slice_nil w _ _ a n c n' c' Tryz.underlying102
 go_enter Tryz.func45,Tryz.ntmps45
 go_wp2
 go_ret
 exact⟨rfl,rfl⟩
theorem zJ (x:Addr)(len cap:Nat)(ns:List Int)(w:World)(h:jh w (some x) len ns)(hn:len<=17592186043904) :
  Calls Tryz.prog 45 #[.slice (some x) len cap] w fun e w'=>∃ a1 c1,e=.returned (.slice a1 len c1)/\Hid (qE w.heap.size w' a1 len c1 ns/\Below w.heap.size w w'):=by
 obtain⟨a1,c1,w1,r1,o1,b1⟩:=ae5 (c:=cap) h hn
 have R:=hide r1
 have X:Hid (qE w.heap.size w1 a1 len c1 ns/\Below w.heap.size w w1):=⟨o1,b1⟩
 clear r1 o1 b1 h hn
 have q:∀ (w:World) (a:Option Addr) (n c n' c':Nat),(binOp .eql 102 (.slice a n c) (.slice none n' c')).run Tryz.prog w=.ok (.bool a.isNone) w:=fun w a n c n' c'=>Lib.run_eql_slice_nil w _ _ a n c n' c' Tryz.underlying102
 go_enter Tryz.func45,Tryz.ntmps45
 go_wp2_with (at_builtin;refine wpList_append_run 102 rfl _ _ rfl _ _ _ rfl rfl (ah R) ?_;clear R)
 go_ret
 exact⟨_,_,rfl,X⟩
theorem abE (a:Option Addr)(len cap:Nat)(ns:List Int)(w:World)(h:jh w a len ns)(hn:len<=17592186043904)(ha:a=none->cap=0/\len=0) :
  Calls Tryz.prog 45 #[.slice a len cap] w fun e w'=>∃ a1 c1,e=.returned (.slice a1 len c1)/\Hid (qE w.heap.size w' a1 len c1 ns/\Below w.heap.size w w'):=by
 cases a with
 | none =>
  obtain⟨rfl,rfl⟩:=ha rfl
  obtain rfl:ns=[]:=List.eq_nil_of_length_eq_zero h.1
  refine(abD w).mono ?_
  rintro e w' ⟨rfl,rfl⟩
  exact⟨none,0,rfl,qE.nil _ _,Below.refl _ _⟩
 | some x=>exact zJ x len cap ns w h hn
def Cac.new (cap:Nat) (ps:List Int):Cac:=⟨cap,ps,fun _=>none⟩
theorem af7 {w w1:World}{Sd dg D}(hD:Dv w Sd dg D){cap:Nat}(hc:1<=cap/\cap<=512){a1:Option Addr}{len c1:Nat}{ns:List Int}(ho:qE w.heap.size w1 a1 len c1 ns)(hb:Below w.heap.size w w1) :
  ∃ S,Kv ((w1.alloc (.map #[] 0)).alloc (.cells #[.pointer (some ⟨dg,0,none⟩),.int .i64 cap,.slice a1 len c1,.map (some w1.heap.size)] 106)) S (w1.heap.size+1) dg (Cac.new cap ns) D/\(∀ k,S k->Sd k\/w.heap.size<=k) /\
   Below w.heap.size w ((w1.alloc (.map #[] 0)).alloc (.cells #[.pointer (some ⟨dg,0,none⟩),.int .i64 cap,.slice a1 len c1,.map (some w1.heap.size)] 106)):=by
 have hl:=ho.1
 subst hl
 have hs:=hb.size
 have z1:(w1.alloc (.map #[] 0)).heap.size=w1.heap.size+1:=by simp
 have z2:((w1.alloc (.map #[] 0)).alloc (.cells #[.pointer (some ⟨dg,0,none⟩),.int .i64 cap,.slice a1 ns.length c1,.map (some w1.heap.size)] 106)).heap.size=w1.heap.size+2:=by simp
 have b1:Below w1.heap.size w1 (w1.alloc (.map #[] 0)):=(Below.refl _ _).alloc (Nat.le_refl _) _
 have b2:Below (w1.alloc (.map #[] 0)).heap.size (w1.alloc (.map #[] 0)) ((w1.alloc (.map #[] 0)).alloc (.cells #[.pointer (some ⟨dg,0,none⟩),.int .i64 cap,.slice a1 ns.length c1,.map (some w1.heap.size)] 106)):=(Below.refl _ _).alloc (Nat.le_refl _) _
 have b3:Below w.heap.size w ((w1.alloc (.map #[] 0)).alloc (.cells #[.pointer (some ⟨dg,0,none⟩),.int .i64 cap,.slice a1 ns.length c1,.map (some w1.heap.size)] 106)):=(hb.trans (b1.mono hs)).trans (b2.mono (by omega))
 have b4:Below w1.heap.size w1 ((w1.alloc (.map #[] 0)).alloc (.cells #[.pointer (some ⟨dg,0,none⟩),.int .i64 cap,.slice a1 ns.length c1,.map (some w1.heap.size)] 106)):=b1.trans (b2.mono (by omega))
 have o4:=ho.below b4 (Nat.le_refl _)
 have hd:=hD.below b3
 generalize hu:((w1.alloc (.map #[] 0)).alloc (.cells #[.pointer (some ⟨dg,0,none⟩),.int .i64 cap,.slice a1 ns.length c1,.map (some w1.heap.size)] 106))=u at *
 have str:u.rowIs (w1.heap.size+1) 106 4 (aew dg (Cac.new cap ns) ⟨w1.heap.size,a1,c1,fun _=>0,fun _=>(0,0)⟩):=by
  have:=World.rowIs_alloc (w1.alloc (.map #[] 0)) #[.pointer (some ⟨dg,0,none⟩),.int .i64 cap,.slice a1 ns.length c1,.map (some w1.heap.size)] 106 (aew dg (Cac.new cap ns) ⟨w1.heap.size,a1,c1,fun _=>0,fun _=>(0,0)⟩) (fun i hi=>by
   have:i=0\/i=1\/i=2\/i=3:=by simp at hi;omega
   rcases this with rfl | rfl | rfl | rfl<;>rfl)
  rw[hu,z1] at this
  exact this
 have mp:bW u w1.heap.size D.n (fun _=>none):=(bW.made w1 D.n).kept (b2.block _ (by omega))
 have cc:CcM u (fun k=>w.heap.size<=k/\k<u.heap.size) (w1.heap.size+1) dg D.n D.blk (Cac.new cap ns) ⟨w1.heap.size,a1,c1,fun _=>0,fun _=>(0,0)⟩:=by
  refine⟨str,mp.congr (fun k hk=>rfl),fun b l hb' e=>by simp[Cac.new] at e,fun b l hb' e=>by simp[Cac.new] at e,fun b b' l l' hb' aod e=>by simp[Cac.new] at e,⟨by omega,by omega⟩,⟨hs,by show w1.heap.size<_;omega⟩,fun b l hb' e=>by simp[Cac.new] at e,adH o4,⟨o4.2.1,?_⟩,fun x ex=>?_,fun k hk=>hk.2,hc⟩
  ·have:=o4.2.2.1
   unfold maxLen at this
   show c1<=9223372036854775807
   omega
  ·have ex':a1=some x:=ex
   rcases o4.2.2.2 with ⟨e,_⟩ | ⟨g,cur,e,hg,hh,_⟩
   ·rw[e] at ex';cases ex'
   ·rw[e] at ex'
    cases ex'
    exact⟨⟨hg,(Array.getElem?_eq_some_iff.1 hh).1⟩,cur,hh⟩
 exact⟨fun k=>(w.heap.size<=k/\k<u.heap.size)\/Sd k,⟨_,Sd,_,cc,hd,fun k hk hs'=>by have:=hD.lt hs';omega,fun k=>Iff.rfl⟩,fun k hk=>by
  rcases hk with hk | hk
  ·exact .inr hk.1
  ·exact .inl hk,b3⟩
theorem aiw (dg:Nat)(Sd:Nat->Prop)(D:Dev)(cap:Nat)(a:Option Addr)(len c:Nat)(ns:List Int)(w:World)(hD:Dv w Sd dg D)(hc:1<=cap/\cap<=512)(h:jh w a len ns)(hn:len<=17592186043904)(ha:a=none->c=0/\len=0) :
  Calls Tryz.prog 17 #[.pointer (some ⟨dg,0,none⟩),.int .i64 cap,.slice a len c] w fun e w'=>∃ g,e=.returned (.tuple #[.pointer (some ⟨g,0,none⟩),.int .i64 0])/\Hid (∃ S,Kv w' S g dg (Cac.new cap ns) D/\(∀ k,S k->Sd k\/w.heap.size<=k)/\Below w.heap.size w w'):=by
 have K:=hide (abE a len c ns w h hn ha)
 have KN:Hid (∀ w1 a1 c1,qE w.heap.size w1 a1 len c1 ns->Below w.heap.size w w1->_):=fun w1 a1 c1 ho hb=>af7 (w:=w) (w1:=w1) (len:=len) hD hc ho hb
 have hmm:=@run_makeMap Tryz.prog
 obtain⟨hc1,hc2⟩:=hc
 clear hD h hn ha
 go_enter Tryz.func17,Tryz.ntmps17
 go_wp2_with fail
 go_at_call 45
 refine(ah K).mono ?_
 rintro e w1 ⟨a1,c1,rfl,X⟩
 have X2:=hide (ah KN w1 a1 c1 (ah X).1 (ah X).2)
 clear K KN X
 go_wp2_with fail
 go_ret2
 exact⟨_,rfl,X2⟩
end Go.Proofs.YtefdkpbmeoakgaaGreatDoor
