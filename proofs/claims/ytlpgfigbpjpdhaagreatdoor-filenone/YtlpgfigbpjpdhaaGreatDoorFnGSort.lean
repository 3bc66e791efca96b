/- slices.Sort at numbers, and an append of one number. -/
import Derived.Test.YtlpgfigbpjpdhaaGreatDoorFnJ8
import Derived.Shelf.SortM.Plain
import Derived.Shelf.SortM.SortNone
import Derived.Sort.OwnSortedInts
namespace Go.Proofs.YtlpgfigbpjpdhaaGreatDoor
set_option maxRecDepth 100000
set_option maxHeartbeats 8000000
open Go.RowKit Go.Shelf Go.Maps
set_option linter.unusedVariables false
shelf_lay_g SlLaysM.n5 Slgm 5 at Tryz 42 as Tryz.sortL
def srt (zs:List Int):List Int:=zs.mergeSort fun x y=>decide (x<=y)
theorem ac7 (zs:List Int):(srt zs).length=zs.length:=List.length_mergeSort zs
theorem aeV (zs:List Int):(srt zs).Perm zs:=List.mergeSort_perm _ _
theorem akr:∀ a b c:Int,decide (a<=b)=true->decide (b<=c)=true->decide (a<=c)=true:=fun a b c h1 h2=>by simp only[decide_eq_true_eq] at *;omega
theorem aks:∀ a b:Int,(decide (a<=b)||decide (b<=a))=true:=fun a b=>by simp only[Bool.or_eq_true,decide_eq_true_eq];omega
theorem aaQ (zs:List Int):(srt zs).Pairwise (fun a b=>decide (a<=b)=true):=List.pairwise_mergeSort akr aks zs
theorem ac8 {zs ts:List Int}(h:zs.Perm ts)(hs:ts.Pairwise (·<=·)):srt zs=ts:=by
 refine List.Perm.eq_of_pairwise (le:=fun a b=>decide (a<=b)=true) (fun a b _ _ h1 h2=>?_) (aaQ zs) (hs.imp (fun h=>by simpa using h)) ((aeV zs).trans h)
 simp only[decide_eq_true_eq] at h1 h2
 omega
theorem kC (B:Nat)(v:Value)(zs:List Int)(w:World)(h:Gr B w v zs)(hn:zs.length<=17592186044416)(hB:B<=w.heap.size) :
  Calls Tryz.prog 42 #[v] w fun e w'=>e=.returned (.tuple #[])/\Gr B w' v (srt zs)/\Below B w w':=by
 obtain⟨h1,h2⟩:=h
 rcases h2 with ⟨rfl,h0⟩ | ⟨g,cap,cur,rfl,hg,hh,h2,h3,hc,ht⟩
 ·obtain rfl:zs=[]:=List.eq_nil_of_length_eq_zero h0
  have:=AnyM.slices_Sort_int_none Tryz.sortL none 0 w
  change Calls Tryz.prog 42 _ _ _ at this
  refine this.mono ?_
  rintro e w' ⟨rfl,rfl⟩
  have e0:srt []=[]:=by simp[srt]
  exact⟨rfl,by rw[e0];exact World.ownsRow_nil _ _ _ _,Below.refl _ _⟩
 ·have hH:Go.Sort.Holds (Value.int .i64) w g 0 zs.toArray:=holds_of_blockI hh (by simpa using ht)
  have hl:g<w.heap.size:=(Array.getElem?_eq_some_iff.1 hh).1
  have:=AnyM.slices_Sort_int Tryz.sortL g 0 cap zs w hH hl (by omega)
  change Calls Tryz.prog 42 _ _ _ at this
  refine this.mono ?_
  rintro e w' ⟨rfl,n,os,rfl⟩
  refine⟨rfl,?_,(Below.refl B w).grown (grownBy_sortedI _) hB (fun k e=>by cases e;exact hg)⟩
  have:=ownsRow_sortedI (n:=n) (os:=os) (ss:=zs) (ts:=srt zs) (ac7 zs) hg hh h2 h3 hc
  unfold Gr
  rw[ac7]
  exact this
theorem Gr.one {B u v L}(h:Gr B u v L)(hB:B<=u.heap.size)(hl:L.length+1<=17592186044416)(x:Int) :
  ∃ v' w',(∀ ty,(Builtin.append_ #[34,34] ty #[v,.slice (some ⟨u.heap.size,0,none⟩) 1 1]).run Tryz.prog (u.alloc (zI x))=.ok v' w')/\Gr B w' v' (L++[x])/\Below B u w'/\(∀ k,k<u.heap.size->v.ownBlock≠some k->w'.heap[k]?=u.heap[k]?):=by
 obtain⟨i0,hi,hz0,hz1,hz2⟩:=info_parts info3
 have hb:Below u.heap.size u (u.alloc (zI x)):=(Below.refl _ _).alloc (Nat.le_refl _) _
 have hr:=World.rowIs_alloc u #[.int .i64 x] 3 (fun j=>.int .i64 x) (fun j hj=>by
  have:j=0:=by simp at hj;omega
  subst this;rfl)
 obtain⟨v',w',hrun,ho,hg,_⟩:=run_append_own (P:=Tryz.prog) (u.alloc (zI x)) B 34 0 3 i0 (.int .i64 0) 1 8 Tryz.underlying34 hi hz0 hz1 hz2 rfl (by decide) v L.length _ (h.later hb) ⟨u.heap.size,0,none⟩ 1 1 [.int .i64 x] rfl (by
   intro j z hj
   rw[World.aB,Nat.zero_add]
   have hj2:j=0:=by have:=(List.getElem?_eq_some_iff.1 hj).1;simp at this;omega
   rw[hr.cell (i:=j) (by simp;omega)]
   subst hj2;simpa using hj) (by intro z hz;simp at hz;subst hz;rfl) (by unfold maxLen;omega) (by omega) (Nat.le_trans hB hb.size)
 refine⟨v',w',fun ty=>hrun,?_,?_,fun k hk hne=>?_⟩
 ·unfold Gr
  rw[List.map_append,List.length_append]
  exact ho
 ·exact(hb.mono hB).grown hg (Nat.le_trans hB hb.size) (fun k e=>((h.later hb).lt k e).1)
 ·exact(hg.block k (Nat.lt_of_lt_of_le hk hb.size) (fun e=>hne e.symm)).trans (hb.block k hk)
end Go.Proofs.YtlpgfigbpjpdhaaGreatDoor
