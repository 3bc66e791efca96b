/- append(b, make([]byte, k)...) of bytes in a row of the call's own. -/
import Derived.Test.YtknmgefpjdfenaaGreatSfGClone
import Derived.Lib.AppendZerosOnto
namespace Go.Proofs.YtknmgefpjdfenaaGreat
set_option maxRecDepth 100000
set_option maxHeartbeats 8000000
open Go.RowKit Go.Shelf
set_option linter.unusedVariables false

theorem zero_cellsB (k:Nat):(Builtin.zeroCells (Value.int .u8 0).cells k).toList=(List.replicate k (0:Int)).map (Value.int .u8):=by
 have e:(Value.int .u8 0).cells=#[.int .u8 0]:=rfl
 rw [e]
 apply List.ext_getElem?
 intro j
 by_cases hj:j < k
 ·simp [Builtin.zeroCells,hj,Nat.mod_one]
 ·simp [Builtin.zeroCells,hj]

theorem under3B:Tryz.prog.underlying 3=some (.int .i64):=by kernel_rfl

theorem run_append_zerosB (B:Nat) (w:World) (ty:TypeId) (a:Option Addr) (n c:Nat) (xs:List Int) (h:Own B w a n c xs) (hB:B ≤ w.heap.size) (k:Nat) (hn:n + k ≤ 17592186044416) :
  ∃ a' c' w',(Builtin.append_ #[34,3] ty #[.slice a n c,.int .i64 (k:Int)]).run Tryz.prog w=.ok (.slice a' (n + k) c') w'∧Own B w' a' (n + k) c' (xs ++ List.replicate k 0) ∧
   (∀ q,q < w.heap.size→(∀ g,a=some ⟨g,0,none⟩→q ≠ g)→w'.heap[q]?=w.heap[q]?)∧Below B w w' ∧
   ((a'=a∧c'=c) ∨ (∃ g',a'=some ⟨g',0,none⟩∧w.heap.size ≤ g')):=by
 obtain ⟨i0,hi,hz0,hz1,hz2⟩:=info_parts info5
 have hmax:n + k ≤ maxLen:=by unfold maxLen; omega
 obtain ⟨h1,h2,h3,h4⟩:=h
 have hw:IntKind.i64.wrap (k:Int)=k:=by rw [IntKind.wrap_i64]; omega
 have hneg:¬ ((k:Int) < 0):=by omega
 have hw0:IntKind.i64.wrap 0=0:=by decide
 by_cases hk0:k=0
 ·subst hk0
  refine ⟨a,c,w,?_,?_,fun _ _ _=>rfl,Below.refl _ _,.inl ⟨rfl,rfl⟩⟩
  ·rcases h4 with ⟨rfl,rfl,rfl⟩ | ⟨g,cur,rfl,hg,hh,hc,ht⟩
   ·simp [Builtin.append_,run_underlying Tryz.underlying34,run_underlying under3B,sizeOf,typeInfo,hi,asInt,asIntOf,hw0,hz2]
   ·have hst:=run_storeCells_at Tryz.prog g n 5 [] 0 cur w hh (by simp; omega) (by simp)
    simp only [Nat.add_zero,List.append_nil,List.length_nil,List.take_append_drop,Array.toArray_toList] at hst
    rw [setRow_self w g cur 5 (0,0) hh] at hst
    simp [Builtin.append_,run_underlying Tryz.underlying34,run_underlying under3B,sizeOf,typeInfo,hi,asInt,asIntOf,hw0,hz1,hz2,h2,Addr.add_lit,hst]
  ·exact ⟨by simp [h1],h2,h3,by simpa using h4⟩
 ·have grow:∀ olds:List Value,olds=xs.map (Value.int .u8)→c < n + k→(Builtin.firstCells i0.size n (.slice a n c)).run Tryz.prog w.drew=.ok olds.toArray w.drew→∃ a' c' w',(Builtin.append_ #[34,3] ty #[.slice a n c,.int .i64 (k:Int)]).run Tryz.prog w=.ok (.slice a' (n + k) c') w'∧Own B w' a' (n + k) c' (xs ++ List.replicate k 0) ∧
   (∀ q,q < w.heap.size→(∀ g,a=some ⟨g,0,none⟩→q ≠ g)→w'.heap[q]?=w.heap[q]?)∧Below B w w' ∧
   ((a'=a∧c'=c) ∨ (∃ g',a'=some ⟨g',0,none⟩∧w.heap.size ≤ g')):=by
   intro olds ho hc hf
   have hcap:Builtin.nextslicecap (n + k) c ≤ 2 * (n + k):=nextslicecap_le (by omega)
   have hr:=Lib.run_append_grow_zeros (P:=Tryz.prog) w 34 3 ty 5 i0 (.int .u8 0) .i64 .i64 Tryz.underlying34 under3B hi hz0 a n c olds hf k (by omega) (by rw [hz1]; omega) hc (by unfold maxLen at hmax; omega) (by rw [hz2]; omega) (by rw [hz2]; omega)
   have hge:=grownCap_ge w (n + k) c 5
   have hle:=grownCap_le_maxLen w (n + k) c 5 hmax
   refine ⟨_,_,_,hr,⟨by simp [h1],hge,hle,.inr ⟨w.heap.size,_,rfl,hB,World.alloc_heap_new w.drew _,?_,?_⟩⟩,fun q hq _=>Below.heap_alloc w.drew _ q hq,?_,.inr ⟨w.heap.size,rfl,Nat.le_refl _⟩⟩
   ·have e1:olds.length=n:=by rw [ho,List.length_map,h1]
    simp only [Array.size_append,List.size_toArray,e1,size_zeroCells]
    simp only [show (Value.int .u8 0).cells.size=1 from rfl]
    omega
   ·have e1:(olds.toArray ++ Builtin.zeroCells (Value.int .u8 0).cells k).toList=(xs ++ List.replicate k 0).map (Value.int .u8):=by
     rw [Array.toList_append,zero_cellsB,ho,List.map_append,List.toList_toArray]
    have e2:((xs ++ List.replicate k 0).map (Value.int .u8)).length=n + k:=by simp [h1]
    rw [Array.toList_append,e1,List.take_append_of_le_length (by omega),List.take_of_length_le (by omega)]
   ·exact ((Below.refl B w).drew).alloc hB _
  rcases h4 with ⟨rfl,rfl,rfl⟩ | ⟨g,cur,rfl,hg,hh,hc,ht⟩
  ·have hx:xs=[]:=List.eq_nil_of_length_eq_zero h1
   subst hx
   exact grow [] rfl (by omega) (by simp [Builtin.firstCells])
  ·by_cases hroom:n + k ≤ c
   ·have hzl:((Builtin.zeroCells (Value.int .u8 0).cells k).toList).length=k:=by rw [zero_cellsB]; simp
    have hst:=run_storeCells_at Tryz.prog g n 5 (Builtin.zeroCells (Value.int .u8 0).cells k).toList 0 cur w hh (by rw [hzl]; omega) (by
     rw [zero_cellsB]
     intro v hv
     simp at hv
     rw [hv.2]; rfl)
    simp only [Nat.add_zero,hzl] at hst
    refine ⟨some ⟨g,0,none⟩,c,w.setRow g (cur.toList.take n ++ (Builtin.zeroCells (Value.int .u8 0).cells k).toList ++ cur.toList.drop (n + k)).toArray,?_,⟨by simp [h1],hroom,h3,.inr ⟨g,_,rfl,hg,setRow_heap w g cur _ 5 _ hh,?_,?_⟩⟩,fun q _ hq=>setRow_other w g q _ (hq g rfl),below_setRow (Below.refl _ _) hg _,.inl ⟨rfl,rfl⟩⟩
    ·simp [Builtin.append_,run_underlying Tryz.underlying34,run_underlying under3B,sizeOf,typeInfo,zeroValue,hi,hz0,asInt,asIntOf,hw,hz1,hz2,hroom,hneg,hk0,Addr.add_lit]
     have h48j:¬ (281474976710656 < (k:Int)):=by omega
     simp [h48j,hst]
    ·simp only [List.size_toArray,List.length_append,List.length_take,List.length_drop,Array.length_toList,hzl]
     omega
    ·rw [List.toList_toArray,zero_cellsB]
     have e0:cur.toList.take n=xs.map (Value.int .u8):=ht
     have e2:((xs.map (Value.int .u8)) ++ (List.replicate k (0:Int)).map (Value.int .u8)).length=n + k:=by simp [h1]
     rw [e0,List.take_append_of_le_length (by omega),List.take_of_length_le (by omega),List.map_append]
   ·refine grow (xs.map (Value.int .u8)) rfl (by omega) ?_
    have hl:(xs.map (Value.int .u8)).length=n * i0.size:=by rw [hz1]; simp [h1]
    refine run_firstCells_some (P:=Tryz.prog) w.drew i0.size n ⟨g,0,none⟩ n c (xs.map (Value.int .u8)) hl ?_
    intro j u hj
    rw [World.add_zero_spot,Nat.zero_add]
    have hjl:j < n:=by have:=(List.getElem?_eq_some_iff.1 hj).1; simp at this; omega
    rw [← ht,List.getElem?_take_of_lt hjl] at hj
    show w.cell? _=_
    simp only [World.cell?,hh]
    simpa using hj

end Go.Proofs.YtknmgefpjdfenaaGreat
