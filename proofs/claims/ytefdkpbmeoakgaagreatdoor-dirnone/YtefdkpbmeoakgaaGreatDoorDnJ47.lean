/- Joined: FSt, FIn. -/
import Derived.Test.YtefdkpbmeoakgaaGreatDoorDnJ40
import Derived.Test.YtefdkpbmeoakgaaGreatDoorDnJ39
import Derived.Test.YtefdkpbmeoakgaaGreatDoorDnJ9
import Derived.Deep.RegionHeld3
import Derived.LoopN
import Derived.BigRegion
import Derived.Laws.EntriesVeiled
import Derived.Test.YtefdkpbmeoakgaaGreatDoorDnJ37
import Derived.Test.YtefdkpbmeoakgaaGreatDoorDnFRng
import Derived.Laws.ResultCell
/- The files of package file's laws at their start; the way of a Read and a Write of one piece: pieces. -/
namespace Go.Proofs.YtefdkpbmeoakgaaGreatDoor
set_option maxRecDepth 100000
set_option maxHeartbeats 8000000
open Go.RowKit Go.Shelf Go.Maps
set_option linter.unusedVariables false
attribute [local go_sem] Oper.semAt_some
theorem vV (F:Fence)(n:Nat)(hfn:F.fn 131)(hro:F.round=none)(b at0 k:Int)(w:World) :
  CallsIn F n Tryz.prog 131 #[.int .i64 b,.int .i64 at0,.int .i64 k] w fun e w'=>e=.returned (.func (.func 170) #[] #[.pointer (some ⟨w.heap.size+1+1,0,none⟩),.pointer (some ⟨w.heap.size+1,0,none⟩),.pointer (some ⟨w.heap.size,0,none⟩)])/\w'=((w.alloc (zI b)).alloc (zI at0)).alloc (zI k):=by
 refine callsIn_of_wp Tryz.func131 rfl hfn ?_ hro
 simp only[Tryz.ntmps131,List.size_toArray,List.length_cons,List.length_nil,Nat.reduceAdd,Nat.reduceSub,Array.replicate_succ,Array.replicate_zero,List.push_toArray,List.append_toArray,List.nil_append,List.cons_append]
 gi_wp2
 go_ret
 exact⟨rfl,rfl⟩
theorem oN (F:Fence)(n:Nat)(hfn:F.fn 170)(hro:F.round=none)(hn:1<=n)(l kn ka kb:Nat)(b at0 k:Int)(hb:0<b/\b<=4096)(ha:0<=at0/\at0<=1000000)(hk:0<k/\at0%b+k<=b)(T:World->Prop)(W:World)
  (c1:W.cell? ⟨kn,0,none⟩=some (.int .i64 k)) (c2:W.cell? ⟨ka,0,none⟩=some (.int .i64 at0)) (c3:W.cell? ⟨kb,0,none⟩=some (.int .i64 b))
  (hY:YieldAt F (n - 1) Tryz.prog l #[.agg #[.int .i64 (at0 / b),.int .i64 (at0%b),.int .i64 (at0%b+k),.int .i64 0]] W (fun e W'=>e=.returned (.bool true)/\W'.cell? ⟨kn,0,none⟩=some (.int .i64 k)/\T W')) :
  CallsIn F n Tryz.prog 170 #[.func (.yield l) #[] #[],.pointer (some ⟨kn,0,none⟩),.pointer (some ⟨ka,0,none⟩),.pointer (some ⟨kb,0,none⟩)] W fun e W'=>(∃ v,e=.returned v)/\T W':=by
 have hr0:0<=at0%b/\at0%b<b:=⟨Int.emod_nonneg _ (by omega),Int.emod_lt_of_pos _ hb.1⟩
 have hq0:0<=at0 / b/\at0 / b<=1000000:=⟨Int.ediv_nonneg ha.1 (by omega),Int.le_trans (Int.ediv_le_self _ ha.1) ha.2⟩
 have e1:at0+0=at0:=by omega
 have ed:at0.tdiv b=at0 / b:=Int.tdiv_eq_ediv_of_nonneg ha.1
 have em:at0.tmod b=at0%b:=Int.tmod_eq_emod_of_nonneg ha.1
 generalize hr:at0%b=rr at *
 generalize hq:at0 / b=qq at *
 have hmin:min b (rr+k - 0)=rr+k:=by omega
 have aml:min b (rr+k)=rr+k:=by omega
 have hb0:b≠0:=by omega
 have HQ:=hide (And.intro hr hq)
 clear hr hq
 obtain⟨fn,tmps,assign,body,hy,hYd⟩:=hY
 refine callsIn_of_wp Tryz.func170 rfl hfn ?_ hro
 simp only[Tryz.ntmps170,List.size_toArray,List.length_cons,List.length_nil,Nat.reduceAdd,Nat.reduceSub,Array.replicate_succ,Array.replicate_zero,List.push_toArray,List.append_toArray,List.nil_append,List.cons_append]
 gi_wp2
 gi_loopw [5] (fun i wr=>(i=.int .i64 0/\wr=W)\/(i=.int .i64 k/\wr.cell? ⟨kn,0,none⟩=some (.int .i64 k)/\Hid (T wr))) (fun i _=>(4097 - intOf i).toNat)
 case atStart=>exact .inl ⟨rfl,rfl⟩
 case round =>
  rcases hrel with ⟨rfl,rfl⟩ | ⟨rfl,c4,ht⟩
  ·have h1:(0:Int)<k:=hk.1
   gi_wp2
   refine hYd.mono ?_
   rintro e W3 ⟨rfl,c4,h3⟩
   have HT:=hide h3
   clear c1 c2 c3 h3
   gi_wp2
   go_roundw
   case rel=>exact .inr ⟨by go_num,c4,HT⟩
   case measure=>simp[intOf];omega
  ·gi_wp2
   go_end0
   exact⟨⟨_,rfl⟩,ah ht⟩
attribute [local go_sem] Oper.semAt_some
theorem fH {F:Fence}{n:Nat}{P:Program}{ops:Array Oper}{rest:List Oper}{o:Oper}{a:Act}{w:World}{Q:Exit->Act->World->Prop}(hg:o.guard=none)(ty:TypeId)(x y:Operand)(ho:o.op=.store ty x y)
  (g:Nat) (cells:Array Value) (hx:a.eval x=.pointer (some ⟨g,0,none⟩)) (hy:a.eval y=.agg cells) (t:TypeId) (old:Array Value) (hh:w.heap[g]?=some (.cells old t)) (hi:(P.info? ty).map (·.size)=some cells.size)
  (hold:old.size=cells.size) (h1:cells.all (·.oneCell')=true) (h:wpListIn F n P ops Q rest (a.put o.dst undef) (w.setRow g cells)):wpListIn F n P ops Q (o::rest) a w:=by
 refine wpListIn_plain hg fun K hK=>?_
 unfold Oper.wpIn
 refine⟨by simp[Oper.about,ho],?_⟩
 rw[Oper.semAt_plain F _ _ (by rw[ho];intro c hc;cases hc)]
 simp only[execOp,ho,hx,hy,Instr.storeAt,Instr.sureAddr,Sem.run_bind,Sem.run_pure,Result.andThen_ok,run_storeVar_row w g t ty old cells hh hi hold h1]
 exact hK _ _ h
end Go.Proofs.YtefdkpbmeoakgaaGreatDoor
