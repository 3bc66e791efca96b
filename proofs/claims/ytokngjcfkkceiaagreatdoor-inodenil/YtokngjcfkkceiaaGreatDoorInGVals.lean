/- slices.Sorted(slices.Values(list)) at numbers: a sorted copy. -/
import Derived.Test.YtokngjcfkkceiaaGreatDoorInGSort
import Derived.Shelf.SlIterI.Sorted
import Derived.RangeFuncBox
import Derived.RangeFuncLeaves
import Derived.Shelf.Abstract
import Derived.OwnWalkIn
import Derived.TacticsInMore
import Derived.LoopNIn
import Derived.LoopIn
namespace Go.Proofs.YtokngjcfkkceiaaGreatDoor
set_option maxRecDepth 100000
set_option maxHeartbeats 8000000
open Go.RowKit Go.Shelf Go.Maps Go.Sort
set_option linter.unusedVariables false
attribute [local go_sem] Oper.semAt_some

shelf_lay_g SlLaysZI.n6 Ggz 6 at Tryz 99 as Tryz.sortedL

def came (zs:List Int) (k:Nat):List Int:=(List.range k).map (fun j=>zs[j]?.getD 0)

theorem came_succ (zs:List Int)(k:Nat):came zs (k+1)=came zs k++[zs[k]?.getD 0]:=by simp[came,List.range_succ]

theorem came_len (zs:List Int)(k:Nat):(came zs k).length=k:=by simp[came]

theorem came_all (zs:List Int):came zs zs.length=zs:=by
 apply List.ext_getElem
 ·simp[came]
 ·intro i h1 h2
  simp[came,h2]

theorem vals_in (F:Fence)(n:Nat)(hF:F.fn 232)(hro:F.round=none)(hn:1≤n)(l Bs b off len cap:Nat)(zs:List Int)(hreach:len*8≤140737488351232)(n0:Nat)(hb:b<n0)(J Jx:List Int→World→Prop)
  (hY:∀ pre x W,J pre W→pre.length<len→YieldAt F (n - 1) Tryz.prog l #[.int .i64 x] W fun e W'=>(e=.returned (.bool true)∧J (pre++[x]) W'∧Below n0 W W')∨(e=.returned (.bool false)∧Jx (pre++[x]) W'))
  (W:World) (hBs:W.cell? ⟨Bs,0,none⟩=some (.slice (some ⟨b,off,none⟩) len cap)) (hc:∀ j,j<len→W.cell? ⟨b,off+j,none⟩=some (.int .i64 (zs[j]?.getD 0))) (h0:J [] W) :
  CallsIn F n Tryz.prog 232 #[.func (.yield l) #[] #[],.pointer (some ⟨Bs,0,none⟩)] W fun e W'=>(∃ v,e=.returned v)∧(J (came zs len) W'∨∃ pre,Jx pre W'):=by
 refine callsIn_of_wp Tryz.func232 rfl hF ?_ hro
 simp only[Tryz.ntmps232,List.size_toArray,List.length_cons,List.length_nil,Nat.reduceAdd,Nat.reduceSub,Array.replicate_succ,Array.replicate_zero,List.push_toArray,List.append_toArray,List.nil_append,List.cons_append]
 gi_wp2
 gi_loopw [7] (fun i wr=>∃ k:Nat,k≤len∧i=.int .i64 k∧J (came zs k) wr∧Below n0 W wr)
  (fun i _=>len - (intOf i).toNat)
 case atStart=>exact⟨0,Nat.zero_le _,rfl,h0,Below.refl _ _⟩
 case round =>
  obtain⟨k,hk,rfl,hJs,hnx⟩:=hrel
  by_cases hlt:k<len
  ·have hcx:wr.cell? ⟨b,off+k,none⟩=some (.int .i64 (zs[k]?.getD 0)):=(hnx.cell (p:=⟨b,off+k,none⟩) hb).trans (hc k hlt)
   obtain⟨fn,tmps,assign,body,hy,hR⟩:=hY _ (zs[k]?.getD 0) wr hJs (by rw[came_len];exact hlt)
   gi_wp2
   refine hR.mono ?_
   rintro e W3 (⟨rfl,hJ3,hk3⟩ | ⟨rfl,hJ3⟩)
   ·gi_wp2
    go_roundw
    case rel=>exact⟨k+1,by omega,by simp,by rw[came_succ];exact hJ3,hnx.trans hk3⟩
    case measure=>simp[intOf];omega
   ·gi_wp2
    refine bodyPost_ret (results_none rfl _ _ _) rfl ?_
    exact⟨⟨_,rfl⟩,.inr ⟨_,hJ3⟩⟩
  ·obtain rfl:k=len:=by omega
   gi_wp2
   go_end0
   exact⟨⟨_,rfl⟩,.inl hJs⟩

theorem vals_nil_in (F:Fence)(n:Nat)(hF:F.fn 232)(hro:F.round=none)(l Bs:Nat)(a:Option Addr)(cap:Nat)(J:List Int→World→Prop)(W:World)(hBs:W.cell? ⟨Bs,0,none⟩=some (.slice a 0 cap))(h0:J [] W) :
  CallsIn F n Tryz.prog 232 #[.func (.yield l) #[] #[],.pointer (some ⟨Bs,0,none⟩)] W fun e W'=>(∃ v,e=.returned v)∧J [] W':=by
 refine callsIn_of_wp Tryz.func232 rfl hF ?_ hro
 simp only[Tryz.ntmps232,List.size_toArray,List.length_cons,List.length_nil,Nat.reduceAdd,Nat.reduceSub,Array.replicate_succ,Array.replicate_zero,List.push_toArray,List.append_toArray,List.nil_append,List.cons_append]
 gi_wp2
 gi_loopw [7] (fun i wr=>i=.int .i64 0∧J [] wr) (fun _ _=>0)
 case atStart=>exact⟨rfl,h0⟩
 case round =>
  obtain⟨rfl,hJs⟩:=hrel
  gi_wp2
  go_end0
  exact⟨⟨_,rfl⟩,hJs⟩

theorem vals_stops (F:Fence)(n:Nat)(hF:F.fn 232)(hro:F.round=none)(hn:1≤n)(Bs:Nat)(a:Option Addr)(cap:Nat)(zs:List Int)(hreach:zs.length*8≤140737488351232)(n0:Nat)(w:World)(hn0:n0≤w.heap.size)(hI:IHas w a zs.length zs)(hal:∀ x,a=some x→0<zs.length→x.block<n0)(hBl:Bs<w.heap.size)(hBs:w.cell? ⟨Bs,0,none⟩=some (.slice a zs.length cap)) :
  SeqStopsK F n Tryz.prog 232 #[.pointer (some ⟨Bs,0,none⟩)] (fun x:Int=>#[Value.int .i64 x]) (Below n0) (fun ys=>ys=zs) (fun _=>True) zs.length w:=fun l J Jx W hW _ _ hY h0=>by
 have hB:=(hW.cell (p:=⟨Bs,0,none⟩) hBl).trans hBs
 by_cases hp:0<zs.length
 ·obtain⟨b,off,rfl,hc⟩:=hI.2 hp
  refine(vals_in F n hF hro hn l Bs b off zs.length cap zs hreach n0 (hal _ rfl hp) J Jx hY W hB (fun j hj=>(hW.cell (p:=⟨b,off+j,none⟩) (hI.lt hp rfl)).trans (hc j hj)) h0).mono ?_
  rintro e W' ⟨h1,h2 | ⟨pre,h2⟩⟩
  ·exact⟨h1,.inl ⟨_,came_all zs,h2⟩⟩
  ·exact⟨h1,.inr ⟨pre,trivial,h2⟩⟩
 ·have h0':zs.length=0:=by omega
  obtain rfl:zs=[]:=List.eq_nil_of_length_eq_zero h0'
  refine(vals_nil_in F n hF hro l Bs a cap J W hB h0).mono ?_
  rintro e W' ⟨h1,h2⟩
  exact⟨h1,.inl ⟨_,rfl,h2⟩⟩

theorem values_any (a:Option Addr)(len cap:Nat)(w:World) :
  Calls Tryz.prog 208 #[.slice a len cap] w fun e w'=>e=.returned (.func (.func 232) #[] #[.pointer (some ⟨w.heap.size,0,none⟩)])∧w'=w.alloc (.cells #[.slice a len cap] 22):=by
 go_enter Tryz.func208,Tryz.ntmps208
 go_wp2
 go_ret
 exact⟨rfl,rfl⟩

theorem gr_kept {B:Nat}{v:Value}{L:List Int}{W W':World}{row:Option Nat}(h:Gr B W v L)(hg:W.grownBy W' row)(hr:∀ r,row=some r→∃ o:Obj,W.heap[r]?=some o∧o.isCells=false):Gr B W' v L:=by
 obtain⟨h1,h2⟩:=h
 refine⟨h1,?_⟩
 rcases h2 with h2 | ⟨g,cap,cur,rfl,hB,hh,r⟩
 ·exact .inl h2
 ·exact .inr ⟨g,cap,cur,rfl,hB,heap_kept hh hg hr,r⟩

theorem wpListIn_append_run {F:Fence}{n:Nat}{w w':World}{ops:Array Oper}{rest:List Oper}{o:Oper}{a:Act}{Q:Exit→Act→World→Prop}(t:TypeId)(hgd:o.guard=none)(d s:Operand)
  (ho:o.op=.call { callee:=.builtin .append,args:=#[d,s],argTypes:=#[t,t] }) (v x v':Value) (hd:a.eval d=v) (hs:a.eval s=x)
  (hrun:∀ ty,(Builtin.append_ #[t,t] ty #[v,x]).run Tryz.prog w=.ok v' w')
  (h:wpListIn F n Tryz.prog ops Q rest (a.put o.dst v') w'):wpListIn F n Tryz.prog ops Q (o::rest) a w:=by
 refine wpListIn_plain hgd fun K hK=>?_
 have hr:=hrun o.type
 unfold Oper.wpIn
 refine⟨?_,?_⟩
 ·simp[Oper.about,ho,resolve,Target.leads,Sem.run_pure]
 ·rw[Oper.semAt_plain F _ _ (by rw[ho];intro c hc;cases hc)]
  simp[execOp,ho,resolve,invoke,builtin,hd,hs,hr,Result.andThen]
  exact hK _ _ h

theorem aseq_round {B:Nat}{W:World}{v:Value}{L:List Int}(hv:W.heap[B]?=some (.cells #[v] 22 (0,0)))(hg:Gr B W v L)(hl:L.length+1≤17592186044416)(x:Int) :
  ∃ a' c' w3,(∀ ty,(Builtin.append_ #[22,22] ty #[v,.slice (some ⟨W.heap.size,0,none⟩) 1 1]).run Tryz.prog (W.alloc (.cells #[.int .i64 x] 3))=.ok (.slice a' (L.length+1) c') w3)∧w3.cell? ⟨B,0,none⟩=some v∧w3.frozen? ⟨B,0,none⟩=false ∧
   Hid (KeepsOthers W w3∧Below B W w3∧(∃ v2,(w3.setCell ⟨B,0,none⟩ (.slice a' (L.length+1) c')).heap[B]?=some (.cells #[v2] 22 (0,0))∧Gr B (w3.setCell ⟨B,0,none⟩ (.slice a' (L.length+1) c')) v2 (L++[x]))):=by
 have hBlt:B<W.heap.size:=(Array.getElem?_eq_some_iff.1 hv).1
 have hob:v.ownBlock≠some B:=fun e=>by
  obtain⟨_,x2⟩:=hg
  rcases x2 with ⟨rfl,_⟩ | ⟨g,cap,cur,rfl,_,hh,_⟩
  ·simp[Value.ownBlock] at e
  ·simp[Value.ownBlock] at e
   rw[e,hv] at hh
   simp at hh
 obtain⟨v',w3,hr,g3,b3,o3⟩:=hg.one (Nat.le_of_lt hBlt) hl x
 have hv3:w3.heap[B]?=some (.cells #[v] 22 (0,0)):=(o3 B hBlt hob).trans hv
 have hsh:=g3.own
 rw[List.length_append,List.length_singleton] at hsh
 obtain⟨a',c',rfl,io⟩:=hsh
 refine⟨a',c',w3,hr,cell_box hv3,by simp[World.frozen?,hv3],⟨b3.size,fun k o hk ho=>?_⟩,b3,.slice a' (L.length+1) c',?_,?_⟩
 ·refine(o3 k (Array.getElem?_eq_some_iff.1 hk).1 (fun e=>?_)).trans hk
  obtain⟨_,x2⟩:=hg
  rcases x2 with ⟨rfl,_⟩ | ⟨g,cap,cur,rfl,_,hh,_⟩
  ·simp[Value.ownBlock] at e
  ·simp[Value.ownBlock] at e
   subst e
   rw[hh] at hk
   cases hk
   cases ho
 ·exact heap_setCell_box_a _ hv3
 ·obtain⟨x1,x2⟩:=g3
  refine⟨x1,?_⟩
  rcases x2 with x2 | ⟨g,cap,cur,e,hB,hh,r⟩
  ·exact .inl x2
  ·refine .inr ⟨g,cap,cur,e,hB,(Below.heap_setCell _ _ _ _ (fun e'=>?_)).trans hh,r⟩
   have e'':g=B:=e'
   rw[e'',hv3] at hh
   simp at hh

theorem aseq_in (Bs:Nat)(a:Option Addr)(cap:Nat)(zs:List Int)(hreach:zs.length*8≤140737488351232)(w:World)(hI:IHas w a zs.length zs)(hal:∀ x,a=some x→0<zs.length→x.block<w.heap.size)(hBl:Bs<w.heap.size)(hBs:w.cell? ⟨Bs,0,none⟩=some (.slice a zs.length cap)) :
  CallsIn Fence.wide 3 Tryz.prog 194 #[.slice none 0 0,.func (.func 232) #[] #[.pointer (some ⟨Bs,0,none⟩)]] w fun e w'=>∃ v,e=.returned v∧Gr w.heap.size w' v zs∧Below w.heap.size w w':=by
 have h1:1≤3:=by omega
 obtain⟨i0,hi,hz0,hz1,hz2⟩:=info_parts info3
 have b0:Below w.heap.size w (w.alloc (.cells #[.slice none 0 0] 22)):=(Below.refl _ w).alloc (Nat.le_refl _) _
 have hv0:(w.alloc (.cells #[.slice none 0 0] 22)).heap[w.heap.size]?=some (.cells #[.slice none 0 0] 22 (0,0)):=World.alloc_heap_new w _
 refine callsIn_of_wp_marks Tryz.func194 rfl trivial ?_ rfl
 simp only[Tryz.ntmps194,List.size_toArray,List.length_cons,List.length_nil,Nat.reduceAdd,Nat.reduceSub,Array.replicate_succ,Array.replicate_zero,List.push_toArray,List.append_toArray,List.nil_append,List.cons_append]
 gi_wp2
 refine wpIn_rangeFunc_ownG rfl h1 (gf:=232) (lb:=#[.pointer (some ⟨Bs,0,none⟩)]) rfl trivial (enters_of Tryz.func232 (by kernel_rfl) rfl)
  (vals_stops Fence.wide 2 trivial rfl (by omega) Bs a cap zs hreach w.heap.size (w.alloc (.cells #[.slice none 0 0] 22)) b0.size (hI.later b0) hal (by simp;omega) ((b0.cell (p:=⟨Bs,0,none⟩) hBl).trans hBs))
  (fun h k=>h.trans k) (fun W l o o' hl h1 h2 h3=>belowK_b (w:=w) (Nat.le_refl _) W l o o' (by simp at hl;omega) h1 h2 h3) (Below.refl _ _) (fun _=>rfl)
  (fun pre W=>(∃ v,W.heap[w.heap.size]?=some (.cells #[v] 22 (0,0))∧Gr w.heap.size W v pre)∧Below w.heap.size w W)
  (fun _ _ _=>False)
  (OwnFrom.and (Own.from (fun s A B row hs hg hr=>by obtain⟨v,x1,x2⟩:=hs;exact⟨v,heap_kept x1 hg hr,gr_kept x2 hg hr⟩) _) (ownFrom_below (Nat.le_refl _) (by simp)))
  (fun _ _ _ _ _ hs _ _=>hs)
  ⟨⟨_,hv0,World.ownsRow_nil _ _ _ _⟩,b0⟩
  (fun x=>{ tmps:=#[.slice none 0 0,.func (.func 232) #[] #[.pointer (some ⟨Bs,0,none⟩)],.pointer (some ⟨w.heap.size,0,none⟩),undef,.slice none 0 0,.int .i64 x,.func (.func 232) #[] #[.pointer (some ⟨Bs,0,none⟩)],.int .i64 x,undef,undef,undef,undef,undef],defers:=[] }) ?assign ?body ?done ?stop
 case assign =>
  intro l x W K hK
  gi_wp2
  exact hK
 case body =>
  rintro l pre x W ⟨⟨v,hv,hg⟩,hB⟩ hlt
  have hc2:=cell_box hv
  have hf2:W.frozen? ⟨w.heap.size,0,none⟩=false:=by simp[World.frozen?,hv]
  obtain⟨a',c',w3,r3,hc3,hf3,X3⟩:=aseq_round hv hg (by omega) x
  have R3:=hide r3
  clear r3 hv hg
  gi_wp2_with (gi_at_builtin;refine wpListIn_append_run 22 rfl _ _ rfl _ _ _ rfl rfl (unhide R3) ?_;clear R3)
  obtain⟨k3,b3,x3⟩:=unhide X3
  exact⟨(k3.trans (KeepsOthers.setCell _ _ _)).from _,b3.setCell (p:=⟨w.heap.size,0,none⟩) (Nat.le_refl _) _,x3,(hB.trans b3).setCell (p:=⟨w.heap.size,0,none⟩) (Nat.le_refl _) _⟩
 case done =>
  rintro D ys W hD rfl ⟨⟨v,hv,hg⟩,hB⟩ hK
  have hc2:=cell_box hv
  have hg':W.ownsRow w.heap.size 3 1 v ys.length (ys.map (Value.int .i64)):=hg
  gi_wp2
  refine⟨by simp,.inl ⟨_,_,rfl,run_takeDeferred hK,?_⟩⟩
  refine⟨_,results_tmp rfl _ _ _,v,rfl,?_,hB.trans (belowK_b (w:=w) (Nat.le_refl _) W D _ _ (by simp at hD;omega) hK rfl rfl)⟩
  refine gr_kept hg (row:=some D) ?_ (fun r e=>by cases e;exact⟨_,hK,rfl⟩)
  exact grownBy_putObj_a _ _ _
 case stop =>
  rintro D c pre W _ _ h _
  exact h.elim

theorem collect_any (Bs:Nat)(a:Option Addr)(cap:Nat)(zs:List Int)(hreach:zs.length*8≤140737488351232)(w:World)(hI:IHas w a zs.length zs)(hal:∀ x,a=some x→0<zs.length→x.block<w.heap.size)(hBl:Bs<w.heap.size)(hBs:w.cell? ⟨Bs,0,none⟩=some (.slice a zs.length cap)) :
  Calls Tryz.prog 144 #[.func (.func 232) #[] #[.pointer (some ⟨Bs,0,none⟩)]] w fun e w'=>∃ v,e=.returned v∧Gr w.heap.size w' v zs∧Below w.heap.size w w':=by
 have K:=hide (callsIn_wide.1 (aseq_in Bs a cap zs hreach w hI hal hBl hBs))
 clear hI hal hBs
 go_enter Tryz.func144,Tryz.ntmps144
 go_wp2_with (go_at_call 194;refine(unhide K).mono ?_;rintro e w' ⟨v,rfl,h1,h2⟩;have H1:=hide h1;have H2:=hide h2;clear h1 h2 K)
 go_ret
 exact⟨_,rfl,unhide H1,unhide H2⟩

theorem sorted_any (Bs:Nat)(a:Option Addr)(cap:Nat)(zs:List Int)(hreach:zs.length*8≤140737488351232)(w:World)(hI:IHas w a zs.length zs)(hal:∀ x,a=some x→0<zs.length→x.block<w.heap.size)(hBl:Bs<w.heap.size)(hBs:w.cell? ⟨Bs,0,none⟩=some (.slice a zs.length cap)) :
  Calls Tryz.prog 99 #[.func (.func 232) #[] #[.pointer (some ⟨Bs,0,none⟩)]] w fun e w'=>∃ v,e=.returned v∧Gr w.heap.size w' v (srt zs)∧Below w.heap.size w w':=by
 have K:Hid (Calls Tryz.prog 144 #[.func (.func 232) #[] #[.pointer (some ⟨Bs,0,none⟩)]] w fun e w1=>∃ v,e=.returned v∧Hid (Calls Tryz.prog 104 #[v] w1 fun e w'=>e=.returned (.tuple #[])∧Hid (Gr w.heap.size w' v (srt zs)∧Below w.heap.size w w'))):=by
  refine(collect_any Bs a cap zs hreach w hI hal hBl hBs).mono ?_
  rintro e w1 ⟨v,rfl,g1,b1⟩
  refine⟨v,rfl,(sort_any w.heap.size v zs w1 g1 (by omega) b1.size).mono ?_⟩
  rintro e w2 ⟨rfl,g2,b2⟩
  exact⟨rfl,g2,b1.trans b2⟩
 clear hI hal hBs hBl hreach
 go_enter Tryz.func99,Tryz.ntmps99
 go_wp2_with fail
 go_at_call 144
 refine(unhide K).mono ?_
 rintro e w1 ⟨v,rfl,K1⟩
 clear K
 go_wp2_with fail
 go_at_call 104
 refine(unhide K1).mono ?_
 rintro e w2 ⟨rfl,X⟩
 clear K1
 go_wp2_with fail
 go_ret
 exact⟨_,rfl,unhide X⟩

theorem values_sorted (a:Option Addr)(cap:Nat)(zs:List Int)(hreach:zs.length*8≤140737488351232)(w:World)(hI:IHas w a zs.length zs) :
  Calls Tryz.prog 208 #[.slice a zs.length cap] w fun e w1=>e=.returned (.func (.func 232) #[] #[.pointer (some ⟨w.heap.size,0,none⟩)]) ∧
   Hid (Calls Tryz.prog 99 #[.func (.func 232) #[] #[.pointer (some ⟨w.heap.size,0,none⟩)]] w1 fun e w2=>∃ v,e=.returned v∧Hid (Gr w.heap.size w2 v (srt zs)∧Below w.heap.size w w2)):=by
 refine(values_any a zs.length cap w).mono ?_
 rintro e w1 ⟨rfl,rfl⟩
 have b1:Below w.heap.size w (w.alloc (.cells #[.slice a zs.length cap] 22)):=(Below.refl _ w).alloc (Nat.le_refl _) _
 refine⟨rfl,(sorted_any w.heap.size a cap zs hreach _ (hI.later b1) (fun x e hp=>?_) (by simp) (cell_box (World.alloc_heap_new w _))).mono ?_⟩
 ·obtain⟨b,off,e',hc⟩:=hI.2 hp
  rw[e] at e'
  cases e'
  have:=hI.lt hp e
  exact Nat.lt_of_lt_of_le this b1.size
 ·rintro e w2 ⟨v,rfl,g2,b2⟩
  refine⟨v,rfl,?_,b1.trans (b2.mono b1.size)⟩
  obtain⟨x1,x2⟩:=g2
  refine⟨x1,?_⟩
  rcases x2 with x2 | ⟨g,cap',cur,e',hB,r⟩
  ·exact .inl x2
  ·exact .inr ⟨g,cap',cur,e',Nat.le_trans b1.size hB,r⟩

end Go.Proofs.YtokngjcfkkceiaaGreatDoor
