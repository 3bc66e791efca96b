/- Joined: GGrow, CStep, CBox, CCell, CText, GVals. -/
import Derived.Test.YtefdkpbmeoakgaaGreatDoorDnJ1
import Derived.Orders
import Derived.Lib.SlBytesConst
import Derived.Test.YtefdkpbmeoakgaaGreatDoorDnJ15
import Derived.OwnWalk
import Derived.Deep.DeepCutAuto
import Derived.Laws.IdiomStrings
import Derived.Test.YtefdkpbmeoakgaaGreatDoorDnJ13
import Derived.Shelf.SlIterI.Sorted
import Derived.RangeFuncBox
import Derived.RangeFuncLeaves
import Derived.Shelf.Abstract
import Derived.OwnWalkIn
import Derived.TacticsInMore
import Derived.LoopNIn
import Derived.LoopIn
/- A region that draws its order, and only grows memory: what each operation leaves, whatever order is drawn. -/
namespace Go.Proofs.YtefdkpbmeoakgaaGreatDoor
set_option maxRecDepth 100000
set_option maxHeartbeats 8000000
open Go.RowKit Go.Shelf
set_option linter.unusedVariables false
theorem abm {md:Region.Mode}{ops:Array Oper}{listed:Array Bool}{i:Nat}(h:i∈Region.ready md ops listed) :
  ∃ o,ops[i]?=some o/\listed.getD i true=false/\∀ e∈o.after,Region.binds md e=true->listed.getD e.on false=true:=by
 unfold Region.ready at h
 rw[List.mem_filter] at h
 obtain⟨_,h2⟩:=h
 rw[Bool.and_eq_true] at h2
 obtain⟨h3,h4⟩:=h2
 cases ho:ops[i]? with
 | none=>rw[ho] at h4;simp at h4
 | some o =>
  refine⟨o,rfl,by simpa using h3,fun e he hb=>?_⟩
  rw[ho] at h4
  simp only[Option.map_some,Option.getD_some,Array.all_eq_true_iff_forall_mem] at h4
  have:=h4 e he
  rw[hb] at this
  simpa using this
def Frm (ops:Array Oper) (a0 a:Act):Prop :=
 a.tmps.size=a0.tmps.size/\a.defers=a0.defers/\∀ j,(∀ (i:Nat) (o:Oper),ops[i]?=some o->o.dst≠some j)->a.tmps.getD j undef=a0.tmps.getD j undef
theorem afu (a:Act)(d:Nat)(v:Value)(h:d<a.tmps.size):(a.put (some d) v).tmps.getD d undef=v:=by
 simp[Act.put,Array.getD,h]
theorem qZ (a:Act)(d j:Nat)(v:Value)(h:d≠j):(a.put (some d) v).tmps.getD j undef=a.tmps.getD j undef:=by
 simp only[Act.put,Array.getD_eq_getD_getElem?,Array.getElem?_setIfInBounds]
 rw[if_neg h]
theorem Frm.put {ops a0 a}(h:Frm ops a0 a){i:Nat}{o:Oper}(hi:ops[i]?=some o)(v:Value):Frm ops a0 (a.put o.dst v):=by
 obtain⟨h1,h2,h3⟩:=h
 cases hd:o.dst with
 | none=>exact⟨h1,h2,h3⟩
 | some d =>
  refine⟨by simpa [Act.put] using h1,h2,fun j hj=>?_⟩
  rw[qZ a d j v (fun e=>hj i o hi (by rw[hd,e]))]
  exact h3 j hj
def xk (ops:Array Oper) (n:Nat):Bool :=
 (List.range ops.size).all fun i=>(List.range ops.size).all fun j =>
  match (ops[i]?).bind (·.dst),(ops[j]?).bind (·.dst) with
  | some d,some d'=>decide (d<n)&&(decide (d≠d')||decide (i=j))
  | _,_=>true
theorem qh {ops}{n:Nat}(h:xk ops n=true){i j:Nat}{oi oj:Oper}{d d':Nat}(hi:ops[i]?=some oi)(hj:ops[j]?=some oj)(hdi:oi.dst=some d)(hdj:oj.dst=some d'):d<n/\(d=d'->i=j):=by
 have li:i<ops.size:=(Array.getElem?_eq_some_iff.1 hi).1
 have lj:j<ops.size:=(Array.getElem?_eq_some_iff.1 hj).1
 simp only[xk,List.all_eq_true,List.mem_range] at h
 have:=h i li j lj
 rw[hi,hj] at this
 simp only[Option.bind_some,hdi,hdj] at this
 simp at this
 refine⟨this.1,fun e=>?_⟩
 rcases this.2 with h' | h'
 ·exact absurd e h'
 ·exact h'
def Ahead (ops:Array Oper) (R:Nat->Value->World->Prop) (o:Oper) (a:Act) (w:World):Prop :=
 ∀ e∈o.after,Region.binds .any e=true->∀ oe d,ops[e.on]?=some oe->oe.dst=some d->R e.on (a.tmps.getD d undef) w
theorem aaS {P:Program}{ops:Array Oper}{Q:Exit->Act->World->Prop}(a0:Act)(R:Nat->Value->World->Prop)(B:World->Prop)(G:World->World->Prop)
  (hR:∀ i v w w',R i v w->G w w'->R i v w') (hd:xk ops a0.tmps.size=true)
  (hstep:∀ i o a w,ops[i]?=some o->Frm ops a0 a->Ahead ops R o a w->B w->wpOp P ops Q i (fun a' w'=>∃ v,a'=a.put o.dst v/\R i v w'/\B w'/\G w w') a w)
  (hend:∀ a w,Frm ops a0 a->(∀ i o d,ops[i]?=some o->o.dst=some d->R i (a.tmps.getD d undef) w)->B w->Q .normal a w) :
  ∀ (fuel:Nat) (listed:Array Bool) (a:Act) (w:World),listed.size=ops.size->Frm ops a0 a->B w ->
   (∀ i o d,ops[i]?=some o->o.dst=some d->listed.getD i false=true->R i (a.tmps.getD d undef) w) ->
   (Region.ready .any ops listed=[]->∀ i,i<ops.size->listed.getD i false=true)->(fuel=0->Region.ready .any ops listed=[]) ->
   (∀ l:Array Bool,l.size=ops.size->Region.ready .any ops l=[]->∀ i,i<ops.size->l.getD i false=true) ->
   (∀ l:Array Bool,(l.toList.filter (fun x=>!x)).length=0->Region.ready .any ops l=[])->(listed.toList.filter (fun x=>!x)).length<=fuel ->
   wpAny P .any ops Q fuel listed a w:=by
 intro fuel
 induction fuel with
 | zero =>
  intro listed a w hs hF hB hL hE h0 _ _ _
  exact⟨h0 rfl,hend a w hF (fun i o d hi hdo=>hL i o d hi hdo (hE (h0 rfl) i (Array.getElem?_eq_some_iff.1 hi).1)) hB⟩
 | succ fuel ih =>
  intro listed a w hs hF hB hL hE h0 hA hZ hC
  refine⟨fun hr=>hend a w hF (fun i o d hi hdo=>hL i o d hi hdo (hE hr i (Array.getElem?_eq_some_iff.1 hi).1)) hB,fun i hi=>?_⟩
  obtain⟨o,ho,hun,haft⟩:=abm hi
  have hlt:i<ops.size:=(Array.getElem?_eq_some_iff.1 ho).1
  refine wpOp_mono ?_ (hstep i o a w ho hF (fun e he hb oe d hoe hde=>hL e.on oe d hoe hde (haft e he hb)) hB)
  rintro a' w' ⟨v,rfl,hRv,hB',hG⟩
  have hset:(listed.setIfInBounds i true).size=ops.size:=by simpa using hs
  have hcount:((listed.setIfInBounds i true).toList.filter (fun x=>!x)).length<=fuel:=by
   have key:∀ (l:List Bool) (k:Nat),l[k]?=some false->((l.set k true).filter (fun x=>!x)).length+1=(l.filter (fun x=>!x)).length:=by
    intro l
    induction l with
    | nil=>intro k h;simp at h
    | cons x xs ihx =>
     intro k h
     cases k with
     | zero=>simp at h;subst h;simp
     | succ k =>
      have:=ihx k (by simpa using h)
      cases x<;>simp<;>omega
   have hget:listed.toList[i]?=some false:=by
    have:i<listed.size:=by omega
    rw[Array.getD_eq_getD_getElem?,Array.getElem?_eq_getElem this] at hun
    simp only[Option.getD_some] at hun
    rw[Array.getElem?_toList,Array.getElem?_eq_getElem this,hun]
   have:=key listed.toList i hget
   rw[Array.toList_setIfInBounds]
   omega
  refine ih _ _ _ hset (hF.put ho v) hB' ?_ (hA _ hset) (fun hf=>?_) hA hZ hcount
  ·intro j oj d hj hdj hlj
   by_cases hij:i=j
   ·subst hij
    obtain rfl:o=oj:=Option.some.inj (ho.symm.trans hj)
    have hsz:d<a.tmps.size:=by rw[hF.1];exact(qh hd ho ho hdj hdj).1
    rw[hdj,afu a d v hsz]
    exact hRv
   ·have amo:listed.getD j false=true:=by
     rw[Array.getD_eq_getD_getElem?,Array.getElem?_setIfInBounds,if_neg hij] at hlj
     rw[Array.getD_eq_getD_getElem?];exact hlj
    have hold:=hR _ _ _ _ (hL j oj d hj hdj amo) hG
    cases hdo:o.dst with
    | none=>exact hold
    | some d' =>
     rw[qZ a d' d v (fun e=>hij ((qh hd ho hj hdo hdj).2 e))]
     exact hold
  ·refine hZ _ (by omega)
def uP (ops:Array Oper):Bool:=(List.range ops.size).all fun i=>match ops[i]? with
 | some o=>o.after.all fun e=>decide (e.on<i)
 | none=>true
theorem vU {ops:Array Oper}(h:uP ops=true)(l:Array Bool)(hl:l.size=ops.size)(hr:Region.ready .any ops l=[]):∀ i,i<ops.size->l.getD i false=true:=by
 have main:∀ n i,i<n->i<ops.size->l.getD i false=true:=by
  intro n
  induction n with
  | zero=>intro i h;omega
  | succ n ih =>
   intro i hi hlt
   by_cases hin:i<n
   ·exact ih i hin hlt
   ·cases hb:l.getD i false with
    | true=>rfl
    | false =>
     exfalso
     have hmem:i∈Region.ready .any ops l:=by
      unfold Region.ready
      rw[List.mem_filter]
      refine⟨List.mem_range.2 hlt,?_⟩
      have hli:i<l.size:=by omega
      rw[Bool.and_eq_true]
      refine⟨?_,?_⟩
      ·rw[Array.getD_eq_getD_getElem?,Array.getElem?_eq_getElem hli] at hb ⊢
       simpa using hb
      ·rw[Array.getElem?_eq_getElem hlt]
       simp only[Option.map_some,Option.getD_some,Array.all_eq_true_iff_forall_mem]
       intro e he
       have ho:=(List.all_eq_true.1 h) i (List.mem_range.2 hlt)
       rw[Array.getElem?_eq_getElem hlt] at ho
       simp only[Array.all_eq_true_iff_forall_mem] at ho
       have hlt':=ho e he
       simp only[decide_eq_true_eq] at hlt'
       rw[ih e.on (by omega) (by omega)]
       simp
     rw[hr] at hmem
     cases hmem
 exact fun i hi=>main (i+1) i (by omega) hi
theorem qX {ops:Array Oper}(l:Array Bool)(h:(l.toList.filter (fun x=>!x)).length=0):Region.ready .any ops l=[]:=by
 unfold Region.ready
 rw[List.filter_eq_nil_iff]
 intro i _ hc
 rw[Bool.and_eq_true] at hc
 have h1:l.getD i true=false:=by simpa using hc.1
 have hlt:i<l.size:=by
  rcases Nat.lt_or_ge i l.size with h' | h'
  ·exact h'
  ·rw[Array.getD_eq_getD_getElem?,Array.getElem?_eq_none h'] at h1;simp at h1
 rw[Array.getD_eq_getD_getElem?,Array.getElem?_eq_getElem hlt] at h1
 have hm:l[i]∈l.toList:=Array.mem_toList_iff.2 (Array.getElem_mem hlt)
 have hf:l[i]∈l.toList.filter (fun x=>!x):=List.mem_filter.2 ⟨hm,by simpa using h1⟩
 rw[List.length_eq_zero_iff.1 h] at hf
 cases hf
theorem qG {P:Program}{ops:Array Oper}{Q:Exit->Act->World->Prop}{id:Nat}{a0:Act}{w0:World}(hm:P.follows .mixedOrders=true)(R:Nat->Value->World->Prop)(B:World->Prop)(G:World->World->Prop)
  (hR:∀ i v w w',R i v w->G w w'->R i v w') (hd:xk ops a0.tmps.size=true) (ha:uP ops=true) (hB:B w0.drew)
  (hstep:∀ i o a w,ops[i]?=some o->Frm ops a0 a->Ahead ops R o a w->B w->wpOp P ops Q i (fun a' w'=>∃ v,a'=a.put o.dst v/\R i v w'/\B w'/\G w w') a w)
  (hend:∀ a w,Frm ops a0 a->(∀ i o d,ops[i]?=some o->o.dst=some d->R i (a.tmps.getD d undef) w)->B w->Q .normal a w) :
  (Code.region id ops true).wp P Q a0 w0:=by
 refine wp_region_any hm (aaS a0 R B G hR hd hstep hend ops.size _ a0 _ (by simp) ⟨rfl,rfl,fun _ _=>rfl⟩ hB ?_ (vU ha _ (by simp)) ?_ (vU ha) qX ?_)
 ·intro i o d hi _ hl
  have hlt:i<ops.size:=(Array.getElem?_eq_some_iff.1 hi).1
  rw[Array.getD_eq_getD_getElem?,Array.getElem?_replicate,if_pos hlt] at hl
  simp at hl
 ·intro h0
  refine qX _ ?_
  rw[h0];rfl
 ·simp
def Grw (n0:Nat) (w w':World):Prop:=Below n0 w w'/\(∀ p v,w.cell? p=some v->w'.cell? p=some v)/\∀ g s,w.shape? g=some s->w'.shape? g=some s
theorem Grw.refl (n0:Nat)(w:World):Grw n0 w w:=⟨Below.refl _ _,fun _ _ h=>h,fun _ _ h=>h⟩
theorem Grw.trans {n0}{w w1 w2:World}(h1:Grw n0 w w1)(h2:Grw n0 w1 w2):Grw n0 w w2:=⟨h1.1.trans h2.1,fun p v h=>h2.2.1 p v (h1.2.1 p v h),fun g s h=>h2.2.2 g s (h1.2.2 g s h)⟩
theorem Grw.of_below {n0:Nat}{w w':World}(hn:n0<=w.heap.size)(h:Below w.heap.size w w'):Grw n0 w w':=by
 refine⟨h.mono hn,fun p v hp=>(h.cell (aO hp)).trans hp,fun g s hs=>?_⟩
 have hlt:g<w.heap.size:=by
  rcases Nat.lt_or_ge g w.heap.size with h' | h'
  ·exact h'
  ·simp[World.shape?,Array.getElem?_eq_none h'] at hs
 unfold World.shape? at *
 rw[h.block g hlt]
 exact hs
theorem Grw.alloc (n0:Nat)(w:World)(o:Obj)(hn:n0<=w.heap.size):Grw n0 w (w.alloc o):=Grw.of_below hn ((Below.refl _ w).alloc (Nat.le_refl _) o)
theorem Grw.size {n0 w w'}(h:Grw n0 w w'):w.heap.size<=w'.heap.size:=h.1.size
theorem Has.grw {n0:Nat}{w w':World}{a len zs}(h:Has w a len zs)(hg:Grw n0 w w'):Has w' a len zs :=
 ⟨h.1,fun hp=>by obtain⟨b,off,e,hc⟩:=h.2 hp;exact⟨b,off,e,fun j hj=>hg.2.1 _ _ (hc j hj)⟩⟩
theorem jh.grw {n0:Nat}{w w':World}{a len zs}(h:jh w a len zs)(hg:Grw n0 w w'):jh w' a len zs :=
 ⟨h.1,fun hp=>by obtain⟨b,off,e,hc⟩:=h.2 hp;exact⟨b,off,e,fun j hj=>hg.2.1 _ _ (hc j hj)⟩⟩
theorem agz.grw {n0:Nat}{w w':World}{a n ps}(h:agz w a n ps)(hg:Grw n0 w w'):agz w' a n ps :=
 ⟨h.1,fun hp=>by obtain⟨b,off,e,hl,hc⟩:=h.2.1 hp;exact⟨b,off,e,Nat.lt_of_lt_of_le hl hg.size,fun j hj=>hg.2.1 _ _ (hc j hj)⟩,fun p hp=>(h.2.2 p hp).grw hg⟩
def bG (u v:Value) (w:World):Prop:=v=u
def aC (n:Nat) (xs:List Int) (v:Value) (w:World):Prop:=∃ a c,v=.slice a n c/\Has w a n xs/\(∀ z∈xs,0<=z/\z<=255)/\n<=c/\c<=9223372036854775807
def abd (n0:Nat) (xs:List Int) (v:Value) (w:World):Prop:=∃ g,v=.slice (some ⟨g,0,none⟩) xs.length xs.length/\n0<=g/\Has w (some ⟨g,0,none⟩) xs.length xs/\w.shape? g=some (5,xs.length)
def bC (ns:List Int) (v:Value) (w:World):Prop:=∃ a c,v=.slice a ns.length c/\jh w a ns.length ns
def dX (n:Nat) (L:List Int) (v:Value) (w:World):Prop:=∃ a c ps,v=.slice a n c/\agz w a n ps/\lK ps=L
def agR (n0:Nat) (S:Value->World->Prop):Prop:=∀ v w w',S v w->Grw n0 w w'->S v w'
theorem jK (n0:Nat)(u:Value):agR n0 (bG u):=fun _ _ _ h _=>h
theorem gI (n0 n:Nat)(xs:List Int):agR n0 (aC n xs):=fun _ _ _ ⟨a,c,e,h,r⟩ hg=>⟨a,c,e,h.grw hg,r⟩
theorem iT (n0:Nat)(xs:List Int):agR n0 (abd n0 xs):=fun _ _ _ ⟨g,e,hn,h,hs⟩ hg=>⟨g,e,hn,h.grw hg,hg.2.2 _ _ hs⟩
theorem iK (n0:Nat)(ns:List Int):agR n0 (bC ns):=fun _ _ _ ⟨a,c,e,h⟩ hg=>⟨a,c,e,h.grw hg⟩
theorem gG (n0 n:Nat)(L:List Int):agR n0 (dX n L):=fun _ _ _ ⟨a,c,ps,e,h,r⟩ hg=>⟨a,c,ps,e,h.grw hg,r⟩
def RL (specs:List (Value->World->Prop)) (i:Nat) (v:Value) (w:World):Prop:=(specs[i]?.getD (fun _ _=>True)) v w
theorem RL.mono {n0:Nat}{specs:List (Value->World->Prop)}(h:∀ S∈specs,agR n0 S):∀ i v w w',RL specs i v w->Grw n0 w w'->RL specs i v w':=by
 intro i v w w' hv hg
 unfold RL at *
 cases hi:specs[i]? with
 | none=>exact True.intro
 | some S=>rw[hi] at hv;exact h S (List.mem_of_getElem? hi) v w w' hv hg
theorem aj {ops R o a w}(h:Ahead ops R o a w)(j d:Nat)(hj:(o.after.any fun e=>e.on==j&&Region.binds .any e)=true)(hd:(ops[j]?).bind (·.dst)=some d):R j (a.tmps[d]?.getD undef) w:=by
 rw[← Array.getD_eq_getD_getElem?]
 rw[Array.any_eq_true'] at hj
 obtain⟨e,he,hb⟩:=hj
 rw[Bool.and_eq_true] at hb
 obtain⟨h1,h2⟩:=hb
 have h1':e.on=j:=by simpa using h1
 cases ho:ops[j]? with
 | none=>rw[ho] at hd;cases hd
 | some oe =>
  rw[ho] at hd
  have:=h e he h2 oe d (by rw[h1'];exact ho) hd
  rwa [h1'] at this
theorem iq {ops a0 a}(h:Frm ops a0 a)(j:Nat)(hj:(ops.any fun o=>o.dst==some j)=false):a.tmps[j]?.getD undef=a0.tmps[j]?.getD undef:=by
 rw[← Array.getD_eq_getD_getElem?,← Array.getD_eq_getD_getElem?]
 refine h.2.2 j fun i o hi hd=>?_
 have:=Array.any_eq_false.1 hj
 obtain⟨hlt,e⟩:=Array.getElem?_eq_some_iff.1 hi
 have:=this i hlt
 rw[e,hd] at this
 simp at this
theorem dU {P:Program}{ops:Array Oper}{Q:Exit->Act->World->Prop}{id:Nat}{a0:Act}{w0:World}(hm:P.follows .mixedOrders=true)(n0:Nat)(specs:List (Value->World->Prop))
  (hmono:∀ S∈specs,agR n0 S) (hd:xk ops a0.tmps.size=true) (ha:uP ops=true)
  (hstep:∀ i o a w,ops[i]?=some o->Frm ops a0 a->Ahead ops (RL specs) o a w->Grw n0 w0.drew w->wpOp P ops Q i (fun a' w'=>∃ v,a'=a.put o.dst v/\RL specs i v w'/\Grw n0 w w') a w)
  (hend:∀ a w,Frm ops a0 a->(∀ i o d,ops[i]?=some o->o.dst=some d->RL specs i (a.tmps.getD d undef) w)->Grw n0 w0.drew w->Q .normal a w) :
  (Code.region id ops true).wp P Q a0 w0 :=
 qG hm (RL specs) (Grw n0 w0.drew) (Grw n0) (RL.mono hmono) hd ha (Grw.refl _ _)
  (fun i o a w hi hF hA hB=>wpOp_mono (fun a' w' ⟨v,e,h1,h2⟩=>⟨v,e,h1,hB.trans h2,h2⟩) (hstep i o a w hi hF hA hB)) hend
theorem aB {P:Program}{ops:Array Oper}{Q:Exit->Act->World->Prop}{i:Nat}{o:Oper}{a:Act}{w w':World}{n0:Nat}{S:Value->World->Prop}(hi:ops[i]?=some o)(hg:o.guard=none)(v:Value)
  (hr:(execOp a.eval o).run P w=.ok (.value v) w') (hS:S v w') (hG:Grw n0 w w'):wpOp P ops Q i (fun a' w'=>∃ v,a'=a.put o.dst v/\S v w'/\Grw n0 w w') a w:=by
 unfold wpOp
 simp only[hi,Region.wanted,hg,if_true]
 refine .inl ?_
 unfold Oper.wp
 rw[hr]
 exact⟨v,rfl,hS,hG⟩
theorem bK {P:Program}{ops:Array Oper}{Q:Exit->Act->World->Prop}{i:Nat}{o:Oper}{a:Act}{w:World}{n0:Nat}{S:Value->World->Prop}(hi:ops[i]?=some o)(hg:o.guard=none)(f:FuncId)(args:Array Value)
  (hr:(execOp a.eval o).run P w=.ok (.enter f args) w) (hn:n0<=w.heap.size) (hc:Calls P f args w fun e w'=>∃ v,e=.returned v/\S v w'/\Below w.heap.size w w'):wpOp P ops Q i (fun a' w'=>∃ v,a'=a.put o.dst v/\S v w'/\Grw n0 w w') a w:=by
 unfold wpOp
 simp only[hi,Region.wanted,hg,if_true]
 refine .inl ?_
 unfold Oper.wp
 rw[hr]
 refine Calls.mono hc ?_
 rintro e w' ⟨v,rfl,hS,hb⟩
 exact⟨v,rfl,hS,Grw.of_below hn hb⟩
theorem aU (w:World)(ns:List Int):jh (w.alloc (.cells (ns.map (Value.int .i64)).toArray 3)) (some ⟨w.heap.size,0,none⟩) ns.length ns:=by
 refine⟨rfl,fun _=>⟨w.heap.size,0,rfl,fun j hj=>?_⟩⟩
 have h:=World.alloc_heap_new w (.cells (ns.map (Value.int .i64)).toArray 3)
 simp only[World.cell?,h,Nat.zero_add]
 simp[List.getElem?_eq_getElem hj]
theorem afR (w:World)(xs:List Int)(fr:Nat×Nat):Has (w.alloc (.cells (xs.map (Value.int .u8)).toArray 5 fr)) (some ⟨w.heap.size,0,none⟩) xs.length xs:=by
 refine⟨rfl,fun _=>⟨w.heap.size,0,rfl,fun j hj=>?_⟩⟩
 have h:=World.alloc_heap_new w (.cells (xs.map (Value.int .u8)).toArray 5 fr)
 simp only[World.cell?,h,Nat.zero_add]
 simp[List.getElem?_eq_getElem hj]
theorem gV (w:World)(ps:List Prt)(h:∀ p∈ps,Has w p.1 p.2.1 p.2.2.2):agz (w.alloc (.cells (ps.map pv).toArray 71)) (some ⟨w.heap.size,0,none⟩) ps.length ps:=by
 refine⟨rfl,fun _=>⟨w.heap.size,0,rfl,by simp,fun j hj=>?_⟩,fun p hp=>(h p hp).later ((Below.refl _ w).alloc (Nat.le_refl _) _)⟩
 have h:=World.alloc_heap_new w (.cells (ps.map pv).toArray 71)
 simp only[World.cell?,h,Nat.zero_add]
 simp[hj]
theorem acO (w:World)(cs:Array Value)(t:TypeId):(w.alloc (.cells cs t)).shape? w.heap.size=some (t,cs.size):=by
 have h:=World.alloc_heap_new w (.cells cs t)
 simp only[World.shape?,h]
theorem lT (t:Array Value)(n:Nat)(h:t.size=n):t=((List.range n).map fun j=>t[j]?.getD undef).toArray:=by
 apply Array.ext
 ·simp[h]
 ·intro i h1 h2
  simp[h1]
theorem afF {n0 w xs v}(h:abd n0 xs v w):∃ w',(convert 71 71 v).run Tryz.prog w=.ok v w'/\Grw n0 w w':=by
 obtain⟨g,rfl,hn,hh,hs⟩:=h
 refine⟨w.freeze ⟨g,xs.length,none⟩ 1,?_,?_⟩
 ·simp[convert,run_underlying Tryz.underlying71,run_underlying Tryz.underlying5,markStringish,hs]
 ·have hcell:∀ p,(w.freeze ⟨g,xs.length,none⟩ 1).cell? p=w.cell? p:=fun p=>by
   unfold World.freeze
   rw[if_neg (by decide)]
   simp only[World.cell?,Array.getElem?_modify]
   by_cases hp:g=p.block
   ·rw[if_pos hp]
    cases w.heap[p.block]? with
    | none=>rfl
    | some o=>cases o<;>rfl
   ·rw[if_neg hp]
  have hshape:∀ k,(w.freeze ⟨g,xs.length,none⟩ 1).shape? k=w.shape? k:=fun k=>by
   unfold World.freeze
   rw[if_neg (by decide)]
   simp only[World.shape?,Array.getElem?_modify]
   by_cases hp:g=k
   ·rw[if_pos hp]
    cases w.heap[k]? with
    | none=>rfl
    | some o=>cases o<;>rfl
   ·rw[if_neg hp]
  have ajz:∀ k,k<n0->(w.freeze ⟨g,xs.length,none⟩ 1).heap[k]?=w.heap[k]?:=fun k hk=>by
   unfold World.freeze
   rw[if_neg (by decide)]
   simp only[Array.getElem?_modify]
   rw[if_neg (by omega)]
  have hsz:(w.freeze ⟨g,xs.length,none⟩ 1).heap.size=w.heap.size:=by
   unfold World.freeze
   rw[if_neg (by decide)]
   simp
  refine⟨⟨?_,?_,?_,by omega,ajz⟩,fun p v hp=>(hcell p).trans hp,fun k s hk=>(hshape k).trans hk⟩
  all_goals (unfold World.freeze;rw[if_neg (by decide)])
theorem aT (wd:Nat)(hw:wd=1\/wd=2\/wd=4)(ns:List Int)(v:Value)(w:World)(h:bC ns v w)(hl:ns.length<=65536)(hf:iD wd ns=true)(M:Nat)(hM:M=wd*ns.length) :
  Calls Tryz.prog 82 #[.int .i64 (wd:Int),v] w fun e w'=>∃ v,e=.returned v/\aC M (aH wd ns) v w'/\Below w.heap.size w w':=by
 obtain⟨a,c,rfl,hI⟩:=h
 refine(oV wd hw a ns.length c ns w hI hl hf M hM).mono ?_
 rintro e w' ⟨a',c',rfl,hO,hb⟩
 exact⟨_,rfl,⟨a',c',rfl,hO.out.has,iJ _ _,hO.out.2.1,by have:=hO.out.2.2.1;unfold maxLen at this;omega⟩,hb⟩
theorem rG (size n:Nat)(L:List Int)(v:Value)(w:World)(h:dX n L v w)(hn:n<=1000)(hs:L.length<=size)(hsz:size<=140737488351300)(hby:∀ z∈L,0<=z/\z<=255) :
  Calls Tryz.prog 81 #[.int .i64 (size:Int),v] w fun e w'=>∃ v,e=.returned v/\(aC size (aZ size L) v w'/\∃ g,v=.slice (some ⟨g,0,none⟩) size size/\w.heap.size<=g/\Block w' g (aZ size L))/\Below w.heap.size w w':=by
 obtain⟨a,c,ps,rfl,hP,rfl⟩:=h
 refine(aaL size a n c ps w hP hn hs hsz).mono ?_
 rintro e w' ⟨rfl,hB,hb⟩
 exact⟨_,rfl,⟨⟨_,_,rfl,hB.out.has (dH hs),pJ _ _ hby,Nat.le_refl _,by omega⟩,_,rfl,Nat.le_refl _,hB.out⟩,hb⟩
def Bx (w:World) (cs:Array Value) (u:World):Prop:=(∀ k v,cs[k]?=some v->u.cell? ⟨w.heap.size,k,none⟩=some v)/\Below w.heap.size w u/\w.heap.size<u.heap.size
theorem agn (w:World)(cs:Array Value)(t:TypeId)(fr:Nat×Nat)(k:Nat):(w.alloc (.cells cs t fr)).cell? ⟨w.heap.size,k,none⟩=cs[k]?:=by
 have h:=World.alloc_heap_new w (.cells cs t fr)
 simp only[World.cell?,h]
 rfl
theorem Bx.start (w:World)(cs:Array Value)(t:TypeId):Bx w cs (w.alloc (.cells cs t)) :=
 ⟨fun k v h=>(agn w cs t _ k).trans h,(Below.refl _ _).alloc (Nat.le_refl _) _,by simp⟩
theorem Bx.call {w u u':World}{cs}(h:Bx w cs u)(hb:Below u.heap.size u u'):Bx w cs u' :=
 ⟨fun k v hk=>(hb.cell (p:=⟨w.heap.size,k,none⟩) h.2.2).trans (h.1 k v hk),h.2.1.trans (hb.mono (Nat.le_of_lt h.2.2)),Nat.lt_of_lt_of_le h.2.2 hb.size⟩
theorem Bx.drew {w u cs}(h:Bx w cs u):Bx w cs u.drew:=⟨h.1,h.2.1.drew,h.2.2⟩
theorem Bx.grw {w u u':World}{cs}(h:Bx w cs u)(hb:Grw w.heap.size u u'):Bx w cs u' :=
 ⟨fun k v hk=>hb.2.1 _ _ (h.1 k v hk),h.2.1.trans hb.1,Nat.lt_of_lt_of_le h.2.2 hb.size⟩
theorem ad8 {size:Nat}{L:List Int}(h:L.length=size):aZ size L=L:=by
 unfold aZ
 rw[h,Nat.sub_self]
 simp
theorem aX {n:Nat}{w w1 w2:World}(h1:Below n w w1)(h2:Below w1.heap.size w1 w2)(hn:n<=w.heap.size):Below n w w2:=h1.trans (h2.mono (by have:=h1.size;omega))
def Bl (u:World) (g:Nat) (cs:Array Value) (t:TypeId):Prop:=u.heap[g]?=some (.cells cs t)
theorem Bl.lt {u g cs t}(h:Bl u g cs t):g<u.heap.size:=(Array.getElem?_eq_some_iff.1 h).1
theorem Bl.new (u:World)(cs:Array Value)(t:TypeId):Bl (u.alloc (.cells cs t)) u.heap.size cs t:=World.alloc_heap_new u _
theorem Bl.call {u u':World}{g cs t}(h:Bl u g cs t)(hb:Below u.heap.size u u'):Bl u' g cs t:=(hb.block g h.lt).trans h
theorem Bl.alloc {u g cs t}(h:Bl u g cs t)(o:Obj):Bl (u.alloc o) g cs t:=h.call ((Below.refl _ u).alloc (Nat.le_refl _) o)
theorem Bl.drew {u g cs t}(h:Bl u g cs t):Bl u.drew g cs t:=h
theorem Bl.cell {u g cs t}(h:Bl u g cs t)(k:Nat)(v:Value)(hk:cs[k]?=some v):u.cell? ⟨g,k,none⟩=some v:=by
 unfold Bl at h
 simp only[World.cell?,h]
 exact hk
theorem Bl.free {u g cs t}(h:Bl u g cs t)(i:Nat):u.frozen? ⟨g,i,none⟩=false:=by
 unfold Bl at h;simp[World.frozen?,h]
theorem Bl.set {u g cs t}(h:Bl u g cs t)(k:Nat)(v:Value):Bl (u.setCell ⟨g,k,none⟩ v) g (cs.setIfInBounds k v) t:=by
 unfold Bl at *
 rw[setCell_eq_setRow u g k _ t (0,0) _ h]
 exact setRow_heap u g _ _ t _ h
theorem Bl.other {u g cs t}(h:Bl u g cs t)(b:Addr)(v:Value)(hne:g≠b.block):Bl (u.setCell b v) g cs t:=(Below.heap_setCell u b v g hne).trans h
def au (u:World) (g:Nat):Nat->List Value->World
 | _,[]=>u
 | k,v::vs=>au (u.setCell ⟨g,k,none⟩ v) g (k+1) vs
theorem acR {g:Nat}{t:TypeId}:∀ (vs:List Value) (u:World) (k:Nat) (cs:Array Value),Bl u g cs t->k+vs.length=cs.size->Bl (au u g k vs) g (cs.toList.take k++vs).toArray t:=by
 intro vs
 induction vs with
 | nil =>
  intro u k cs h hk
  simp only[List.length_nil,Nat.add_zero] at hk
  have:(cs.toList.take k++[]).toArray=cs:=by
   rw[List.append_nil,List.take_of_length_le (by simp;omega)]
  rw[this];exact h
 | cons v vs ih =>
  intro u k cs h hk
  simp only[List.length_cons] at hk
  have:=ih (u.setCell ⟨g,k,none⟩ v) (k+1) (cs.setIfInBounds k v) (h.set k v) (by simp;omega)
  have e:(cs.setIfInBounds k v).toList.take (k+1)++vs=cs.toList.take k++(v::vs):=by
   have hlt:k<cs.toList.length:=by simp;omega
   rw[Array.toList_setIfInBounds,List.take_succ_eq_append_getElem (by simpa using hlt),List.getElem_set_self,List.take_set_of_le (Nat.le_refl _),List.append_assoc]
   rfl
  rw[e] at this
  exact this
theorem aI {g:Nat}{t:TypeId}(vs:List Value)(u:World)(cs:Array Value)(h:Bl u g cs t)(hk:vs.length=cs.size):Bl (au u g 0 vs) g vs.toArray t:=by
 have:=acR vs u 0 cs h (by omega)
 simpa using this
theorem aN {n g:Nat}(hg:n<=g):∀ (vs:List Value) (w u:World) (k:Nat),Below n w u->Below n w (au u g k vs):=by
 intro vs
 induction vs with
 | nil=>intro w u k h;exact h
 | cons v vs ih=>intro w u k h;exact ih w _ (k+1) (h.setCell hg _)
theorem jm (n0:Nat)(s:ByteArray)(u:World)(hn:n0<=u.heap.size)(hs:s.size<=140737488355328) :
  ∃ v u',(convert 9 71 (.string s)).run Tryz.prog u=.ok v u'/\aC s.size (iF s) v u'/\Grw n0 u u':=by
 have hr:=run_bytes_of_string (P:=Tryz.prog) u 9 71 5 s Tryz.underlying9 Tryz.underlying71 Tryz.underlying5
 have h1:=grownCap_ge u s.size 0 5
 have h2:=grownCap_le_maxLen u s.size 0 5 (by unfold maxLen;omega)
 unfold maxLen at h2
 generalize grownCap u s.size 0 5=c at *
 refine⟨_,_,hr,⟨_,_,rfl,⟨jd s,fun hp=>⟨u.heap.size,0,rfl,fun j hj=>?_⟩⟩,xP s,h1,by omega⟩,?_⟩
 ·have h:=World.alloc_heap_new u.drew (.cells (bytesRow s c) 5 ((bytesRow s c).size,(bytesRow s c).size+1))
  have e:u.drew.heap.size=u.heap.size:=rfl
  rw[e] at h
  simp only[World.cell?,h,Nat.zero_add]
  have:=bytesRow_at s c j hj
  rw[agp s j hj]
  exact this
 ·have hb:Below u.heap.size u (u.drew.alloc (.cells (bytesRow s c) 5 ((bytesRow s c).size,(bytesRow s c).size+1))):=(Below.refl u.heap.size u).drew.alloc (Nat.le_refl _) _
  exact Grw.of_below hn hb
end Go.Proofs.YtefdkpbmeoakgaaGreatDoor
/- slices.Sorted(slices.Values(list)) at numbers: a sorted copy. -/
namespace Go.Proofs.YtefdkpbmeoakgaaGreatDoor
set_option maxRecDepth 100000
set_option maxHeartbeats 8000000
open Go.RowKit Go.Shelf Go.Maps Go.Sort
set_option linter.unusedVariables false
attribute [local go_sem] Oper.semAt_some
shelf_lay_g SlLaysZI.n6 Ggz 6 at Tryz 162 as Tryz.sortedL
def came (zs:List Int) (k:Nat):List Int:=(List.range k).map (fun j=>zs[j]?.getD 0)
theorem dS {F:Fence}{n:Nat}{w w':World}{ops:Array Oper}{rest:List Oper}{o:Oper}{a:Act}{Q:Exit->Act->World->Prop}(t:TypeId)(hgd:o.guard=none)(d s:Operand)
  (ho:o.op=.call { callee:=.builtin .append,args:=#[d,s],argTypes:=#[t,t] }) (v x v':Value) (hd:a.eval d=v) (hs:a.eval s=x)
  (hrun:∀ ty,(Builtin.append_ #[t,t] ty #[v,x]).run Tryz.prog w=.ok v' w')
  (h:wpListIn F n Tryz.prog ops Q rest (a.put o.dst v') w'):wpListIn F n Tryz.prog ops Q (o::rest) a w:=by
 refine wpListIn_plain hgd fun K hK=>?_
 have hr:=hrun o.type
 unfold Oper.wpIn
 refine⟨?_,?_⟩
 ·simp[Oper.about,ho,resolve,Target.leads,Sem.run_pure]
 ·rw[Oper.semAt_plain F _ _ (by rw[ho];intro c hc;cases hc)]
  simp[execOp,ho,resolve,invoke,builtin,hd,hs,hr,Result.andThen]
  exact hK _ _ h
end Go.Proofs.YtefdkpbmeoakgaaGreatDoor
