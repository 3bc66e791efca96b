/- A range over a function of the program, beside a bundle of rows: the loop's own two blocks are rows of it. -/
import Derived.Test.YtefdkpbmeoakgaaGreatDoorDnJ38
import Derived.Test.YtefdkpbmeoakgaaGreatDoorDnJ15
import Derived.BigRegionIn
namespace Go.Proofs.YtefdkpbmeoakgaaGreatDoor
set_option maxRecDepth 100000
set_option maxHeartbeats 8000000
open Go.RowKit Go.Shelf Go.Maps
set_option linter.unusedVariables false
attribute [local go_sem] Oper.semAt_some
def dF (fn:FuncId) (tmps:Array Value) (ps:Array Tmp) (assign body:Code) (D:Nat):Loop:={ state:=.ready,pending:=none,fn,tmps,params:=ps,assign,body,defers:=D }
theorem gJ {F:Fence}{n:Nat}{P:Program}{g:Operand}{ps:Array Tmp}{assign body:Code}{Q:Exit->Act->World->Prop}{a:Act}{w:World}
  (hro:F.round=none) (h1:1<=n) {gf:Nat} {lb:Array Value} (hg:a.eval g=.func (.func gf) #[] lb) (hFg:F.fn gf) (eg:∀ args w,(callFunc gf args).run P w=.ok (.enter gf args) w)
  {S:Obj->World->Prop}
  (hcall:∀ fn,F.fn fn->CallsIn F (n - 1) P gf (#[.func (.yield (w.heap.size+1)) #[] #[]]++lb) ((w.alloc (.deferred (some []))).alloc (.loop (dF fn a.tmps ps assign body w.heap.size))) fun e W'=>(∃ v,e=.returned v)/\W'.heap[w.heap.size+1]?=some (.loop (dF fn a.tmps ps assign body w.heap.size))/\S (.loop (dF fn a.tmps ps assign body w.heap.size)) W')
  (hdone:∀ fn W,S (.loop (dF fn a.tmps ps assign body w.heap.size)) W->Q .normal { a with defers:={ target:=.collected w.heap.size,args:=#[] }::a.defers } (W.putObj (w.heap.size+1) (.loop { (dF fn a.tmps ps assign body w.heap.size) with state:=.exhausted }))) :
  (Code.rangeFunc g ps assign body).wpIn F n P Q a w:=by
 refine wpIn_rangeFunc ?_
 intro fn hfn
 have hc:=hcall fn hfn
 obtain⟨r,hr⟩:∃ r,dF fn a.tmps ps assign body w.heap.size=r:=⟨_,rfl⟩
 have hd:=hdone fn
 rw[hr] at hc hd
 obtain⟨W1,hW1⟩:∃ W1,(w.alloc (.deferred (some []))).alloc (.loop r)=W1:=⟨_,rfl⟩
 have he:(Instr.enterLoop fn a.tmps ps assign body none).run P w=.ok (w.heap.size+1,[{ target:=.collected w.heap.size,args:=#[] }]) W1:=by
  rw[← hW1,← hr]
  exact run_enterLoop_outer _ _ _ _ _
 have hs:r.state≠.busy/\r.pending=none:=by rw[← hr];exact⟨by simp[dF],rfl⟩
 rw[hW1] at hc
 clear hW1 hr hcall hdone
 refine⟨w.heap.size+1,[{ target:=.collected w.heap.size,args:=#[] }],W1,{ target:=.fn (.func gf) lb,args:=#[.func (.yield (w.heap.size+1)) #[] #[]] },W1,gf,#[.func (.yield (w.heap.size+1)) #[] #[]]++lb,W1,?_,?_,?_,?_,fun _=>h1,?_⟩
 ·rw[hro]
  exact he
 ·simp only[resolve,hg]
  simp[go_sem]
 ·intro f' hf'
  simp[Target.leads] at hf'
  subst hf'
  exact hFg
 ·simp[invoke,go_sem,eg]
 ·refine hc.mono ?_
  rintro e W' ⟨⟨v,rfl⟩,hl,hS⟩
  have hx:(Instr.endLoop (w.heap.size+1)).run P W'=.ok none (W'.putObj (w.heap.size+1) (.loop { r with state:=.exhausted })):=by rw[run_endLoop (P:=P) hl hs.1,hs.2]
  exact⟨none,_,hx,hd W' hS⟩
theorem qN {F:Fence}{m:Nat}{P:Program}{l D:Nat}{fn:FuncId}{tmps:Array Value}{ps:Array Tmp}{assign body:Code}{args:Array Value}{W:World}{T:World->Prop}(hl:W.heap[l]?=some (.loop (dF fn tmps ps assign body D)))(hs:args.size=ps.size)(hF:F.fn fn)
  (h:assign.wpIn (F.inRound l) m P (Exit.then (fun a₁ W2=>W2.heap[l]?=some (.loop (dF fn tmps ps assign body D))/\body.wpIn (F.inRound l) m P (fun e a3 W3=>e=.normal/\W3.heap[l]?=some (.loop { (dF fn tmps ps assign body D) with state:=.busy })/\T (W3.putObj l (.loop (dF fn tmps ps assign body D)))) a₁ (W2.putObj l (.loop { (dF fn tmps ps assign body D) with state:=.busy }))) (fun _ _ _=>False)) { tmps:=(ps.zip args).foldl (fun t (p,v)=>t.setIfInBounds p v) tmps,defers:=[] } W) :
  YieldAt F m P l args W (fun e W'=>e=.returned (.bool true)/\T W'):=by
 refine⟨fn,_,assign,body,run_yield hl hs,roundIn_of_wpIn hF (wpIn_mono h ?_)⟩
 intro e a w hp
 cases e with
 | normal =>
  obtain⟨h1,h2⟩:=hp
  refine⟨_,run_beginRound h1 rfl,wpIn_mono h2 ?_⟩
  rintro e a3 W3 ⟨rfl,h3,h4⟩
  exact⟨_,_,run_endRound none h3,rfl,h4⟩
 | ret=>exact hp.elim
 | exit id=>exact hp.elim
 | goto t=>exact hp.elim
 | panic c=>exact hp.elim
 | outgrown=>exact hp.elim
theorem jl {F:Fence}{n:Nat}{P:Program}{g:Operand}{ps:Array Tmp}{assign body:Code}{Q:Exit->Act->World->Prop}{a:Act}{w:World}
  (hro:F.round=none) (h1:1<=n) {gf:Nat} {lb:Array Value} (hg:a.eval g=.func (.func gf) #[] lb) (hFg:F.fn gf) (eg:∀ args w,(callFunc gf args).run P w=.ok (.enter gf args) w)
  {args:Array Value} (hs:args.size=ps.size) (QQ SS:Obj->World->Prop) (R':World->Prop)
  (h0:∀ ob,QQ ob ((w.alloc (.deferred (some []))).alloc ob)) (hrow:∀ ob W,QQ ob W->W.heap[w.heap.size+1]?=some ob)
  (hseq:∀ (W:World) (T:World->Prop),(∃ ob,QQ ob W)->YieldAt F (n - 1 - 1) P (w.heap.size+1) args W (fun e W'=>e=.returned (.bool true)/\R' W'/\T W')->CallsIn F (n - 1) P gf (#[.func (.yield (w.heap.size+1)) #[] #[]]++lb) W (fun e W'=>(∃ v,e=.returned v)/\T W'))
  (adL:∀ ob W,QQ ob W->assign.wpIn (F.inRound (w.heap.size+1)) (n - 1 - 1) P (Exit.then (fun a₁ W2=>W2.heap[w.heap.size+1]?=some ob/\∀ ob',body.wpIn (F.inRound (w.heap.size+1)) (n - 1 - 1) P (fun e a3 W3=>e=.normal/\SS ob' W3) a₁ (W2.putObj (w.heap.size+1) ob')) (fun _ _ _=>False)) { tmps:=(ps.zip args).foldl (fun t (p,v)=>t.setIfInBounds p v) a.tmps,defers:=[] } W)
  (hrow':∀ ob W,SS ob W->W.heap[w.heap.size+1]?=some ob) (hput:∀ ob ob' W,SS ob W->SS ob' (W.putObj (w.heap.size+1) ob')) (hR:∀ ob W,SS ob W->R' W)
  (hdone:∀ ob W,SS ob W->Q .normal { a with defers:={ target:=.collected w.heap.size,args:=#[] }::a.defers } W) :
  (Code.rangeFunc g ps assign body).wpIn F n P Q a w:=by
 refine gJ hro h1 hg hFg eg (S:=fun ob W=>SS ob W) ?_ ?_
 ·intro fn hfn
  have hQ:=h0 (.loop (dF fn a.tmps ps assign body w.heap.size))
  refine hseq _ (fun W'=>W'.heap[w.heap.size+1]?=some (.loop (dF fn a.tmps ps assign body w.heap.size))/\SS (.loop (dF fn a.tmps ps assign body w.heap.size)) W') ⟨_,hQ⟩ ?_
  refine qN (T:=fun W'=>R' W'/\W'.heap[w.heap.size+1]?=some (.loop (dF fn a.tmps ps assign body w.heap.size))/\SS (.loop (dF fn a.tmps ps assign body w.heap.size)) W') (hrow _ _ hQ) hs hfn ?_
  refine wpIn_mono (adL _ _ hQ) ?_
  intro e a' w' hp
  cases e with
  | normal =>
   obtain⟨h2,h3⟩:=hp
   refine⟨h2,wpIn_mono (h3 _) ?_⟩
   rintro e a3 W3 ⟨rfl,h4⟩
   have h5:=hput _ (.loop (dF fn a.tmps ps assign body w.heap.size)) _ h4
   exact⟨rfl,hrow' _ _ h4,hR _ _ h5,hrow' _ _ h5,h5⟩
  | ret=>exact hp.elim
  | exit id=>exact hp.elim
  | goto t=>exact hp.elim
  | panic c=>exact hp.elim
  | outgrown=>exact hp.elim
 ·intro fn W hS
  exact hdone _ _ (hput _ _ _ hS)
end Go.Proofs.YtefdkpbmeoakgaaGreatDoor
