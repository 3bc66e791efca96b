/- Joined: ESplit, EChk. -/
import Derived.Sort.CutIn
import Derived.Test.YtefdkpbmeoakgaaGreatDoorDnJ44
import Derived.Test.YtefdkpbmeoakgaaGreatDoorDnFRng
import Derived.Test.YtefdkpbmeoakgaaGreatDoorDnJ36
import Derived.RangeFuncBound
/- (*folder).split of no byte. -/
namespace Go.Proofs.YtefdkpbmeoakgaaGreatDoor
set_option maxRecDepth 100000
set_option maxHeartbeats 8000000
open Go.RowKit Go.Shelf Go.Maps
set_option linter.unusedVariables false
attribute [local go_sem] Oper.semAt_some
theorem aah (F:Fence)(n:Nat)(hfn:F.fn 123)(hro:F.round=none)(y:Value)(Bs Bn:Nat)(W:World)(a:Option Addr)(c:Nat)(h:W.cell? ⟨Bs,0,none⟩=some (.slice a 0 c)) :
  CallsIn F n Tryz.prog 123 #[y,.pointer (some ⟨Bs,0,none⟩),.pointer (some ⟨Bn,0,none⟩)] W fun e W'=>(∃ v,e=.returned v)/\W'=W:=by
 refine callsIn_of_wp Tryz.func123 rfl hfn ?_ hro
 simp only[Tryz.ntmps123,List.size_toArray,List.length_cons,List.length_nil,Nat.reduceAdd,Nat.reduceSub,Array.replicate_succ,Array.replicate_zero,List.push_toArray,List.append_toArray,List.nil_append,List.cons_append]
 gi_wp2
 gi_loopw [4] (fun i wr=>i=.int .i64 0/\wr=W) (fun i _=>0)
 case atStart=>exact⟨rfl,rfl⟩
 case round =>
  obtain⟨rfl,rfl⟩:=hrel
  gi_wp2
  go_end0
  exact⟨⟨_,rfl⟩,rfl⟩
theorem qj {n0 Q}(hq:Bun n0 Q){rows:List (Nat×Obj)}{u:World}(h:Q rows u)(f:Nat)(cs:Array Value)(ty:TypeId)(hf:(f,.cells cs ty)∈rows)(a:Option Addr)(c:Nat)(hc:cs[15]?=some (.slice a 0 c)) :
  Calls Tryz.prog 57 #[.pointer (some ⟨f,0,none⟩)] u fun e v'=>e=.returned (.int .i64 0)/\Hid (Q rows v'):=by
 have H0:Hid (Q ((u.heap.size+1,.cells #[.int .i64 0] 31)::(u.heap.size,zC f 66)::rows) ((u.alloc (zC f 66)).alloc (.cells #[.int .i64 0] 31))):=by
  have x:=hq.new (hq.new h (zC f 66)) (.cells #[.int .i64 0] 31)
  simp only[World.size_alloc] at x
  exact x
 have yd:=Bl.cell (hq.row (ah H0) (x:=(f,.cells cs ty)) (by simp[hf])) 15 _ hc
 have HS:=hide (And.intro (hq.sz h) (fun x hx=>hq.lt h hx:∀ x∈rows,x.1<u.heap.size))
 have HB:=hide hq
 clear hq h
 refine(callsIn_wide (n:=3)).1 ?_
 refine callsIn_of_wp_marks Tryz.func57 rfl trivial ?_ rfl
 simp only[Tryz.ntmps57,List.size_toArray,List.length_cons,List.length_nil,Nat.reduceAdd,Nat.reduceSub,Array.replicate_succ,Array.replicate_zero,List.push_toArray,List.append_toArray,List.nil_append,List.cons_append]
 gi_wp2
 refine⟨trivial,?_⟩
 change CallsIn _ _ _ _ _ ((u.alloc (zC f 66)).alloc (.cells #[.int .i64 0] 31)) _
 have HM0:=hide (show u.heap.size<u.heap.size+1 from by omega)
 generalize (u.alloc (zC f 66)).alloc (.cells #[.int .i64 0] 31)=w1 at *
 generalize u.heap.size+1=m1 at *
 generalize u.heap.size=m0 at *
 refine(uI _ _ trivial rfl _ _ _ _ (by omega) _).mono ?_
 rintro e w3 ⟨rfl,hw3⟩
 have L4:Hid (Q ((w1.heap.size+1,zI 16)::(w1.heap.size,.cells #[.slice a 0 c] 71)::(m1,.cells #[.int .i64 0] 31)::(m0,zC f 66)::rows) w3):=by
  have x:=(ah HB).new ((ah HB).new (ah H0) (.cells #[.slice a 0 c] 71)) (zI 16)
  simp only[World.size_alloc] at x
  rw[hw3]
  exact x
 have HM2:=hide ((ah HB).lt (ah H0) (x:=(m1,.cells #[.int .i64 0] 31)) (by simp))
 clear hw3 H0 yd
 generalize w1.heap.size+1=kn at *
 generalize w1.heap.size=ks at *
 gi_wp2
 have hlt:Hid (∀ x∈(kn,zI 16)::(ks,.cells #[.slice a 0 c] 71)::(m1,.cells #[.int .i64 0] 31)::(m0,zC f 66)::rows,x.1<w3.heap.size):=fun x hx=>(ah HB).lt (ah L4) hx
 have hsz:Hid (n0<=w3.heap.size):=(ah HB).sz (ah L4)
 refine gJ rfl (by omega) (gf:=123) (lb:=#[.pointer (some ⟨ks,0,none⟩),.pointer (some ⟨kn,0,none⟩)]) rfl trivial (enters_of Tryz.func123 (by kernel_rfl) rfl)
  (S:=fun ob W=>Q ((w3.heap.size+1,ob)::(w3.heap.size,.deferred (some []))::(kn,zI 16)::(ks,.cells #[.slice a 0 c] 71)::(m1,.cells #[.int .i64 0] 31)::(m0,zC f 66)::rows) W) ?_ ?_
 ·intro fn hfn
  generalize Obj.loop _=ob
  have x:=(ah HB).new ((ah HB).new (ah L4) (.deferred (some []))) ob
  simp only[World.size_alloc] at x
  refine(aah _ _ trivial rfl _ ks kn _ a c (Bl.cell ((ah HB).row x (x:=(ks,.cells #[.slice a 0 c] 71)) (by simp)) 0 _ rfl)).mono ?_
  rintro e W' ⟨he,rfl⟩
  exact⟨he,(ah HB).row x (x:=(w3.heap.size+1,ob)) (by simp),x⟩
 ·intro fn W hS
  generalize Obj.loop _=ob at hS
  have hlt':=ah hlt
  obtain⟨o7,o8⟩:=ah HS
  have o1:=ah HM0
  have o2:=ah HM2
  have o3:m1<w3.heap.size:=hlt' (m1,.cells #[.int .i64 0] 31) (by simp)
  generalize Obj.loop _=ob2
  have hS2:=(ah HB).obj hS (by omega) (fun x hx=>by
   rcases List.mem_cons.1 hx with e | e
   ·rw[e];show w3.heap.size≠w3.heap.size+1;omega
   ·have:=hlt' x e;omega) ob2
  clear hS
  generalize W.putObj (w3.heap.size+1) ob2=W2 at *
  have dne:∀ x∈rows,x.1≠m1/\x.1≠w3.heap.size:=fun x hx=>by
   have:=o8 x hx
   omega
  have d5:Bl W2 m1 #[.int .i64 0] 31:=(ah HB).row hS2 (x:=(m1,.cells #[.int .i64 0] 31)) (by simp)
  have L11:=(ah HB).put ((ah HB).sub hS2 (rows':=(m1,.cells #[.int .i64 0] 31)::(w3.heap.size,.deferred (some []))::rows) (fun x hx=>by simp only[List.mem_cons] at hx ⊢;rcases hx with e | e | e<;>simp[e])) (by omega) (fun x hx=>by
   simp only[List.mem_cons] at hx
   rcases hx with e | e
   ·rw[e];show w3.heap.size≠m1;omega
   ·exact(dne x e).1) 0 (.int .i64 0)
  have y5:=d5.cell 0 _ rfl
  have z5:=d5.free 0
  have HKD:Hid ((W2.setCell ⟨m1,0,none⟩ (.int .i64 0)).heap[w3.heap.size]?=some (.deferred (some []))):=(ah HB).row L11 (x:=(w3.heap.size,.deferred (some []))) (by simp)
  have L12:Hid (Q ((w3.heap.size,.deferred none)::(m1,.cells #[.int .i64 0] 31)::rows) ((W2.setCell ⟨m1,0,none⟩ (.int .i64 0)).putObj w3.heap.size (.deferred none))):=(ah HB).obj ((ah HB).sub L11 (rows':=(w3.heap.size,.deferred (some []))::(m1,.cells #[.int .i64 0] 31)::rows) (fun x hx=>by simp only[List.mem_cons] at hx ⊢;rcases hx with e | e | e<;>simp[e])) (ah hsz) (fun x hx=>by
   simp only[List.mem_cons] at hx
   rcases hx with e | e
   ·rw[e];show m1≠w3.heap.size;omega
   ·exact(dne x e).2) (.deferred none)
  clear hS2 L11 d5 dne hlt'
  gi_wp2
  refine⟨by simp,.inl ⟨_,_,rfl,run_takeDeferred (ah HKD),?_⟩⟩
  refine⟨.int .i64 0,?_,rfl,?_⟩
  ·have f5:=Bl.cell ((ah HB).row (ah L12) (x:=(m1,.cells #[.int .i64 0] 31)) (by simp)) 0 _ rfl
   simp[results,Tryz.results57,go_sem,f5]
  ·exact hide ((ah HB).sub (ah L12) (fun x hx=>by simp[hx]))
attribute [local go_sem] Oper.semAt_some
theorem acg (F:Fence)(n:Nat)(hfn:F.fn 123)(hro:F.round=none)(hn:1<=n)(l Bs Bn b off len cap:Nat)(hl:0<len/\len<=65536)(hc:len<=cap)(T:World->Prop)(W:World)(hRd:∀ m,ChR Bs Bn b off len cap (W.drewN m))
  (hY:∀ m,YieldAt F (n - 1) Tryz.prog l #[.slice (some ⟨b,off,none⟩) len len] (W.drewN m) fun e W'=>e=.returned (.bool true)/\ChR Bs Bn b off len cap W'/\T W') :
  CallsIn F n Tryz.prog 123 #[.func (.yield l) #[] #[],.pointer (some ⟨Bs,0,none⟩),.pointer (some ⟨Bn,0,none⟩)] W fun e W'=>(∃ v,e=.returned v)/\T W':=by
 refine(xG F n hfn hro hn l Bs Bn b off len cap hl hc (fun _ B=>ChR Bs Bn b off len cap B) (fun A B h _=>h) (fun pre W'=>(pre=[]/\∃ m,W'=W.drewN m)\/(pre=[()]/\T W')) (fun _ _=>False) ?_ W (hRd 0) hRd (fun m=>.inl ⟨rfl,m,rfl⟩)).mono ?_
 ·rintro pre x W' (⟨rfl,m,rfl⟩ | ⟨rfl,_⟩) hp
  ·refine(hY m).mono ?_
   rintro e W2 ⟨rfl,h1,h2⟩
   exact .inl ⟨rfl,.inr ⟨rfl,h2⟩,h1⟩
  ·simp at hp
 ·rintro e W' ⟨he,⟨ys,rfl,⟨h,_⟩ | ⟨_,h⟩⟩ | ⟨_,_,h⟩⟩
  ·cases h
  ·exact⟨he,h⟩
  ·exact h.elim
theorem nY {F:Fence}{n:Nat}{P:Program}{g:Operand}{ps:Array Tmp}{assign body:Code}{Q:Exit->Act->World->Prop}{a:Act}{w:World}
  (hro:F.round=none) (h1:1<=n) {gf:Nat} {lb:Array Value} (hg:a.eval g=.func (.func gf) #[] lb) (hFg:F.fn gf) (eg:∀ args w,(callFunc gf args).run P w=.ok (.enter gf args) w)
  {args:Array Value} (hs:args.size=ps.size) (QQ SS:Obj->World->Prop) (R':World->Prop)
  (h0:∀ ob m,QQ ob (((w.alloc (.deferred (some []))).alloc ob).drewN m)) (hrow:∀ ob W,QQ ob W->W.heap[w.heap.size+1]?=some ob)
  (hseq:∀ (W:World) (T:World->Prop),(∃ ob,∀ m,QQ ob (W.drewN m))->(∀ m,YieldAt F (n - 1 - 1) P (w.heap.size+1) args (W.drewN m) (fun e W'=>e=.returned (.bool true)/\R' W'/\T W'))->CallsIn F (n - 1) P gf (#[.func (.yield (w.heap.size+1)) #[] #[]]++lb) W (fun e W'=>(∃ v,e=.returned v)/\T W'))
  (adL:∀ ob W,QQ ob W->assign.wpIn (F.inRound (w.heap.size+1)) (n - 1 - 1) P (Exit.then (fun a₁ W2=>W2.heap[w.heap.size+1]?=some ob/\∀ ob',body.wpIn (F.inRound (w.heap.size+1)) (n - 1 - 1) P (fun e a3 W3=>e=.normal/\SS ob' W3) a₁ (W2.putObj (w.heap.size+1) ob')) (fun _ _ _=>False)) { tmps:=(ps.zip args).foldl (fun t (p,v)=>t.setIfInBounds p v) a.tmps,defers:=[] } W)
  (hrow':∀ ob W,SS ob W->W.heap[w.heap.size+1]?=some ob) (hput:∀ ob ob' W,SS ob W->SS ob' (W.putObj (w.heap.size+1) ob')) (hR:∀ ob W,SS ob W->R' W)
  (hdone:∀ ob W,SS ob W->Q .normal { a with defers:={ target:=.collected w.heap.size,args:=#[] }::a.defers } W) :
  (Code.rangeFunc g ps assign body).wpIn F n P Q a w:=by
 refine gJ hro h1 hg hFg eg (S:=fun ob W=>SS ob W) ?_ ?_
 ·intro fn hfn
  have hQ:=h0 (.loop (dF fn a.tmps ps assign body w.heap.size))
  refine hseq _ (fun W'=>W'.heap[w.heap.size+1]?=some (.loop (dF fn a.tmps ps assign body w.heap.size))/\SS (.loop (dF fn a.tmps ps assign body w.heap.size)) W') ⟨_,hQ⟩ ?_
  intro m
  refine qN (T:=fun W'=>R' W'/\W'.heap[w.heap.size+1]?=some (.loop (dF fn a.tmps ps assign body w.heap.size))/\SS (.loop (dF fn a.tmps ps assign body w.heap.size)) W') (hrow _ _ (hQ m)) hs hfn ?_
  refine wpIn_mono (adL _ _ (hQ m)) ?_
  intro e a' w' hp
  cases e with
  | normal =>
   obtain⟨h2,h3⟩:=hp
   refine⟨h2,wpIn_mono (h3 _) ?_⟩
   rintro e a3 W3 ⟨rfl,h4⟩
   have h5:=hput _ (.loop (dF fn a.tmps ps assign body w.heap.size)) _ h4
   exact⟨rfl,hrow' _ _ h4,hR _ _ h5,hrow' _ _ h5,h5⟩
  | ret=>exact hp.elim
  | exit id=>exact hp.elim
  | goto t=>exact hp.elim
  | panic c=>exact hp.elim
  | outgrown=>exact hp.elim
 ·intro fn W hS
  exact hdone _ _ (hput _ _ _ hS)
end Go.Proofs.YtefdkpbmeoakgaaGreatDoor
