/- What a range over a map collects: the numbers that are wanted, sorted. -/
import Derived.Test.YtlpgfigbpjpdhaaGreatDoorFnJ7
import Derived.Test.YtlpgfigbpjpdhaaGreatDoorFnGSort
namespace Go.Proofs.YtlpgfigbpjpdhaaGreatDoor
set_option maxRecDepth 100000
set_option maxHeartbeats 8000000
open Go.RowKit Go.Shelf Go.Maps
set_option linter.unusedVariables false
def aO (W:Nat->Bool) (n:Nat):List Nat:=(List.range n).filter W
def nN (W:Nat->Bool) (n:Nat):List Int:=(aO W n).map (fun b:Nat=>(b:Int))
theorem kQ {W:Nat->Bool}{n b:Nat}:b∈aO W n↔b<n/\W b=true:=by simp[aO]
theorem zh (W:Nat->Bool)(n:Nat):(aO W n).Pairwise (·<·):=(List.pairwise_lt_range).filter _
theorem nU (W:Nat->Bool)(n:Nat):(aO W n).length<=n:=by
 have:=List.length_filter_le W (List.range n)
 simpa [aO] using this
theorem nV (W:Nat->Bool)(n:Nat):(nN W n).length=(aO W n).length:=by simp[nN]
def jF (W:Nat->Bool) (n:Nat) (left:Lit->Bool) (ks:List Int):Prop :=
 ks.Nodup/\∀ x:Int,x∈ks↔∃ b:Nat,x=b/\b<n/\W b=true/\left (.int .i64 (b:Int))=false
theorem jF.len {W n left ks}(h:jF W n left ks):ks.length<=n:=by
 have hr:((List.range n).map (fun b:Nat=>(b:Int))).Nodup:=by
  unfold List.Nodup
  rw[List.pairwise_map]
  exact(List.pairwise_lt_range (n:=n)).imp (fun h=>by omega)
 have h1:ks.Perm (((List.range n).map (fun b:Nat=>(b:Int))).filter (fun x=>decide (x∈ks))):=by
  refine(List.perm_ext_iff_of_nodup h.1 (hr.filter _)).2 (fun x=>?_)
  rw[List.mem_filter,decide_eq_true_eq]
  refine⟨fun hx=>⟨?_,hx⟩,fun hx=>hx.2⟩
  obtain⟨b,rfl,hb,_⟩:=(h.2 x).1 hx
  exact List.mem_map.2 ⟨b,by simpa using hb,rfl⟩
 rw[h1.length_eq]
 refine Nat.le_trans (List.length_filter_le _ _) ?_
 simp
theorem jF.start {α}(K:MK α)(W:Nat->Bool)(n:Nat)(M:Nat->Option α)(hW:∀ b,b<n->W b=true->(M b).isSome=true):jF W n (Maps.has (mX K n M)) []:=by
 refine⟨List.nodup_nil,fun x=>⟨fun h=>by simp at h,?_⟩⟩
 rintro ⟨b,rfl,hb,hw,hl⟩
 rw[jv hb,hW b hb hw] at hl
 cases hl
theorem jF.skip {W n left ks}(h:jF W n left ks){b:Nat}(hw:W b=false):jF W n (fun z=>left z&&!z.sameKey (.int .i64 (b:Int))) ks:=by
 refine⟨h.1,fun x=>(h.2 x).trans ⟨?_,?_⟩⟩
 ·rintro ⟨c,rfl,hc,hv,hl⟩
  exact⟨c,rfl,hc,hv,by simp[hl]⟩
 ·rintro ⟨c,rfl,hc,hv,hl⟩
  refine⟨c,rfl,hc,hv,?_⟩
  have hcb:c≠b:=fun e=>by rw[e,hw] at hv;cases hv
  have:(Lit.int .i64 (c:Int)).sameKey (.int .i64 (b:Int))=false:=by
   simp[Lit.sameKey];omega
  simpa [this] using hl
theorem jF.take {W n left ks}(h:jF W n left ks){b:Nat}(hb:b<n)(hw:W b=true)(hl:left (.int .i64 (b:Int))=true):jF W n (fun z=>left z&&!z.sameKey (.int .i64 (b:Int))) (ks++[(b:Int)]):=by
 have hnot:(b:Int) ∉ ks:=fun hx=>by
  obtain⟨c,e,_,_,hc⟩:=(h.2 _).1 hx
  have:b=c:=by omega
  rw[← this,hl] at hc
  cases hc
 refine⟨?_,fun x=>?_⟩
 ·rw[List.nodup_append]
  refine⟨h.1,by simp,fun a ha c hc=>?_⟩
  simp at hc
  subst hc
  exact fun e=>hnot (e ▸ ha)
 ·rw[List.mem_append,List.mem_singleton,h.2 x]
  constructor
  ·rintro (⟨c,rfl,hc,hv,hl'⟩ | rfl)
   ·exact⟨c,rfl,hc,hv,by simp[hl']⟩
   ·exact⟨b,rfl,hb,hw,by simp[Lit.sameKey]⟩
  ·rintro ⟨c,rfl,hc,hv,hl'⟩
   by_cases e:c=b
   ·subst e;exact .inr rfl
   ·refine .inl ⟨c,rfl,hc,hv,?_⟩
    have:(Lit.int .i64 (c:Int)).sameKey (.int .i64 (b:Int))=false:=by
     simp[Lit.sameKey];omega
    simpa [this] using hl'
theorem jF.done {W n left ks}(h:jF W n left ks)(hl:∀ kl,left kl=false):srt ks=nN W n:=by
 have hr:(nN W n).Pairwise (·<·):=by
  unfold nN
  rw[List.pairwise_map]
  exact(zh W n).imp (fun h=>by omega)
 refine ac8 ?_ (hr.imp (fun h=>by omega))
 refine(List.perm_ext_iff_of_nodup h.1 (hr.imp (fun h=>by omega))).2 (fun x=>?_)
 rw[h.2 x]
 unfold nN
 rw[List.mem_map]
 constructor
 ·rintro ⟨b,rfl,hb,hw,_⟩
  exact⟨b,kQ.2 ⟨hb,hw⟩,rfl⟩
 ·rintro ⟨b,hb,rfl⟩
  obtain⟨h1,h2⟩:=kQ.1 hb
  exact⟨b,rfl,h1,h2,hl _⟩
structure qC {α:Type} (K:MK α) (B:Nat) (w:World) (n mb m:Nat) (M:Nat->Option α) (W:Nat->Bool) (v:Value) (wr:World) (left:Lit->Bool) (cnt:Nat) (ks:List Int):Prop where
 gr:Gr B wr v ks
 rg:wr.ranges Tryz.prog 3 K.rd mb B m (mX K n M) left cnt
 co:jF W n left ks
 be:Below B w wr
 mb:mb<B
 nb:∀ k,v.ownBlock=some k->k≠B
 si:B<wr.heap.size
 nn:n<=4096
theorem qC.later {α:Type}{K:MK α}{B:Nat}{w:World}{n mb m:Nat}{M:Nat->Option α}{W:Nat->Bool}{v:Value}{wr wr':World}{left:Lit->Bool}{cnt:Nat}{ks:List Int}(h:qC K B w n mb m M W v wr left cnt ks)(hb:Below wr.heap.size wr wr'):qC K B w n mb m M W v wr' left cnt ks:=by
 refine⟨h.gr.later hb,?_,h.co,h.be.trans (hb.mono (Nat.le_of_lt h.si)),h.mb,h.nb,Nat.lt_of_lt_of_le h.si hb.size,h.nn⟩
 obtain⟨es,clock,since,seen,c0,x1,x2,x3,x4,x5,x6⟩:=h.rg
 exact⟨es,clock,since,seen,c0,(hb.block mb (Array.getElem?_eq_some_iff.1 x1).1).trans x1,x2,x3,x4,(hb.block B h.si).trans x5,x6⟩
theorem qC.step {α:Type}{K:MK α}{B:Nat}{w:World}{n mb m:Nat}{M:Nat->Option α}{W:Nat->Bool}{v:Value}{wr:World}{left:Lit->Bool}{cnt:Nat}{ks:List Int}(h:qC K B w n mb m M W v wr left cnt ks){k:Nat}{w1:World}{cnt1:Nat}
  (hrg:w1.ranges Tryz.prog 3 K.rd mb B m (mX K n M) (fun z=>left z&&!z.sameKey (.int .i64 (k:Int))) cnt1) (hg:wr.grownBy w1 (some B)) :
  Below B w w1/\Gr B w1 v ks:=by
 refine⟨h.be.grown hg (Nat.le_of_lt h.si) (fun j e=>by cases e;exact Nat.le_refl _),?_⟩
 have hv:=h.gr
 obtain⟨g1,g2⟩:=hv
 refine⟨g1,?_⟩
 rcases g2 with g2 | ⟨g,cap,cur,rfl,x1,x2,x3⟩
 ·exact .inl g2
 ·exact .inr ⟨g,cap,cur,rfl,x1,(hg.block g (Array.getElem?_eq_some_iff.1 x2).1 (fun e=>h.nb g rfl (by simpa using e))).trans x2,x3⟩
theorem qC.skip {α:Type}{K:MK α}{B:Nat}{w:World}{n mb m:Nat}{M:Nat->Option α}{W:Nat->Bool}{v:Value}{wr:World}{left:Lit->Bool}{cnt:Nat}{ks:List Int}(h:qC K B w n mb m M W v wr left cnt ks){k:Nat}{w1:World}{cnt1:Nat}
  (hrg:w1.ranges Tryz.prog 3 K.rd mb B m (mX K n M) (fun z=>left z&&!z.sameKey (.int .i64 (k:Int))) cnt1) (hg:wr.grownBy w1 (some B)) (hw:W k=false) :
  qC K B w n mb m M W v w1 (fun z=>left z&&!z.sameKey (.int .i64 (k:Int))) cnt1 ks:=by
 obtain⟨h1,h2⟩:=h.step hrg hg
 exact⟨h2,hrg,h.co.skip hw,h1,h.mb,h.nb,Nat.lt_of_lt_of_le h.si hg.size,h.nn⟩
theorem qC.take {α:Type}{K:MK α}{B:Nat}{w:World}{n mb m:Nat}{M:Nat->Option α}{W:Nat->Bool}{v:Value}{wr:World}{left:Lit->Bool}{cnt:Nat}{ks:List Int}(h:qC K B w n mb m M W v wr left cnt ks){k:Nat}{w1 w2:World}{cnt1:Nat}
  (hrg:w1.ranges Tryz.prog 3 K.rd mb B m (mX K n M) (fun z=>left z&&!z.sameKey (.int .i64 (k:Int))) cnt1) (hg:wr.grownBy w1 (some B)) (hb2:Below w1.heap.size w1 w2) (hk:k<n) (hw:W k=true) (hl:left (.int .i64 (k:Int))=true) :
  ∃ v' w3,(∀ ty,(Builtin.append_ #[34,34] ty #[v,.slice (some ⟨w2.heap.size,0,none⟩) 1 1]).run Tryz.prog (w2.alloc (zI (k:Int)))=.ok v' w3) /\
   qC K B w n mb m M W v' w3 (fun z=>left z&&!z.sameKey (.int .i64 (k:Int))) cnt1 (ks++[(k:Int)]):=by
 obtain⟨h1,h2⟩:=h.step hrg hg
 have s1:B<w1.heap.size:=Nat.lt_of_lt_of_le h.si hg.size
 have s2:B<w2.heap.size:=Nat.lt_of_lt_of_le s1 hb2.size
 have hlen:=h.co.len
 have hnn:=h.nn
 have g2:=h2.later hb2
 obtain⟨v',w3,hr,g3,b3,o3⟩:=g2.one (Nat.le_of_lt s2) (by omega) (k:Int)
 have hob:v.ownBlock≠some B:=fun e=>h.nb B e rfl
 have hmb:v.ownBlock≠some mb:=fun e=>by have:=(h2.lt mb e).1;have:=h.mb;omega
 refine⟨v',w3,hr,g3,?_,h.co.take hk hw hl,(h1.trans (hb2.mono (Nat.le_of_lt s1))).trans b3,h.mb,fun j ej e=>?_,Nat.lt_of_lt_of_le s2 b3.size,h.nn⟩
 ·obtain⟨es,clock,since,seen,c0,x1,x2,x3,x4,x5,x6⟩:=hrg
  have l1:=(Array.getElem?_eq_some_iff.1 x1).1
  exact⟨es,clock,since,seen,c0,((o3 mb (Nat.lt_of_lt_of_le l1 hb2.size) hmb).trans (hb2.block mb l1)).trans x1,x2,x3,x4,((o3 B s2 hob).trans (hb2.block B s1)).trans x5,x6⟩
 ·subst e
  obtain⟨_,g4⟩:=g3
  rcases g4 with ⟨rfl,_⟩ | ⟨g,cap,cur,rfl,y1,y2,_⟩
  ·simp[Value.ownBlock] at ej
  ·simp[Value.ownBlock] at ej
   subst ej
   obtain⟨es,clock,since,seen,c0,x1,x2,x3,x4,x5,x6⟩:=hrg
   rw[o3 _ s2 hob,hb2.block _ s1,x5] at y2
   cases y2
end Go.Proofs.YtlpgfigbpjpdhaaGreatDoor
