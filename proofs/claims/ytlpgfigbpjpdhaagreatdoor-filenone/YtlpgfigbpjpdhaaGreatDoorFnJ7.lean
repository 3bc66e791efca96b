/- Joined: GMapX, WMap. -/
import Derived.Test.YtlpgfigbpjpdhaaGreatDoorFnJ6
import Derived.Maps.Ext
/- A map from small numbers to values of any one kind in memory: what it holds, as a function of the number. -/
namespace Go.Proofs.YtlpgfigbpjpdhaaGreatDoor
set_option maxRecDepth 100000
set_option maxHeartbeats 8000000
open Go.RowKit Go.Shelf Go.Maps
set_option linter.unusedVariables false
structure MK (α:Type) where
 ty:TypeId
 el:TypeId
 val:α->Value
 enc:α->DataW Unit
 rd:Value->Option (DataW Unit×List MemPlace)
 z:Value
 zd:DataW Unit
 und:Tryz.prog.underlying ty=some (.map 3 el)
 zero:∀ w,(zeroValue el).run Tryz.prog w=.ok z w
 rdz:rd z=some (zd,[])
 rds:∀ a,rd (val a)=some (enc a,[])
 inj:∀ v a ps,rd v=some (enc a,ps)->v=val a
 aje:∀ v ps,rd v=some (zd,ps)->v=z
def dW {α:Type} (n:Nat) (M:Nat->Option α):List Nat:=(List.range n).filter (fun k=>(M k).isSome)
theorem kR {α:Type}{n:Nat}{M:Nat->Option α}{k:Nat}:k∈dW n M↔k<n/\(M k).isSome=true:=by simp[dW]
theorem wI {α:Type}(n:Nat)(M:Nat->Option α):(dW n M).Pairwise (·<·):=(List.pairwise_lt_range).filter _
theorem ady {α:Type}(n:Nat)(M:Nat->Option α):(dW n M).length<=n:=by
 have:=List.length_filter_le (fun k=>(M k).isSome) (List.range n)
 simpa [dW] using this
def aj3 {α:Type} (K:MK α) (M:Nat->Option α) (k:Nat):Lit×DataW Unit:=(.int .i64 (k:Int),match M k with | some a=>K.enc a | none=>.nil)
def mX {α:Type} (K:MK α) (n:Nat) (M:Nat->Option α):DataW Unit:=.map ((dW n M).map (aj3 K M))
theorem adr {α}(K:MK α)(n:Nat)(M:Nat->Option α):Maps.size (mX K n M)=(dW n M).length:=by simp[mX,Maps.size]
theorem um {α}(K:MK α)(n:Nat)(M:Nat->Option α):Canon (mX K n M):=by
 refine⟨_,rfl,?_,fun p hp=>?_⟩
 ·rw[List.pairwise_map]
  refine(wI n M).imp (fun {a b} h=>?_)
  simp[aj3,Lit.before]
  omega
 ·obtain⟨k,_,rfl⟩:=List.mem_map.1 hp
  trivial
theorem kW {α:Type}{K:MK α}{n:Nat}{M:Nat->Option α}{kl:Lit}:Maps.has (mX K n M) kl=true↔∃ k,k<n/\(M k).isSome=true/\kl=.int .i64 (k:Int):=by
 unfold mX
 rw[Maps.has_eq,List.any_eq_true]
 constructor
 ·rintro ⟨p,hp,hs⟩
  obtain⟨k,hk,rfl⟩:=List.mem_map.1 hp
  obtain⟨h1,h2⟩:=kR.1 hk
  exact⟨k,h1,h2,(WideAt.sameKey_eq hs).symm⟩
 ·rintro ⟨k,h1,h2,rfl⟩
  exact⟨aj3 K M k,List.mem_map.2 ⟨k,kR.2 ⟨h1,h2⟩,rfl⟩,WideAt.sameKey_self trivial⟩
theorem jv {α:Type}{K:MK α}{n:Nat}{M:Nat->Option α}{k:Nat}(hk:k<n):Maps.has (mX K n M) (.int .i64 (k:Int))=(M k).isSome:=by
 rw[Bool.eq_iff_iff,kW]
 constructor
 ·rintro ⟨j,_,h2,e⟩
  have:(k:Int)=j:=by simpa using e
  have:k=j:=by omega
  rw[this];exact h2
 ·intro h
  exact⟨k,hk,h,rfl⟩
theorem wH {α:Type}{K:MK α}{n:Nat}{M:Nat->Option α}{k:Nat}{p:α}(hk:k<n)(hM:M k=some p)(z:DataW Unit):(mX K n M).atKey (.int .i64 (k:Int)) z=K.enc p:=by
 refine WideAt.atKey_mem z trivial ?_ (List.mem_map.2 ⟨k,kR.2 ⟨hk,by rw[hM];rfl⟩,?_⟩)
 ·obtain⟨es,e,hp,_⟩:=um K n M
  cases e
  exact apart_of_rising hp
 ·simp[aj3,hM]
theorem ads {α:Type}{K:MK α}{n:Nat}{M:Nat->Option α}{k:Nat}(hM:k<n->M k=none)(z:DataW Unit):(mX K n M).atKey (.int .i64 (k:Int)) z=z:=by
 refine atKey_of_not_has ?_ z
 rw[Bool.eq_false_iff]
 intro h
 obtain⟨j,h1,h2,e⟩:=kW.1 h
 have e1:(k:Int)=j:=by simpa using e
 have e2:k=j:=by omega
 subst e2
 rw[hM h1] at h2
 cases h2
def gy {α:Type} (K:MK α) (u:World) (b n:Nat) (M:Nat->Option α):Prop:=u.ownsMap Tryz.prog 3 K.rd b (dW n M).length (mX K n M)
theorem gy.of {α:Type}{K:MK α}{u:World}{b n m:Nat}{M:Nat->Option α}(h:u.ownsMap Tryz.prog 3 K.rd b m (mX K n M)):gy K u b n M:=by
 obtain⟨es,clock,hb,F,hs,hD⟩:=h
 refine⟨es,clock,hb,F,?_,hD⟩
 have:=congrArg Maps.size hD
 rw[adr,Maps.size_eq,length_read] at this
 omega
theorem gy.lt {α:Type}{K:MK α}{u:World}{b n:Nat}{M:Nat->Option α}(h:gy K u b n M):b<u.heap.size:=World.ownsMap.lt h
theorem gy.obj {α:Type}{K:MK α}{u:World}{b n:Nat}{M:Nat->Option α}(h:gy K u b n M):∃ es c,u.heap[b]?=some (.map es c):=by
 obtain⟨es,c,hb,_⟩:=h;exact⟨es,c,hb⟩
theorem gy.kept {α:Type}{K:MK α}{u u':World}{b n:Nat}{M:Nat->Option α}(h:gy K u b n M)(hk:u'.heap[b]?=u.heap[b]?):gy K u' b n M:=by
 obtain⟨es,clock,hb,r⟩:=h
 exact⟨es,clock,hk.trans hb,r⟩
theorem gy.ne {α:Type}{K:MK α}{u:World}{b n:Nat}{M:Nat->Option α}(h:gy K u b n M){k t:Nat}{c:Array Value}{q:Nat×Nat}(h':u.heap[k]?=some (.cells c t q)):k≠b:=by
 intro e
 subst e
 obtain⟨es,c,hb⟩:=h.obj
 rw[hb] at h'
 cases h'
theorem gy.ner {α:Type}{K:MK α}{u:World}{b n:Nat}{M:Nat->Option α}(h:gy K u b n M){k t n':Nat}{f:Nat->Value}(h':u.rowIs k t n' f):k≠b:=by
 obtain⟨c,hc,_⟩:=h'
 exact h.ne hc
theorem gy.congr {α:Type}{K:MK α}{u:World}{b n:Nat}{M M':Nat->Option α}(h:gy K u b n M)(he:∀ k,k<n->M' k=M k):gy K u b n M':=by
 have e1:dW n M'=dW n M:=by
  unfold dW
  refine List.filter_congr (fun k hk=>?_)
  rw[he k (by simpa using hk)]
 have e2:mX K n M'=mX K n M:=by
  unfold mX
  rw[e1]
  congr 1
  refine List.map_congr_left (fun k hk=>?_)
  unfold aj3
  rw[he k (kR.1 hk).1]
 unfold gy
 rw[e1,e2]
 exact h
theorem gy.look {α:Type}{K:MK α}{u:World}{b n:Nat}{M:Nat->Option α}(h:gy K u b n M){k:Nat}{p:α}(hn:n<=4096)(hk:k<n)(hM:M k=some p) :
  (Instr.lookup K.ty (.map (some b)) (.int .i64 (k:Int)) true).run Tryz.prog u=.ok (.tuple #[K.val p,.bool true]) u:=by
 obtain⟨v,ps,hr,hv⟩:=World.ownsMap.look_ok h law3 K.und (K.zero u) K.rdz (dw (k:=k) (by omega))
 rw[wH hk hM] at hv
 rw[K.inj _ _ _ hv,jv hk,hM] at hr
 exact hr
theorem gy.fC {α:Type}{K:MK α}{u:World}{b n:Nat}{M:Nat->Option α}(h:gy K u b n M){k:Nat}(hn:n<=4096)(hk:k<n)(hM:M k=none) :
  (Instr.lookup K.ty (.map (some b)) (.int .i64 (k:Int)) true).run Tryz.prog u=.ok (.tuple #[K.z,.bool false]) u:=by
 obtain⟨v,ps,hr,hv⟩:=World.ownsMap.look_ok h law3 K.und (K.zero u) K.rdz (dw (k:=k) (by omega))
 rw[ads (fun _=>hM)] at hv
 rw[K.aje _ _ hv,jv hk,hM] at hr
 exact hr
theorem gy.at {α:Type}{K:MK α}{u:World}{b n:Nat}{M:Nat->Option α}(h:gy K u b n M){k:Nat}{p:α}(hn:n<=4096)(hk:k<n)(hM:M k=some p) :
  (Instr.lookup K.ty (.map (some b)) (.int .i64 (k:Int)) false).run Tryz.prog u=.ok (K.val p) u:=by
 obtain⟨v,ps,hr,hv⟩:=World.ownsMap.lookup h law3 K.und (K.zero u) K.rdz (dw (k:=k) (by omega))
 rw[wH hk hM] at hv
 rw[K.inj _ _ _ hv] at hr
 exact hr
theorem gy.aad {α:Type}{K:MK α}{u:World}{b n:Nat}{M:Nat->Option α}(h:gy K u b n M){k:Nat}(hn:n<=4096)(hk:k<n)(hM:M k=none) :
  (Instr.lookup K.ty (.map (some b)) (.int .i64 (k:Int)) false).run Tryz.prog u=.ok K.z u:=by
 obtain⟨v,ps,hr,hv⟩:=World.ownsMap.lookup h law3 K.und (K.zero u) K.rdz (dw (k:=k) (by omega))
 rw[ads (fun _=>hM)] at hv
 rw[K.aje _ _ hv] at hr
 exact hr
theorem gy.len {α:Type}{K:MK α}{u:World}{b n:Nat}{M:Nat->Option α}(h:gy K u b n M)(ty:TypeId):(Builtin.len_ #[K.ty] ty #[.map (some b)]).run Tryz.prog u=.ok (.int .i64 ((dW n M).length:Int)) u:=by
 have:=World.ownsMap.len h K.und ty
 rwa [adr] at this
theorem gy.put {α:Type}{K:MK α}{u:World}{b n:Nat}{M:Nat->Option α}(h:gy K u b n M){k:Nat}(p:α)(hn:n<=4096)(hk:k<n) :
  ∃ u',(Instr.mapUpdate K.ty (.map (some b)) (.int .i64 (k:Int)) (K.val p)).run Tryz.prog u=.ok () u'/\gy K u' b n (fun j=>if j=k then some p else M j)/\u.grownBy u' (some b)/\u'.heap.size=u.heap.size:=by
 have hl:=ady n M
 obtain⟨u',hr,ho,ht⟩:=World.ownsMap.store h law3 K.und (by unfold maxLen;omega) (dw (k:=k) (by omega)) (K.rds p)
 have hD:(mX K n M).put (.int .i64 (k:Int)) (K.enc p)=mX K n (fun j=>if j=k then some p else M j):=by
  refine Maps.ext (ho.canon law3) (um _ _ _) (fun kl=>?_) (fun kl z hkl=>?_)
  ·by_cases e:kl=.int .i64 (k:Int)
   ·subst e
    rw[has_put_same (show IsMap (mX K n M) from ⟨_,rfl⟩) (show WideAt.IsKeyLit (.int .i64 (k:Int)) from trivial),jv hk]
    simp
   ·rw[has_put_other e,Bool.eq_iff_iff,kW,kW]
    constructor
    ·rintro ⟨j,h1,h2,rfl⟩
     have:j≠k:=fun e'=>e (by rw[e'])
     exact⟨j,h1,by simp[this,h2],rfl⟩
    ·rintro ⟨j,h1,h2,rfl⟩
     have:j≠k:=fun e'=>e (by rw[e'])
     exact⟨j,h1,by simpa [this] using h2,rfl⟩
  ·by_cases e:kl=.int .i64 (k:Int)
   ·subst e
    rw[atKey_put_same (show IsMap (mX K n M) from ⟨_,rfl⟩) (show WideAt.IsKeyLit (.int .i64 (k:Int)) from trivial),wH (p:=p) hk (by simp)]
   ·rw[has_put_other e] at hkl
    obtain⟨j,h1,h2,rfl⟩:=kW.1 hkl
    have hj:j≠k:=fun e'=>e (by rw[e'])
    obtain⟨q,hq⟩:=Option.isSome_iff_exists.1 h2
    rw[atKey_put_other e,wH (p:=q) h1 hq,wH (p:=q) h1 (by simp[hj,hq])]
 rw[hD] at ho
 refine⟨u',hr,gy.of ho,ht.grown,?_⟩
 obtain⟨es,c,es',c',hb,rfl⟩:=ht
 simp[ChangeMaps.setBlock]
theorem gy.del {α:Type}{K:MK α}{u:World}{b n:Nat}{M:Nat->Option α}(h:gy K u b n M){k:Nat}(hn:n<=4096)(hk:k<n) :
  ∃ u',(∀ ty,(Builtin.delete_ #[K.ty,3] ty #[.map (some b),.int .i64 (k:Int)]).run Tryz.prog u=.ok (.tuple #[]) u')/\gy K u' b n (fun j=>if j=k then none else M j)/\u.grownBy u' (some b)/\u'.heap.size=u.heap.size:=by
 obtain⟨u',hr,ho,ht⟩:=World.ownsMap.drop h law3 K.und (dw (k:=k) (by omega)) 0
 have hD:(mX K n M).del (.int .i64 (k:Int))=mX K n (fun j=>if j=k then none else M j):=by
  refine Maps.ext (ho.canon law3) (um _ _ _) (fun kl=>?_) (fun kl z hkl=>?_)
  ·by_cases e:kl=.int .i64 (k:Int)
   ·subst e
    rw[has_del_same,jv hk]
    simp
   ·rw[has_del_other e,Bool.eq_iff_iff,kW,kW]
    constructor
    ·rintro ⟨j,h1,h2,rfl⟩
     have:j≠k:=fun e'=>e (by rw[e'])
     exact⟨j,h1,by simp[this,h2],rfl⟩
    ·rintro ⟨j,h1,h2,rfl⟩
     have:j≠k:=fun e'=>e (by rw[e'])
     exact⟨j,h1,by simpa [this] using h2,rfl⟩
  ·by_cases e:kl=.int .i64 (k:Int)
   ·subst e
    rw[has_del_same] at hkl
    cases hkl
   ·rw[has_del_other e] at hkl
    obtain⟨j,h1,h2,rfl⟩:=kW.1 hkl
    have hj:j≠k:=fun e'=>e (by rw[e'])
    obtain⟨q,hq⟩:=Option.isSome_iff_exists.1 h2
    rw[atKey_del_other e,wH (p:=q) h1 hq,wH (p:=q) h1 (by simp[hj,hq])]
 rw[hD] at ho
 refine⟨u',fun ty=>?_,gy.of ho,ht.grown,?_⟩
 ·exact hr
 ·obtain⟨es,c,es',c',hb,rfl⟩:=ht
  simp[ChangeMaps.setBlock]
theorem af4 {α}(K:MK α)(n:Nat):mX K n (fun _=>none)=.map []:=by
 have:dW n (fun _=>(none:Option α))=[]:=by simp[dW]
 simp[mX,this]
theorem gy.made {α}(K:MK α)(w:World)(n:Nat):gy K (w.alloc (.map #[] 0)) w.heap.size n (fun _=>none):=by
 exact gy.of (by rw[af4];exact World.ownsMap_made w Tryz.prog 3 K.rd)
theorem gB {α}(K:MK α)(w:World){ops:Array Oper}{rest:List Oper}{o:Oper}{a:Act}{Q:Exit->Act->World->Prop}(hg:o.guard=none)(it:Operand)(hop:o.op=Op.next it false)(b r n m:Nat)(M:Nat->Option α)(left:Lit->Bool)(cnt:Nat)
  (hit:a.eval it=.pointer (some ⟨r,0,none⟩)) (h:w.ranges Tryz.prog 3 K.rd b r m (mX K n M) left cnt)
  (hDone:(∀ kl,left kl=false)->wpList Tryz.prog ops Q rest (a.put o.dst (.tuple #[.bool false])) w)
  (hMore:∀ (k:Nat) (p:α) (w':World) (cnt':Nat),k<n->M k=some p->left (.int .i64 (k:Int))=true->w'.ranges Tryz.prog 3 K.rd b r m (mX K n M) (fun z=>left z&&!z.sameKey (.int .i64 (k:Int))) cnt'->cnt'<cnt ->
   w.grownBy w' (some r)->(Instr.entry (.pointer (some ⟨r,0,none⟩))).run Tryz.prog w'=.ok (.tuple #[.int .i64 (k:Int),K.val p]) w'->wpList Tryz.prog ops Q rest (a.put o.dst (.tuple #[.bool true,.int .i64 (k:Int),K.val p])) w') :
  wpList Tryz.prog ops Q (o::rest) a w:=by
 refine wpList_next_ranges w hg it hop 3 law3 K.rd (Value.int .i64) (fun v:Value=>v) (fun key kl hkey=>by obtain⟨x,rfl,_⟩:=Maps.keyOf_int_inv Tryz.underlying3 hkey;exact⟨x,rfl⟩) (fun v y hv=>⟨v,rfl⟩) b r m _ left cnt hit h (fun _ hl=>hDone hl) ?_
 intro x c kl y w' cnt' hkey hlk hv hat hrg hlt hgr hsz hen
 obtain⟨x',ex,rfl,_⟩:=Maps.keyOf_int_inv Tryz.underlying3 hkey
 cases ex
 obtain⟨k,hk,hs,e⟩:=kW.1 (has_true_of_atKey hat)
 have ek:x=(k:Int):=by simpa using e
 subst ek
 obtain⟨p,hp⟩:=Option.isSome_iff_exists.1 hs
 have hy:=hat (.lit (.int .i64 0))
 rw[wH hk hp] at hy
 have hc:c=K.val p:=by
  refine K.inj _ _ y.2 ?_
  rw[hv,hy]
 subst hc
 exact hMore k p w' cnt' hk hp hlk hrg hlt hgr hen
def agf (r:Nat×Nat):DataW Unit:=.agg [.lit (.int .i64 (r.1:Int)),.lit (.int .i64 (r.2:Int))]
def rdB (blk:Nat):Value->Option (DataW Unit×List MemPlace)
 | .slice none 0 0=>some (.nil,[])
 | .slice (some ⟨p,0,none⟩) n c=>if n=blk then some (agf (p,c),[]) else none
 | _=>none
theorem afi (blk:Nat)(r:Nat×Nat):rdB blk (rv blk r)=some (agf r,[]):=by simp[rdB,rv]
theorem aal (blk:Nat):rdB blk (.slice none 0 0)=some (.nil,[]):=rfl
theorem ag7 {blk:Nat}{v:Value}{r:Nat×Nat}{ps:List MemPlace}(h:rdB blk v=some (agf r,ps)):v=rv blk r:=by
 unfold rdB at h
 split at h
 ·simp[agf] at h
 ·split at h
  ·rename_i p n c e
   subst e
   simp[agf] at h
   obtain⟨⟨h1,h2⟩,_⟩:=h
   have e1:p=r.1:=by omega
   have e2:c=r.2:=by omega
   rw[e1,e2]
  ·cases h
 ·cases h
def keysB (n:Nat) (M:Nat->Option (Nat×Nat)):List Nat:=(List.range n).filter (fun k=>(M k).isSome)
theorem wF {n:Nat}{M:Nat->Option (Nat×Nat)}{k:Nat}:k∈keysB n M↔k<n/\(M k).isSome=true:=by simp[keysB]
theorem nD (n:Nat)(M:Nat->Option (Nat×Nat)):(keysB n M).Pairwise (·<·):=(List.pairwise_lt_range).filter _
theorem adz (n:Nat)(M:Nat->Option (Nat×Nat)):(keysB n M).length<=n:=by
 have:=List.length_filter_le (fun k=>(M k).isSome) (List.range n)
 simpa [keysB] using this
def aj7 (M:Nat->Option (Nat×Nat)) (k:Nat):Lit×DataW Unit:=(.int .i64 (k:Int),agf ((M k).getD (0,0)))
def mB (n:Nat) (M:Nat->Option (Nat×Nat)):DataW Unit:=.map ((keysB n M).map (aj7 M))
theorem zf (n:Nat)(M:Nat->Option (Nat×Nat)):Maps.size (mB n M)=(keysB n M).length:=by simp[mB,Maps.size]
theorem af6 (n:Nat)(M:Nat->Option (Nat×Nat)):Canon (mB n M):=by
 refine⟨_,rfl,?_,fun p hp=>?_⟩
 ·rw[List.pairwise_map]
  refine(nD n M).imp (fun {a b} h=>?_)
  simp[aj7,Lit.before]
  omega
 ·obtain⟨k,_,rfl⟩:=List.mem_map.1 hp
  trivial
theorem akq {n:Nat}{M:Nat->Option (Nat×Nat)}{k:Nat}{p:Nat×Nat}(hk:k<n)(hM:M k=some p)(z:DataW Unit):(mB n M).atKey (.int .i64 (k:Int)) z=agf p:=by
 refine WideAt.atKey_mem z trivial ?_ (List.mem_map.2 ⟨k,wF.2 ⟨hk,by rw[hM];rfl⟩,?_⟩)
 ·obtain⟨es,e,hp,_⟩:=af6 n M
  cases e
  exact apart_of_rising hp
 ·simp[aj7,hM]
def qE (u:World) (blk b n:Nat) (M:Nat->Option (Nat×Nat)):Prop:=u.ownsMap Tryz.prog 3 (rdB blk) b (keysB n M).length (mB n M)
theorem qE.of {u:World}{blk b n m:Nat}{M:Nat->Option (Nat×Nat)}(h:u.ownsMap Tryz.prog 3 (rdB blk) b m (mB n M)):qE u blk b n M:=by
 obtain⟨es,clock,hb,F,hs,hD⟩:=h
 refine⟨es,clock,hb,F,?_,hD⟩
 have:=congrArg Maps.size hD
 rw[zf,Maps.size_eq,length_read] at this
 omega
theorem qE.lt {u blk b n M}(h:qE u blk b n M):b<u.heap.size:=World.ownsMap.lt h
theorem qE.obj {u blk b n M}(h:qE u blk b n M):∃ es c,u.heap[b]?=some (.map es c):=by
 obtain⟨es,c,hb,_⟩:=h;exact⟨es,c,hb⟩
theorem qE.kept {u u':World}{blk b n M}(h:qE u blk b n M)(hk:u'.heap[b]?=u.heap[b]?):qE u' blk b n M:=by
 obtain⟨es,clock,hb,r⟩:=h
 exact⟨es,clock,hk.trans hb,r⟩
theorem qE.congr {u blk b n}{M M':Nat->Option (Nat×Nat)}(h:qE u blk b n M)(he:∀ k,k<n->M' k=M k):qE u blk b n M':=by
 have e1:keysB n M'=keysB n M:=by
  unfold keysB
  refine List.filter_congr (fun k hk=>?_)
  rw[he k (by simpa using hk)]
 have e2:mB n M'=mB n M:=by
  unfold mB
  rw[e1]
  congr 1
  refine List.map_congr_left (fun k hk=>?_)
  unfold aj7
  rw[he k (wF.1 hk).1]
 unfold qE
 rw[e1,e2]
 exact h
theorem ace (w:World):(zeroValue 33).run Tryz.prog w=.ok (.slice none 0 0) w:=by kernel_rfl
theorem qE.look {u blk b n M}(h:qE u blk b n M){k:Nat}{p:Nat×Nat}(hn:n<=4096)(hk:k<n)(hM:M k=some p) :
  (Instr.lookup 119 (.map (some b)) (.int .i64 (k:Int)) false).run Tryz.prog u=.ok (rv blk p) u:=by
 obtain⟨v,ps,hr,hv⟩:=World.ownsMap.lookup h law3 Tryz.underlying119 (ace u) (aal blk) (dw (k:=k) (by omega))
 rw[akq hk hM] at hv
 rw[ag7 hv] at hr
 exact hr
theorem af5 (n:Nat):mB n (fun _=>none)=.map []:=by
 have:keysB n (fun _=>none)=[]:=by simp[keysB]
 simp[mB,this]
theorem qE.made (w:World)(blk n:Nat):qE (w.alloc (.map #[] 0)) blk w.heap.size n (fun _=>none):=by
 exact qE.of (by rw[af5];exact World.ownsMap_made w Tryz.prog 3 (rdB blk))
end Go.Proofs.YtlpgfigbpjpdhaaGreatDoor
