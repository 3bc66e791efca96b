/- Joined: GMapX, WMap. -/
import Derived.Test.YtbofhdfhhbgdgaaGreatDoorIaJ6
import Derived.Maps.Ext
/- A map from small numbers to values of any one kind in memory: what it holds, as a function of the number. -/
namespace Go.Proofs.YtbofhdfhhbgdgaaGreatDoor
set_option maxRecDepth 100000
set_option maxHeartbeats 8000000
open Go.RowKit Go.Shelf Go.Maps
set_option linter.unusedVariables false
structure MK (α:Type) where
 ty:TypeId
 el:TypeId
 val:α->Value
 enc:α->DataW Unit
 rd:Value->Option (DataW Unit×List MemPlace)
 z:Value
 zd:DataW Unit
 und:Tryz.prog.underlying ty=some (.map 3 el)
 zero:∀ w,(zeroValue el).run Tryz.prog w=.ok z w
 rdz:rd z=some (zd,[])
 rds:∀ a,rd (val a)=some (enc a,[])
 inj:∀ v a ps,rd v=some (enc a,ps)->v=val a
 aj2:∀ v ps,rd v=some (zd,ps)->v=z
def dI {α:Type} (n:Nat) (M:Nat->Option α):List Nat:=(List.range n).filter (fun k=>(M k).isSome)
theorem kH {α:Type}{n:Nat}{M:Nat->Option α}{k:Nat}:k∈dI n M↔k<n/\(M k).isSome=true:=by simp[dI]
theorem vP {α:Type}(n:Nat)(M:Nat->Option α):(dI n M).Pairwise (·<·):=(List.pairwise_lt_range).filter _
theorem ad6 {α:Type}(n:Nat)(M:Nat->Option α):(dI n M).length<=n:=by
 have:=List.length_filter_le (fun k=>(M k).isSome) (List.range n)
 simpa [dI] using this
def ajT {α:Type} (K:MK α) (M:Nat->Option α) (k:Nat):Lit×DataW Unit:=(.int .i64 (k:Int),match M k with | some a=>K.enc a | none=>.nil)
def mX {α:Type} (K:MK α) (n:Nat) (M:Nat->Option α):DataW Unit:=.map ((dI n M).map (ajT K M))
theorem adx {α}(K:MK α)(n:Nat)(M:Nat->Option α):Maps.size (mX K n M)=(dI n M).length:=by simp[mX,Maps.size]
theorem sV {α}(K:MK α)(n:Nat)(M:Nat->Option α):Canon (mX K n M):=by
 refine⟨_,rfl,?_,fun p hp=>?_⟩
 ·rw[List.pairwise_map]
  refine(vP n M).imp (fun {a b} h=>?_)
  simp[ajT,Lit.before]
  omega
 ·obtain⟨k,_,rfl⟩:=List.mem_map.1 hp
  trivial
theorem kL {α:Type}{K:MK α}{n:Nat}{M:Nat->Option α}{kl:Lit}:Maps.has (mX K n M) kl=true↔∃ k,k<n/\(M k).isSome=true/\kl=.int .i64 (k:Int):=by
 unfold mX
 rw[Maps.has_eq,List.any_eq_true]
 constructor
 ·rintro ⟨p,hp,hs⟩
  obtain⟨k,hk,rfl⟩:=List.mem_map.1 hp
  obtain⟨h1,h2⟩:=kH.1 hk
  exact⟨k,h1,h2,(WideAt.sameKey_eq hs).symm⟩
 ·rintro ⟨k,h1,h2,rfl⟩
  exact⟨ajT K M k,List.mem_map.2 ⟨k,kH.2 ⟨h1,h2⟩,rfl⟩,WideAt.sameKey_self trivial⟩
theorem je {α:Type}{K:MK α}{n:Nat}{M:Nat->Option α}{k:Nat}(hk:k<n):Maps.has (mX K n M) (.int .i64 (k:Int))=(M k).isSome:=by
 rw[Bool.eq_iff_iff,kL]
 constructor
 ·rintro ⟨j,_,h2,e⟩
  have:(k:Int)=j:=by simpa using e
  have:k=j:=by omega
  rw[this];exact h2
 ·intro h
  exact⟨k,hk,h,rfl⟩
theorem vO {α:Type}{K:MK α}{n:Nat}{M:Nat->Option α}{k:Nat}{p:α}(hk:k<n)(hM:M k=some p)(z:DataW Unit):(mX K n M).atKey (.int .i64 (k:Int)) z=K.enc p:=by
 refine WideAt.atKey_mem z trivial ?_ (List.mem_map.2 ⟨k,kH.2 ⟨hk,by rw[hM];rfl⟩,?_⟩)
 ·obtain⟨es,e,hp,_⟩:=sV K n M
  cases e
  exact apart_of_rising hp
 ·simp[ajT,hM]
theorem ady {α:Type}{K:MK α}{n:Nat}{M:Nat->Option α}{k:Nat}(hM:k<n->M k=none)(z:DataW Unit):(mX K n M).atKey (.int .i64 (k:Int)) z=z:=by
 refine atKey_of_not_has ?_ z
 rw[Bool.eq_false_iff]
 intro h
 obtain⟨j,h1,h2,e⟩:=kL.1 h
 have e1:(k:Int)=j:=by simpa using e
 have e2:k=j:=by omega
 subst e2
 rw[hM h1] at h2
 cases h2
def fC {α:Type} (K:MK α) (u:World) (b n:Nat) (M:Nat->Option α):Prop:=u.ownsMap Tryz.prog 3 K.rd b (dI n M).length (mX K n M)
theorem fC.of {α:Type}{K:MK α}{u:World}{b n m:Nat}{M:Nat->Option α}(h:u.ownsMap Tryz.prog 3 K.rd b m (mX K n M)):fC K u b n M:=by
 obtain⟨es,clock,hb,F,hs,hD⟩:=h
 refine⟨es,clock,hb,F,?_,hD⟩
 have:=congrArg Maps.size hD
 rw[adx,Maps.size_eq,length_read] at this
 omega
theorem fC.lt {α:Type}{K:MK α}{u:World}{b n:Nat}{M:Nat->Option α}(h:fC K u b n M):b<u.heap.size:=World.ownsMap.lt h
theorem fC.obj {α:Type}{K:MK α}{u:World}{b n:Nat}{M:Nat->Option α}(h:fC K u b n M):∃ es c,u.heap[b]?=some (.map es c):=by
 obtain⟨es,c,hb,_⟩:=h;exact⟨es,c,hb⟩
theorem fC.kept {α:Type}{K:MK α}{u u':World}{b n:Nat}{M:Nat->Option α}(h:fC K u b n M)(hk:u'.heap[b]?=u.heap[b]?):fC K u' b n M:=by
 obtain⟨es,clock,hb,r⟩:=h
 exact⟨es,clock,hk.trans hb,r⟩
theorem fC.ne {α:Type}{K:MK α}{u:World}{b n:Nat}{M:Nat->Option α}(h:fC K u b n M){k t:Nat}{c:Array Value}{q:Nat×Nat}(h':u.heap[k]?=some (.cells c t q)):k≠b:=by
 intro e
 subst e
 obtain⟨es,c,hb⟩:=h.obj
 rw[hb] at h'
 cases h'
theorem fC.ner {α:Type}{K:MK α}{u:World}{b n:Nat}{M:Nat->Option α}(h:fC K u b n M){k t n':Nat}{f:Nat->Value}(h':u.rowIs k t n' f):k≠b:=by
 obtain⟨c,hc,_⟩:=h'
 exact h.ne hc
theorem fC.congr {α:Type}{K:MK α}{u:World}{b n:Nat}{M M':Nat->Option α}(h:fC K u b n M)(he:∀ k,k<n->M' k=M k):fC K u b n M':=by
 have e1:dI n M'=dI n M:=by
  unfold dI
  refine List.filter_congr (fun k hk=>?_)
  rw[he k (by simpa using hk)]
 have e2:mX K n M'=mX K n M:=by
  unfold mX
  rw[e1]
  congr 1
  refine List.map_congr_left (fun k hk=>?_)
  unfold ajT
  rw[he k (kH.1 hk).1]
 unfold fC
 rw[e1,e2]
 exact h
theorem fC.look {α:Type}{K:MK α}{u:World}{b n:Nat}{M:Nat->Option α}(h:fC K u b n M){k:Nat}{p:α}(hn:n<=4096)(hk:k<n)(hM:M k=some p) :
  (Instr.lookup K.ty (.map (some b)) (.int .i64 (k:Int)) true).run Tryz.prog u=.ok (.tuple #[K.val p,.bool true]) u:=by
 obtain⟨v,ps,hr,hv⟩:=World.ownsMap.look_ok h law3 K.und (K.zero u) K.rdz (bY (k:=k) (by omega))
 rw[vO hk hM] at hv
 rw[K.inj _ _ _ hv,je hk,hM] at hr
 exact hr
theorem fC.dZ {α:Type}{K:MK α}{u:World}{b n:Nat}{M:Nat->Option α}(h:fC K u b n M){k:Nat}(hn:n<=4096)(hk:k<n)(hM:M k=none) :
  (Instr.lookup K.ty (.map (some b)) (.int .i64 (k:Int)) true).run Tryz.prog u=.ok (.tuple #[K.z,.bool false]) u:=by
 obtain⟨v,ps,hr,hv⟩:=World.ownsMap.look_ok h law3 K.und (K.zero u) K.rdz (bY (k:=k) (by omega))
 rw[ady (fun _=>hM)] at hv
 rw[K.aj2 _ _ hv,je hk,hM] at hr
 exact hr
theorem fC.at {α:Type}{K:MK α}{u:World}{b n:Nat}{M:Nat->Option α}(h:fC K u b n M){k:Nat}{p:α}(hn:n<=4096)(hk:k<n)(hM:M k=some p) :
  (Instr.lookup K.ty (.map (some b)) (.int .i64 (k:Int)) false).run Tryz.prog u=.ok (K.val p) u:=by
 obtain⟨v,ps,hr,hv⟩:=World.ownsMap.lookup h law3 K.und (K.zero u) K.rdz (bY (k:=k) (by omega))
 rw[vO hk hM] at hv
 rw[K.inj _ _ _ hv] at hr
 exact hr
theorem fC.zN {α:Type}{K:MK α}{u:World}{b n:Nat}{M:Nat->Option α}(h:fC K u b n M){k:Nat}(hn:n<=4096)(hk:k<n)(hM:M k=none) :
  (Instr.lookup K.ty (.map (some b)) (.int .i64 (k:Int)) false).run Tryz.prog u=.ok K.z u:=by
 obtain⟨v,ps,hr,hv⟩:=World.ownsMap.lookup h law3 K.und (K.zero u) K.rdz (bY (k:=k) (by omega))
 rw[ady (fun _=>hM)] at hv
 rw[K.aj2 _ _ hv] at hr
 exact hr
theorem fC.len {α:Type}{K:MK α}{u:World}{b n:Nat}{M:Nat->Option α}(h:fC K u b n M)(ty:TypeId):(Builtin.len_ #[K.ty] ty #[.map (some b)]).run Tryz.prog u=.ok (.int .i64 ((dI n M).length:Int)) u:=by
 have:=World.ownsMap.len h K.und ty
 rwa [adx] at this
theorem fC.put {α:Type}{K:MK α}{u:World}{b n:Nat}{M:Nat->Option α}(h:fC K u b n M){k:Nat}(p:α)(hn:n<=4096)(hk:k<n) :
  ∃ u',(Instr.mapUpdate K.ty (.map (some b)) (.int .i64 (k:Int)) (K.val p)).run Tryz.prog u=.ok () u'/\fC K u' b n (fun j=>if j=k then some p else M j)/\u.grownBy u' (some b)/\u'.heap.size=u.heap.size:=by
 have hl:=ad6 n M
 obtain⟨u',hr,ho,ht⟩:=World.ownsMap.store h law3 K.und (by unfold maxLen;omega) (bY (k:=k) (by omega)) (K.rds p)
 have hD:(mX K n M).put (.int .i64 (k:Int)) (K.enc p)=mX K n (fun j=>if j=k then some p else M j):=by
  refine Maps.ext (ho.canon law3) (sV _ _ _) (fun kl=>?_) (fun kl z hkl=>?_)
  ·by_cases e:kl=.int .i64 (k:Int)
   ·subst e
    rw[has_put_same (show IsMap (mX K n M) from ⟨_,rfl⟩) (show WideAt.IsKeyLit (.int .i64 (k:Int)) from trivial),je hk]
    simp
   ·rw[has_put_other e,Bool.eq_iff_iff,kL,kL]
    constructor
    ·rintro ⟨j,h1,h2,rfl⟩
     have:j≠k:=fun e'=>e (by rw[e'])
     exact⟨j,h1,by simp[this,h2],rfl⟩
    ·rintro ⟨j,h1,h2,rfl⟩
     have:j≠k:=fun e'=>e (by rw[e'])
     exact⟨j,h1,by simpa [this] using h2,rfl⟩
  ·by_cases e:kl=.int .i64 (k:Int)
   ·subst e
    rw[atKey_put_same (show IsMap (mX K n M) from ⟨_,rfl⟩) (show WideAt.IsKeyLit (.int .i64 (k:Int)) from trivial),vO (p:=p) hk (by simp)]
   ·rw[has_put_other e] at hkl
    obtain⟨j,h1,h2,rfl⟩:=kL.1 hkl
    have hj:j≠k:=fun e'=>e (by rw[e'])
    obtain⟨q,hq⟩:=Option.isSome_iff_exists.1 h2
    rw[atKey_put_other e,vO (p:=q) h1 hq,vO (p:=q) h1 (by simp[hj,hq])]
 rw[hD] at ho
 refine⟨u',hr,fC.of ho,ht.grown,?_⟩
 obtain⟨es,c,es',c',hb,rfl⟩:=ht
 simp[ChangeMaps.setBlock]
theorem fC.del {α:Type}{K:MK α}{u:World}{b n:Nat}{M:Nat->Option α}(h:fC K u b n M){k:Nat}(hn:n<=4096)(hk:k<n) :
  ∃ u',(∀ ty,(Builtin.delete_ #[K.ty,3] ty #[.map (some b),.int .i64 (k:Int)]).run Tryz.prog u=.ok (.tuple #[]) u')/\fC K u' b n (fun j=>if j=k then none else M j)/\u.grownBy u' (some b)/\u'.heap.size=u.heap.size:=by
 obtain⟨u',hr,ho,ht⟩:=World.ownsMap.drop h law3 K.und (bY (k:=k) (by omega)) 0
 have hD:(mX K n M).del (.int .i64 (k:Int))=mX K n (fun j=>if j=k then none else M j):=by
  refine Maps.ext (ho.canon law3) (sV _ _ _) (fun kl=>?_) (fun kl z hkl=>?_)
  ·by_cases e:kl=.int .i64 (k:Int)
   ·subst e
    rw[has_del_same,je hk]
    simp
   ·rw[has_del_other e,Bool.eq_iff_iff,kL,kL]
    constructor
    ·rintro ⟨j,h1,h2,rfl⟩
     have:j≠k:=fun e'=>e (by rw[e'])
     exact⟨j,h1,by simp[this,h2],rfl⟩
    ·rintro ⟨j,h1,h2,rfl⟩
     have:j≠k:=fun e'=>e (by rw[e'])
     exact⟨j,h1,by simpa [this] using h2,rfl⟩
  ·by_cases e:kl=.int .i64 (k:Int)
   ·subst e
    rw[has_del_same] at hkl
    cases hkl
   ·rw[has_del_other e] at hkl
    obtain⟨j,h1,h2,rfl⟩:=kL.1 hkl
    have hj:j≠k:=fun e'=>e (by rw[e'])
    obtain⟨q,hq⟩:=Option.isSome_iff_exists.1 h2
    rw[atKey_del_other e,vO (p:=q) h1 hq,vO (p:=q) h1 (by simp[hj,hq])]
 rw[hD] at ho
 refine⟨u',fun ty=>?_,fC.of ho,ht.grown,?_⟩
 ·exact hr
 ·obtain⟨es,c,es',c',hb,rfl⟩:=ht
  simp[ChangeMaps.setBlock]
theorem afN {α}(K:MK α)(n:Nat):mX K n (fun _=>none)=.map []:=by
 have:dI n (fun _=>(none:Option α))=[]:=by simp[dI]
 simp[mX,this]
theorem fC.made {α}(K:MK α)(w:World)(n:Nat):fC K (w.alloc (.map #[] 0)) w.heap.size n (fun _=>none):=by
 exact fC.of (by rw[afN];exact World.ownsMap_made w Tryz.prog 3 K.rd)
theorem fH {α}(K:MK α)(w:World){ops:Array Oper}{rest:List Oper}{o:Oper}{a:Act}{Q:Exit->Act->World->Prop}(hg:o.guard=none)(it:Operand)(hop:o.op=Op.next it false)(b r n m:Nat)(M:Nat->Option α)(left:Lit->Bool)(cnt:Nat)
  (hit:a.eval it=.pointer (some ⟨r,0,none⟩)) (h:w.ranges Tryz.prog 3 K.rd b r m (mX K n M) left cnt)
  (hDone:(∀ kl,left kl=false)->wpList Tryz.prog ops Q rest (a.put o.dst (.tuple #[.bool false])) w)
  (hMore:∀ (k:Nat) (p:α) (w':World) (cnt':Nat),k<n->M k=some p->left (.int .i64 (k:Int))=true->w'.ranges Tryz.prog 3 K.rd b r m (mX K n M) (fun z=>left z&&!z.sameKey (.int .i64 (k:Int))) cnt'->cnt'<cnt ->
   w.grownBy w' (some r)->(Instr.entry (.pointer (some ⟨r,0,none⟩))).run Tryz.prog w'=.ok (.tuple #[.int .i64 (k:Int),K.val p]) w'->wpList Tryz.prog ops Q rest (a.put o.dst (.tuple #[.bool true,.int .i64 (k:Int),K.val p])) w') :
  wpList Tryz.prog ops Q (o::rest) a w:=by
 refine wpList_next_ranges w hg it hop 3 law3 K.rd (Value.int .i64) (fun v:Value=>v) (fun key kl hkey=>by obtain⟨x,rfl,_⟩:=Maps.keyOf_int_inv Tryz.underlying3 hkey;exact⟨x,rfl⟩) (fun v y hv=>⟨v,rfl⟩) b r m _ left cnt hit h (fun _ hl=>hDone hl) ?_
 intro x c kl y w' cnt' hkey hlk hv hat hrg hlt hgr hsz hen
 obtain⟨x',ex,rfl,_⟩:=Maps.keyOf_int_inv Tryz.underlying3 hkey
 cases ex
 obtain⟨k,hk,hs,e⟩:=kL.1 (has_true_of_atKey hat)
 have ek:x=(k:Int):=by simpa using e
 subst ek
 obtain⟨p,hp⟩:=Option.isSome_iff_exists.1 hs
 have hy:=hat (.lit (.int .i64 0))
 rw[vO hk hp] at hy
 have hc:c=K.val p:=by
  refine K.inj _ _ y.2 ?_
  rw[hv,hy]
 subst hc
 exact hMore k p w' cnt' hk hp hlk hrg hlt hgr hen
def ag2 (r:Nat×Nat):DataW Unit:=.agg [.lit (.int .i64 (r.1:Int)),.lit (.int .i64 (r.2:Int))]
def rdB (blk:Nat):Value->Option (DataW Unit×List MemPlace)
 | .slice none 0 0=>some (.nil,[])
 | .slice (some ⟨p,0,none⟩) n c=>if n=blk then some (ag2 (p,c),[]) else none
 | _=>none
theorem afz (blk:Nat)(r:Nat×Nat):rdB blk (rv blk r)=some (ag2 r,[]):=by simp[rdB,rv]
theorem aac (blk:Nat):rdB blk (.slice none 0 0)=some (.nil,[]):=rfl
theorem agY {blk:Nat}{v:Value}{r:Nat×Nat}{ps:List MemPlace}(h:rdB blk v=some (ag2 r,ps)):v=rv blk r:=by
 unfold rdB at h
 split at h
 ·simp[ag2] at h
 ·split at h
  ·rename_i p n c e
   subst e
   simp[ag2] at h
   obtain⟨⟨h1,h2⟩,_⟩:=h
   have e1:p=r.1:=by omega
   have e2:c=r.2:=by omega
   rw[e1,e2]
  ·cases h
 ·cases h
def keysB (n:Nat) (M:Nat->Option (Nat×Nat)):List Nat:=(List.range n).filter (fun k=>(M k).isSome)
theorem vN {n:Nat}{M:Nat->Option (Nat×Nat)}{k:Nat}:k∈keysB n M↔k<n/\(M k).isSome=true:=by simp[keysB]
theorem lW (n:Nat)(M:Nat->Option (Nat×Nat)):(keysB n M).Pairwise (·<·):=(List.pairwise_lt_range).filter _
theorem ad7 (n:Nat)(M:Nat->Option (Nat×Nat)):(keysB n M).length<=n:=by
 have:=List.length_filter_le (fun k=>(M k).isSome) (List.range n)
 simpa [keysB] using this
def ajV (M:Nat->Option (Nat×Nat)) (k:Nat):Lit×DataW Unit:=(.int .i64 (k:Int),ag2 ((M k).getD (0,0)))
def mB (n:Nat) (M:Nat->Option (Nat×Nat)):DataW Unit:=.map ((keysB n M).map (ajV M))
theorem yO (n:Nat)(M:Nat->Option (Nat×Nat)):Maps.size (mB n M)=(keysB n M).length:=by simp[mB,Maps.size]
theorem afP (n:Nat)(M:Nat->Option (Nat×Nat)):Canon (mB n M):=by
 refine⟨_,rfl,?_,fun p hp=>?_⟩
 ·rw[List.pairwise_map]
  refine(lW n M).imp (fun {a b} h=>?_)
  simp[ajV,Lit.before]
  omega
 ·obtain⟨k,_,rfl⟩:=List.mem_map.1 hp
  trivial
theorem akI {n:Nat}{M:Nat->Option (Nat×Nat)}{k:Nat}{p:Nat×Nat}(hk:k<n)(hM:M k=some p)(z:DataW Unit):(mB n M).atKey (.int .i64 (k:Int)) z=ag2 p:=by
 refine WideAt.atKey_mem z trivial ?_ (List.mem_map.2 ⟨k,vN.2 ⟨hk,by rw[hM];rfl⟩,?_⟩)
 ·obtain⟨es,e,hp,_⟩:=afP n M
  cases e
  exact apart_of_rising hp
 ·simp[ajV,hM]
def pR (u:World) (blk b n:Nat) (M:Nat->Option (Nat×Nat)):Prop:=u.ownsMap Tryz.prog 3 (rdB blk) b (keysB n M).length (mB n M)
theorem pR.of {u:World}{blk b n m:Nat}{M:Nat->Option (Nat×Nat)}(h:u.ownsMap Tryz.prog 3 (rdB blk) b m (mB n M)):pR u blk b n M:=by
 obtain⟨es,clock,hb,F,hs,hD⟩:=h
 refine⟨es,clock,hb,F,?_,hD⟩
 have:=congrArg Maps.size hD
 rw[yO,Maps.size_eq,length_read] at this
 omega
theorem pR.lt {u blk b n M}(h:pR u blk b n M):b<u.heap.size:=World.ownsMap.lt h
theorem pR.obj {u blk b n M}(h:pR u blk b n M):∃ es c,u.heap[b]?=some (.map es c):=by
 obtain⟨es,c,hb,_⟩:=h;exact⟨es,c,hb⟩
theorem pR.kept {u u':World}{blk b n M}(h:pR u blk b n M)(hk:u'.heap[b]?=u.heap[b]?):pR u' blk b n M:=by
 obtain⟨es,clock,hb,r⟩:=h
 exact⟨es,clock,hk.trans hb,r⟩
theorem pR.congr {u blk b n}{M M':Nat->Option (Nat×Nat)}(h:pR u blk b n M)(he:∀ k,k<n->M' k=M k):pR u blk b n M':=by
 have e1:keysB n M'=keysB n M:=by
  unfold keysB
  refine List.filter_congr (fun k hk=>?_)
  rw[he k (by simpa using hk)]
 have e2:mB n M'=mB n M:=by
  unfold mB
  rw[e1]
  congr 1
  refine List.map_congr_left (fun k hk=>?_)
  unfold ajV
  rw[he k (vN.1 hk).1]
 unfold pR
 rw[e1,e2]
 exact h
theorem acd (w:World):(zeroValue 62).run Tryz.prog w=.ok (.slice none 0 0) w:=by kernel_rfl
theorem pR.look {u blk b n M}(h:pR u blk b n M){k:Nat}{p:Nat×Nat}(hn:n<=4096)(hk:k<n)(hM:M k=some p) :
  (Instr.lookup 93 (.map (some b)) (.int .i64 (k:Int)) false).run Tryz.prog u=.ok (rv blk p) u:=by
 obtain⟨v,ps,hr,hv⟩:=World.ownsMap.lookup h law3 Tryz.underlying93 (acd u) (aac blk) (bY (k:=k) (by omega))
 rw[akI hk hM] at hv
 rw[agY hv] at hr
 exact hr
theorem afO (n:Nat):mB n (fun _=>none)=.map []:=by
 have:keysB n (fun _=>none)=[]:=by simp[keysB]
 simp[mB,this]
theorem pR.made (w:World)(blk n:Nat):pR (w.alloc (.map #[] 0)) blk w.heap.size n (fun _=>none):=by
 exact pR.of (by rw[afO];exact World.ownsMap_made w Tryz.prog 3 (rdB blk))
end Go.Proofs.YtbofhdfhhbgdgaaGreatDoor
