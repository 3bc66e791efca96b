/- Joined: GMapX, WMap. -/
import Derived.Test.YtefdkpbmeoakgaaGreatDoorDnJ3
import Derived.Maps.Ext
/- A map from small numbers to values of any one kind in memory: what it holds, as a function of the number. -/
namespace Go.Proofs.YtefdkpbmeoakgaaGreatDoor
set_option maxRecDepth 100000
set_option maxHeartbeats 8000000
open Go.RowKit Go.Shelf Go.Maps
set_option linter.unusedVariables false
structure MK (α:Type) where
 ty:TypeId
 el:TypeId
 val:α->Value
 enc:α->DataW Unit
 rd:Value->Option (DataW Unit×List MemPlace)
 z:Value
 zd:DataW Unit
 und:Tryz.prog.underlying ty=some (.map 3 el)
 zero:∀ w,(zeroValue el).run Tryz.prog w=.ok z w
 rdz:rd z=some (zd,[])
 rds:∀ a,rd (val a)=some (enc a,[])
 inj:∀ v a ps,rd v=some (enc a,ps)->v=val a
 ajr:∀ v ps,rd v=some (zd,ps)->v=z
def mF {α:Type} (n:Nat) (M:Nat->Option α):List Nat:=(List.range n).filter (fun k=>(M k).isSome)
theorem kX {α:Type}{n:Nat}{M:Nat->Option α}{k:Nat}:k∈mF n M↔k<n/\(M k).isSome=true:=by simp[mF]
theorem wJ {α:Type}(n:Nat)(M:Nat->Option α):(mF n M).Pairwise (·<·):=(List.pairwise_lt_range).filter _
theorem adB {α:Type}(n:Nat)(M:Nat->Option α):(mF n M).length<=n:=by
 have:=List.length_filter_le (fun k=>(M k).isSome) (List.range n)
 simpa [mF] using this
def ajE {α:Type} (K:MK α) (M:Nat->Option α) (k:Nat):Lit×DataW Unit:=(.int .i64 (k:Int),match M k with | some a=>K.enc a | none=>.nil)
def mX {α:Type} (K:MK α) (n:Nat) (M:Nat->Option α):DataW Unit:=.map ((mF n M).map (ajE K M))
theorem ah5 {α}(K:MK α)(n:Nat)(M:Nat->Option α):Maps.size (mX K n M)=(mF n M).length:=by simp[mX,Maps.size]
theorem aa4 {α}(K:MK α)(n:Nat)(M:Nat->Option α):Canon (mX K n M):=by
 refine⟨_,rfl,?_,fun p hp=>?_⟩
 ·rw[List.pairwise_map]
  refine(wJ n M).imp (fun {a b} h=>?_)
  simp[ajE,Lit.before]
  omega
 ·obtain⟨k,_,rfl⟩:=List.mem_map.1 hp
  trivial
theorem wH {α:Type}{K:MK α}{n:Nat}{M:Nat->Option α}{kl:Lit}:Maps.has (mX K n M) kl=true↔∃ k,k<n/\(M k).isSome=true/\kl=.int .i64 (k:Int):=by
 unfold mX
 rw[Maps.has_eq,List.any_eq_true]
 constructor
 ·rintro ⟨p,hp,hs⟩
  obtain⟨k,hk,rfl⟩:=List.mem_map.1 hp
  obtain⟨h1,h2⟩:=kX.1 hk
  exact⟨k,h1,h2,(WideAt.sameKey_eq hs).symm⟩
 ·rintro ⟨k,h1,h2,rfl⟩
  exact⟨ajE K M k,List.mem_map.2 ⟨k,kX.2 ⟨h1,h2⟩,rfl⟩,WideAt.sameKey_self trivial⟩
theorem pI {α:Type}{K:MK α}{n:Nat}{M:Nat->Option α}{k:Nat}(hk:k<n):Maps.has (mX K n M) (.int .i64 (k:Int))=(M k).isSome:=by
 rw[Bool.eq_iff_iff,wH]
 constructor
 ·rintro ⟨j,_,h2,e⟩
  have:(k:Int)=j:=by simpa using e
  have:k=j:=by omega
  rw[this];exact h2
 ·intro h
  exact⟨k,hk,h,rfl⟩
theorem ad4 {α:Type}{K:MK α}{n:Nat}{M:Nat->Option α}{k:Nat}{p:α}(hk:k<n)(hM:M k=some p)(z:DataW Unit):(mX K n M).atKey (.int .i64 (k:Int)) z=K.enc p:=by
 refine WideAt.atKey_mem z trivial ?_ (List.mem_map.2 ⟨k,kX.2 ⟨hk,by rw[hM];rfl⟩,?_⟩)
 ·obtain⟨es,e,hp,_⟩:=aa4 K n M
  cases e
  exact apart_of_rising hp
 ·simp[ajE,hM]
theorem ad3 {α:Type}{K:MK α}{n:Nat}{M:Nat->Option α}{k:Nat}(hM:k<n->M k=none)(z:DataW Unit):(mX K n M).atKey (.int .i64 (k:Int)) z=z:=by
 refine atKey_of_not_has ?_ z
 rw[Bool.eq_false_iff]
 intro h
 obtain⟨j,h1,h2,e⟩:=wH.1 h
 have e1:(k:Int)=j:=by simpa using e
 have e2:k=j:=by omega
 subst e2
 rw[hM h1] at h2
 cases h2
def iP {α:Type} (K:MK α) (u:World) (b n:Nat) (M:Nat->Option α):Prop:=u.ownsMap Tryz.prog 3 K.rd b (mF n M).length (mX K n M)
theorem iP.of {α:Type}{K:MK α}{u:World}{b n m:Nat}{M:Nat->Option α}(h:u.ownsMap Tryz.prog 3 K.rd b m (mX K n M)):iP K u b n M:=by
 obtain⟨es,clock,hb,F,hs,hD⟩:=h
 refine⟨es,clock,hb,F,?_,hD⟩
 have:=congrArg Maps.size hD
 rw[ah5,Maps.size_eq,length_read] at this
 omega
theorem iP.lt {α:Type}{K:MK α}{u:World}{b n:Nat}{M:Nat->Option α}(h:iP K u b n M):b<u.heap.size:=World.ownsMap.lt h
theorem iP.obj {α:Type}{K:MK α}{u:World}{b n:Nat}{M:Nat->Option α}(h:iP K u b n M):∃ es c,u.heap[b]?=some (.map es c):=by
 obtain⟨es,c,hb,_⟩:=h;exact⟨es,c,hb⟩
theorem iP.kept {α:Type}{K:MK α}{u u':World}{b n:Nat}{M:Nat->Option α}(h:iP K u b n M)(hk:u'.heap[b]?=u.heap[b]?):iP K u' b n M:=by
 obtain⟨es,clock,hb,r⟩:=h
 exact⟨es,clock,hk.trans hb,r⟩
theorem iP.ne {α:Type}{K:MK α}{u:World}{b n:Nat}{M:Nat->Option α}(h:iP K u b n M){k t:Nat}{c:Array Value}{q:Nat×Nat}(h':u.heap[k]?=some (.cells c t q)):k≠b:=by
 intro e
 subst e
 obtain⟨es,c,hb⟩:=h.obj
 rw[hb] at h'
 cases h'
theorem iP.ner {α:Type}{K:MK α}{u:World}{b n:Nat}{M:Nat->Option α}(h:iP K u b n M){k t n':Nat}{f:Nat->Value}(h':u.rowIs k t n' f):k≠b:=by
 obtain⟨c,hc,_⟩:=h'
 exact h.ne hc
theorem iP.congr {α:Type}{K:MK α}{u:World}{b n:Nat}{M M':Nat->Option α}(h:iP K u b n M)(he:∀ k,k<n->M' k=M k):iP K u b n M':=by
 have e1:mF n M'=mF n M:=by
  unfold mF
  refine List.filter_congr (fun k hk=>?_)
  rw[he k (by simpa using hk)]
 have e2:mX K n M'=mX K n M:=by
  unfold mX
  rw[e1]
  congr 1
  refine List.map_congr_left (fun k hk=>?_)
  unfold ajE
  rw[he k (kX.1 hk).1]
 unfold iP
 rw[e1,e2]
 exact h
theorem iP.look {α:Type}{K:MK α}{u:World}{b n:Nat}{M:Nat->Option α}(h:iP K u b n M){k:Nat}{p:α}(hn:n<=4096)(hk:k<n)(hM:M k=some p) :
  (Instr.lookup K.ty (.map (some b)) (.int .i64 (k:Int)) true).run Tryz.prog u=.ok (.tuple #[K.val p,.bool true]) u:=by
 obtain⟨v,ps,hr,hv⟩:=World.ownsMap.look_ok h law3 K.und (K.zero u) K.rdz (dI (k:=k) (by omega))
 rw[ad4 hk hM] at hv
 rw[K.inj _ _ _ hv,pI hk,hM] at hr
 exact hr
theorem iP.gX {α:Type}{K:MK α}{u:World}{b n:Nat}{M:Nat->Option α}(h:iP K u b n M){k:Nat}(hn:n<=4096)(hk:k<n)(hM:M k=none) :
  (Instr.lookup K.ty (.map (some b)) (.int .i64 (k:Int)) true).run Tryz.prog u=.ok (.tuple #[K.z,.bool false]) u:=by
 obtain⟨v,ps,hr,hv⟩:=World.ownsMap.look_ok h law3 K.und (K.zero u) K.rdz (dI (k:=k) (by omega))
 rw[ad3 (fun _=>hM)] at hv
 rw[K.ajr _ _ hv,pI hk,hM] at hr
 exact hr
theorem iP.at {α:Type}{K:MK α}{u:World}{b n:Nat}{M:Nat->Option α}(h:iP K u b n M){k:Nat}{p:α}(hn:n<=4096)(hk:k<n)(hM:M k=some p) :
  (Instr.lookup K.ty (.map (some b)) (.int .i64 (k:Int)) false).run Tryz.prog u=.ok (K.val p) u:=by
 obtain⟨v,ps,hr,hv⟩:=World.ownsMap.lookup h law3 K.und (K.zero u) K.rdz (dI (k:=k) (by omega))
 rw[ad4 hk hM] at hv
 rw[K.inj _ _ _ hv] at hr
 exact hr
theorem iP.agt {α:Type}{K:MK α}{u:World}{b n:Nat}{M:Nat->Option α}(h:iP K u b n M){k:Nat}(hn:n<=4096)(hk:k<n)(hM:M k=none) :
  (Instr.lookup K.ty (.map (some b)) (.int .i64 (k:Int)) false).run Tryz.prog u=.ok K.z u:=by
 obtain⟨v,ps,hr,hv⟩:=World.ownsMap.lookup h law3 K.und (K.zero u) K.rdz (dI (k:=k) (by omega))
 rw[ad3 (fun _=>hM)] at hv
 rw[K.ajr _ _ hv] at hr
 exact hr
theorem iP.put {α:Type}{K:MK α}{u:World}{b n:Nat}{M:Nat->Option α}(h:iP K u b n M){k:Nat}(p:α)(hn:n<=4096)(hk:k<n) :
  ∃ u',(Instr.mapUpdate K.ty (.map (some b)) (.int .i64 (k:Int)) (K.val p)).run Tryz.prog u=.ok () u'/\iP K u' b n (fun j=>if j=k then some p else M j)/\u.grownBy u' (some b)/\u'.heap.size=u.heap.size:=by
 have hl:=adB n M
 obtain⟨u',hr,ho,ht⟩:=World.ownsMap.store h law3 K.und (by unfold maxLen;omega) (dI (k:=k) (by omega)) (K.rds p)
 have hD:(mX K n M).put (.int .i64 (k:Int)) (K.enc p)=mX K n (fun j=>if j=k then some p else M j):=by
  refine Maps.ext (ho.canon law3) (aa4 _ _ _) (fun kl=>?_) (fun kl z hkl=>?_)
  ·by_cases e:kl=.int .i64 (k:Int)
   ·subst e
    rw[has_put_same (show IsMap (mX K n M) from ⟨_,rfl⟩) (show WideAt.IsKeyLit (.int .i64 (k:Int)) from trivial),pI hk]
    simp
   ·rw[has_put_other e,Bool.eq_iff_iff,wH,wH]
    constructor
    ·rintro ⟨j,h1,h2,rfl⟩
     have:j≠k:=fun e'=>e (by rw[e'])
     exact⟨j,h1,by simp[this,h2],rfl⟩
    ·rintro ⟨j,h1,h2,rfl⟩
     have:j≠k:=fun e'=>e (by rw[e'])
     exact⟨j,h1,by simpa [this] using h2,rfl⟩
  ·by_cases e:kl=.int .i64 (k:Int)
   ·subst e
    rw[atKey_put_same (show IsMap (mX K n M) from ⟨_,rfl⟩) (show WideAt.IsKeyLit (.int .i64 (k:Int)) from trivial),ad4 (p:=p) hk (by simp)]
   ·rw[has_put_other e] at hkl
    obtain⟨j,h1,h2,rfl⟩:=wH.1 hkl
    have hj:j≠k:=fun e'=>e (by rw[e'])
    obtain⟨q,hq⟩:=Option.isSome_iff_exists.1 h2
    rw[atKey_put_other e,ad4 (p:=q) h1 hq,ad4 (p:=q) h1 (by simp[hj,hq])]
 rw[hD] at ho
 refine⟨u',hr,iP.of ho,ht.grown,?_⟩
 obtain⟨es,c,es',c',hb,rfl⟩:=ht
 simp[ChangeMaps.setBlock]
theorem afC {α}(K:MK α)(n:Nat):mX K n (fun _=>none)=.map []:=by
 have:mF n (fun _=>(none:Option α))=[]:=by simp[mF]
 simp[mX,this]
theorem iP.made {α}(K:MK α)(w:World)(n:Nat):iP K (w.alloc (.map #[] 0)) w.heap.size n (fun _=>none):=by
 exact iP.of (by rw[afC];exact World.ownsMap_made w Tryz.prog 3 K.rd)
def agj (r:Nat×Nat):DataW Unit:=.agg [.lit (.int .i64 (r.1:Int)),.lit (.int .i64 (r.2:Int))]
def rdB (blk:Nat):Value->Option (DataW Unit×List MemPlace)
 | .slice none 0 0=>some (.nil,[])
 | .slice (some ⟨p,0,none⟩) n c=>if n=blk then some (agj (p,c),[]) else none
 | _=>none
theorem aft (blk:Nat)(r:Nat×Nat):rdB blk (rv blk r)=some (agj r,[]):=by simp[rdB,rv]
theorem aav (blk:Nat):rdB blk (.slice none 0 0)=some (.nil,[]):=rfl
theorem ag9 {blk:Nat}{v:Value}{r:Nat×Nat}{ps:List MemPlace}(h:rdB blk v=some (agj r,ps)):v=rv blk r:=by
 unfold rdB at h
 split at h
 ·simp[agj] at h
 ·split at h
  ·rename_i p n c e
   subst e
   simp[agj] at h
   obtain⟨⟨h1,h2⟩,_⟩:=h
   have e1:p=r.1:=by omega
   have e2:c=r.2:=by omega
   rw[e1,e2]
  ·cases h
 ·cases h
def keysB (n:Nat) (M:Nat->Option (Nat×Nat)):List Nat:=(List.range n).filter (fun k=>(M k).isSome)
theorem wF {n:Nat}{M:Nat->Option (Nat×Nat)}{k:Nat}:k∈keysB n M↔k<n/\(M k).isSome=true:=by simp[keysB]
theorem nD (n:Nat)(M:Nat->Option (Nat×Nat)):(keysB n M).Pairwise (·<·):=(List.pairwise_lt_range).filter _
theorem adC (n:Nat)(M:Nat->Option (Nat×Nat)):(keysB n M).length<=n:=by
 have:=List.length_filter_le (fun k=>(M k).isSome) (List.range n)
 simpa [keysB] using this
def ajG (M:Nat->Option (Nat×Nat)) (k:Nat):Lit×DataW Unit:=(.int .i64 (k:Int),agj ((M k).getD (0,0)))
def mB (n:Nat) (M:Nat->Option (Nat×Nat)):DataW Unit:=.map ((keysB n M).map (ajG M))
theorem zx (n:Nat)(M:Nat->Option (Nat×Nat)):Maps.size (mB n M)=(keysB n M).length:=by simp[mB,Maps.size]
theorem afE (n:Nat)(M:Nat->Option (Nat×Nat)):Canon (mB n M):=by
 refine⟨_,rfl,?_,fun p hp=>?_⟩
 ·rw[List.pairwise_map]
  refine(nD n M).imp (fun {a b} h=>?_)
  simp[ajG,Lit.before]
  omega
 ·obtain⟨k,_,rfl⟩:=List.mem_map.1 hp
  trivial
theorem akt {n:Nat}{M:Nat->Option (Nat×Nat)}{k:Nat}{p:Nat×Nat}(hk:k<n)(hM:M k=some p)(z:DataW Unit):(mB n M).atKey (.int .i64 (k:Int)) z=agj p:=by
 refine WideAt.atKey_mem z trivial ?_ (List.mem_map.2 ⟨k,wF.2 ⟨hk,by rw[hM];rfl⟩,?_⟩)
 ·obtain⟨es,e,hp,_⟩:=afE n M
  cases e
  exact apart_of_rising hp
 ·simp[ajG,hM]
def qC (u:World) (blk b n:Nat) (M:Nat->Option (Nat×Nat)):Prop:=u.ownsMap Tryz.prog 3 (rdB blk) b (keysB n M).length (mB n M)
theorem qC.of {u:World}{blk b n m:Nat}{M:Nat->Option (Nat×Nat)}(h:u.ownsMap Tryz.prog 3 (rdB blk) b m (mB n M)):qC u blk b n M:=by
 obtain⟨es,clock,hb,F,hs,hD⟩:=h
 refine⟨es,clock,hb,F,?_,hD⟩
 have:=congrArg Maps.size hD
 rw[zx,Maps.size_eq,length_read] at this
 omega
theorem qC.lt {u blk b n M}(h:qC u blk b n M):b<u.heap.size:=World.ownsMap.lt h
theorem qC.obj {u blk b n M}(h:qC u blk b n M):∃ es c,u.heap[b]?=some (.map es c):=by
 obtain⟨es,c,hb,_⟩:=h;exact⟨es,c,hb⟩
theorem qC.kept {u u':World}{blk b n M}(h:qC u blk b n M)(hk:u'.heap[b]?=u.heap[b]?):qC u' blk b n M:=by
 obtain⟨es,clock,hb,r⟩:=h
 exact⟨es,clock,hk.trans hb,r⟩
theorem qC.congr {u blk b n}{M M':Nat->Option (Nat×Nat)}(h:qC u blk b n M)(he:∀ k,k<n->M' k=M k):qC u blk b n M':=by
 have e1:keysB n M'=keysB n M:=by
  unfold keysB
  refine List.filter_congr (fun k hk=>?_)
  rw[he k (by simpa using hk)]
 have e2:mB n M'=mB n M:=by
  unfold mB
  rw[e1]
  congr 1
  refine List.map_congr_left (fun k hk=>?_)
  unfold ajG
  rw[he k (wF.1 hk).1]
 unfold qC
 rw[e1,e2]
 exact h
theorem acv (w:World):(zeroValue 71).run Tryz.prog w=.ok (.slice none 0 0) w:=by kernel_rfl
theorem qC.look {u blk b n M}(h:qC u blk b n M){k:Nat}{p:Nat×Nat}(hn:n<=4096)(hk:k<n)(hM:M k=some p) :
  (Instr.lookup 99 (.map (some b)) (.int .i64 (k:Int)) false).run Tryz.prog u=.ok (rv blk p) u:=by
 obtain⟨v,ps,hr,hv⟩:=World.ownsMap.lookup h law3 Tryz.underlying99 (acv u) (aav blk) (dI (k:=k) (by omega))
 rw[akt hk hM] at hv
 rw[ag9 hv] at hr
 exact hr
theorem afD (n:Nat):mB n (fun _=>none)=.map []:=by
 have:keysB n (fun _=>none)=[]:=by simp[keysB]
 simp[mB,this]
theorem qC.made (w:World)(blk n:Nat):qC (w.alloc (.map #[] 0)) blk w.heap.size n (fun _=>none):=by
 exact qC.of (by rw[afD];exact World.ownsMap_made w Tryz.prog 3 (rdB blk))
end Go.Proofs.YtefdkpbmeoakgaaGreatDoor
