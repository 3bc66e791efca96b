/- Joined: KMap, KBase, KLeaf, KWrite, GColl. -/
import Derived.Test.YtefdkpbmeoakgaaGreatDoorDnJ3
import Derived.Maps.OwnSet
import Derived.Maps.RangeWalk
import Derived.Maps.Ext
import Derived.Test.YtefdkpbmeoakgaaGreatDoorDnJ10
import Derived.Test.YtefdkpbmeoakgaaGreatDoorDnJ2
import Derived.Test.YtefdkpbmeoakgaaGreatDoorDnJ8
import Derived.Test.YtefdkpbmeoakgaaGreatDoorDnJ7
import Derived.Test.YtefdkpbmeoakgaaGreatDoorDnJ13
/- A map from numbers to lines in memory: what it holds, as a function of the number. -/
namespace Go.Proofs.YtefdkpbmeoakgaaGreatDoor
set_option maxRecDepth 100000
set_option maxHeartbeats 8000000
open Go.RowKit Go.Shelf Go.Maps
set_option linter.unusedVariables false
def rdP:Value->Option (DataW Unit×List MemPlace)
 | .pointer none=>some (.lit (.int .i64 (-1)),[])
 | .pointer (some ⟨p,0,none⟩)=>some (.lit (.int .i64 (p:Int)),[])
 | _=>none
theorem afr (p:Nat):rdP (.pointer (some ⟨p,0,none⟩))=some (.lit (.int .i64 (p:Int)),[]):=rfl
theorem aau:rdP (.pointer none)=some (.lit (.int .i64 (-1)),[]):=rfl
def mkP:Option Nat->Value
 | none=>.pointer none
 | some p=>.pointer (some ⟨p,0,none⟩)
theorem yU {v:Value}{y:DataW Unit×List MemPlace}(h:rdP v=some y):∃ o,v=mkP o/\y.1=.lit (.int .i64 (match o with | none=>-1 | some p=>(p:Int))):=by
 unfold rdP at h
 split at h
 ·cases h;exact⟨none,rfl,rfl⟩
 ·rename_i p;cases h;exact⟨some p,rfl,rfl⟩
 ·cases h
theorem ag8 {v:Value}{p:Nat}{ps:List MemPlace}(h:rdP v=some (.lit (.int .i64 (p:Int)),ps)):v=.pointer (some ⟨p,0,none⟩):=by
 obtain⟨o,rfl,e⟩:=yU h
 cases o with
 | none =>
  have:(-1:Int)=p:=by simpa using e.symm
  omega
 | some q =>
  have:(q:Int)=p:=by simpa using e.symm
  have:q=p:=by omega
  rw[this];rfl
theorem aiV {v:Value}{ps:List MemPlace}(h:rdP v=some (.lit (.int .i64 (-1)),ps)):v=.pointer none:=by
 obtain⟨o,rfl,e⟩:=yU h
 cases o with
 | none=>rfl
 | some q =>
  have:(q:Int)=-1:=by simpa using e.symm
  omega
def keysOf (n:Nat) (M:Nat->Option Nat):List Nat:=(List.range n).filter (fun k=>(M k).isSome)
theorem mem_keys {n:Nat}{M:Nat->Option Nat}{k:Nat}:k∈keysOf n M↔k<n/\(M k).isSome=true:=by simp[keysOf]
theorem zD (n:Nat)(M:Nat->Option Nat):(keysOf n M).Pairwise (·<·):=(List.pairwise_lt_range).filter _
theorem afI (n:Nat)(M:Nat->Option Nat):(keysOf n M).length<=n:=by
 have:=List.length_filter_le (fun k=>(M k).isSome) (List.range n)
 simpa [keysOf] using this
def ajF (M:Nat->Option Nat) (k:Nat):Lit×DataW Unit:=(.int .i64 (k:Int),.lit (.int .i64 (((M k).getD 0:Nat):Int)))
def mD (n:Nat) (M:Nat->Option Nat):DataW Unit:=.map ((keysOf n M).map (ajF M))
theorem ad5 (n:Nat)(M:Nat->Option Nat):Maps.size (mD n M)=(keysOf n M).length:=by simp[mD,Maps.size]
theorem uz (n:Nat)(M:Nat->Option Nat):Canon (mD n M):=by
 refine⟨_,rfl,?_,fun p hp=>?_⟩
 ·rw[List.pairwise_map]
  refine(zD n M).imp (fun {a b} h=>?_)
  simp[ajF,Lit.before]
  omega
 ·obtain⟨k,_,rfl⟩:=List.mem_map.1 hp
  trivial
theorem nC {n:Nat}{M:Nat->Option Nat}{kl:Lit}:Maps.has (mD n M) kl=true↔∃ k,k<n/\(M k).isSome=true/\kl=.int .i64 (k:Int):=by
 unfold mD
 rw[Maps.has_eq,List.any_eq_true]
 constructor
 ·rintro ⟨p,hp,hs⟩
  obtain⟨k,hk,rfl⟩:=List.mem_map.1 hp
  obtain⟨h1,h2⟩:=mem_keys.1 hk
  exact⟨k,h1,h2,(WideAt.sameKey_eq hs).symm⟩
 ·rintro ⟨k,h1,h2,rfl⟩
  exact⟨ajF M k,List.mem_map.2 ⟨k,mem_keys.2 ⟨h1,h2⟩,rfl⟩,WideAt.sameKey_self trivial⟩
theorem iM {n:Nat}{M:Nat->Option Nat}{k:Nat}(hk:k<n):Maps.has (mD n M) (.int .i64 (k:Int))=(M k).isSome:=by
 rw[Bool.eq_iff_iff,nC]
 constructor
 ·rintro ⟨j,_,h2,e⟩
  have:(k:Int)=j:=by simpa using e
  have:k=j:=by omega
  rw[this];exact h2
 ·intro h
  exact⟨k,hk,h,rfl⟩
theorem zu {n:Nat}{M:Nat->Option Nat}{k p:Nat}(hk:k<n)(hM:M k=some p)(z:DataW Unit):(mD n M).atKey (.int .i64 (k:Int)) z=.lit (.int .i64 (p:Int)):=by
 refine WideAt.atKey_mem z trivial ?_ (List.mem_map.2 ⟨k,mem_keys.2 ⟨hk,by rw[hM];rfl⟩,?_⟩)
 ·obtain⟨es,e,hp,_⟩:=uz n M
  cases e
  exact apart_of_rising hp
 ·simp[ajF,hM]
theorem ah6 {n:Nat}{M:Nat->Option Nat}{k:Nat}(hk:k<n)(hM:M k=none)(z:DataW Unit):(mD n M).atKey (.int .i64 (k:Int)) z=z :=
 atKey_of_not_has (by rw[iM hk,hM];rfl) z
def bW (u:World) (b n:Nat) (M:Nat->Option Nat):Prop:=u.ownsMap Tryz.prog 3 rdP b (keysOf n M).length (mD n M)
theorem bW.of {u:World}{b n m:Nat}{M:Nat->Option Nat}(h:u.ownsMap Tryz.prog 3 rdP b m (mD n M)):bW u b n M:=by
 obtain⟨es,clock,hb,F,hs,hD⟩:=h
 refine⟨es,clock,hb,F,?_,hD⟩
 have:=congrArg Maps.size hD
 rw[ad5,Maps.size_eq,length_read] at this
 omega
theorem bW.lt {u b n M}(h:bW u b n M):b<u.heap.size:=World.ownsMap.lt h
theorem bW.obj {u b n M}(h:bW u b n M):∃ es c,u.heap[b]?=some (.map es c):=by
 obtain⟨es,c,hb,_⟩:=h;exact⟨es,c,hb⟩
theorem bW.kept {u u':World}{b n M}(h:bW u b n M)(hk:u'.heap[b]?=u.heap[b]?):bW u' b n M:=by
 obtain⟨es,clock,hb,r⟩:=h
 exact⟨es,clock,hk.trans hb,r⟩
theorem bW.congr {u b n}{M M':Nat->Option Nat}(h:bW u b n M)(he:∀ k,k<n->M' k=M k):bW u b n M':=by
 have e1:keysOf n M'=keysOf n M:=by
  unfold keysOf
  refine List.filter_congr (fun k hk=>?_)
  rw[he k (by simpa using hk)]
 have e2:mD n M'=mD n M:=by
  unfold mD
  rw[e1]
  congr 1
  refine List.map_congr_left (fun k hk=>?_)
  unfold ajF
  rw[he k (mem_keys.1 hk).1]
 unfold bW
 rw[e1,e2]
 exact h
theorem ai9 (w:World):(zeroValue 275).run Tryz.prog w=.ok (.pointer none) w:=by kernel_rfl
theorem bW.look {u b n M}(h:bW u b n M){k p:Nat}(hn:n<=4096)(hk:k<n)(hM:M k=some p) :
  (Instr.lookup 104 (.map (some b)) (.int .i64 (k:Int)) true).run Tryz.prog u=.ok (.tuple #[.pointer (some ⟨p,0,none⟩),.bool true]) u:=by
 obtain⟨v,ps,hr,hv⟩:=World.ownsMap.look_ok h law3 Tryz.underlying104 (ai9 u) aau (dI (k:=k) (by omega))
 rw[zu hk hM] at hv
 rw[ag8 hv,iM hk,hM] at hr
 exact hr
theorem bW.gX {u b n M}(h:bW u b n M){k:Nat}(hn:n<=4096)(hk:k<n)(hM:M k=none) :
  (Instr.lookup 104 (.map (some b)) (.int .i64 (k:Int)) true).run Tryz.prog u=.ok (.tuple #[.pointer none,.bool false]) u:=by
 obtain⟨v,ps,hr,hv⟩:=World.ownsMap.look_ok h law3 Tryz.underlying104 (ai9 u) aau (dI (k:=k) (by omega))
 rw[ah6 hk hM] at hv
 rw[aiV hv,iM hk,hM] at hr
 exact hr
theorem bW.len {u b n M}(h:bW u b n M)(ty:TypeId):(Builtin.len_ #[104] ty #[.map (some b)]).run Tryz.prog u=.ok (.int .i64 ((keysOf n M).length:Int)) u:=by
 have:=World.ownsMap.len h Tryz.underlying104 ty
 rwa [ad5] at this
theorem bW.put {u b n M}(h:bW u b n M){k:Nat}(p:Nat)(hn:n<=4096)(hk:k<n) :
  ∃ u',(Instr.mapUpdate 104 (.map (some b)) (.int .i64 (k:Int)) (.pointer (some ⟨p,0,none⟩))).run Tryz.prog u=.ok () u'/\bW u' b n (fun j=>if j=k then some p else M j)/\u.grownBy u' (some b)/\u'.heap.size=u.heap.size:=by
 have hl:=afI n M
 obtain⟨u',hr,ho,ht⟩:=World.ownsMap.store h law3 Tryz.underlying104 (by unfold maxLen;omega) (dI (k:=k) (by omega)) (afr p)
 have hD:(mD n M).put (.int .i64 (k:Int)) (.lit (.int .i64 (p:Int)))=mD n (fun j=>if j=k then some p else M j):=by
  refine Maps.ext (ho.canon law3) (uz _ _) (fun kl=>?_) (fun kl z hkl=>?_)
  ·by_cases e:kl=.int .i64 (k:Int)
   ·subst e
    rw[has_put_same (show IsMap (mD n M) from ⟨_,rfl⟩) (show WideAt.IsKeyLit (.int .i64 (k:Int)) from trivial),iM hk]
    simp
   ·rw[has_put_other e,Bool.eq_iff_iff,nC,nC]
    constructor
    ·rintro ⟨j,h1,h2,rfl⟩
     have:j≠k:=fun e'=>e (by rw[e'])
     exact⟨j,h1,by simp[this,h2],rfl⟩
    ·rintro ⟨j,h1,h2,rfl⟩
     have:j≠k:=fun e'=>e (by rw[e'])
     exact⟨j,h1,by simpa [this] using h2,rfl⟩
  ·by_cases e:kl=.int .i64 (k:Int)
   ·subst e
    rw[atKey_put_same (show IsMap (mD n M) from ⟨_,rfl⟩) (show WideAt.IsKeyLit (.int .i64 (k:Int)) from trivial),zu (p:=p) hk (by simp)]
   ·rw[has_put_other e] at hkl
    obtain⟨j,h1,h2,rfl⟩:=nC.1 hkl
    have hj:j≠k:=fun e'=>e (by rw[e'])
    obtain⟨q,hq⟩:=Option.isSome_iff_exists.1 h2
    rw[atKey_put_other e,zu (p:=q) h1 hq,zu (p:=q) h1 (by simp[hj,hq])]
 rw[hD] at ho
 refine⟨u',hr,bW.of ho,ht.grown,?_⟩
 obtain⟨es,c,es',c',hb,rfl⟩:=ht
 simp[ChangeMaps.setBlock]
theorem bW.del {u b n M}(h:bW u b n M){k:Nat}(hn:n<=4096)(hk:k<n) :
  ∃ u',(∀ ty,(Builtin.delete_ #[104,3] ty #[.map (some b),.int .i64 (k:Int)]).run Tryz.prog u=.ok (.tuple #[]) u')/\bW u' b n (fun j=>if j=k then none else M j)/\u.grownBy u' (some b)/\u'.heap.size=u.heap.size:=by
 obtain⟨u',hr,ho,ht⟩:=World.ownsMap.drop h law3 Tryz.underlying104 (dI (k:=k) (by omega)) 0
 have hD:(mD n M).del (.int .i64 (k:Int))=mD n (fun j=>if j=k then none else M j):=by
  refine Maps.ext (ho.canon law3) (uz _ _) (fun kl=>?_) (fun kl z hkl=>?_)
  ·by_cases e:kl=.int .i64 (k:Int)
   ·subst e
    rw[has_del_same,iM hk]
    simp
   ·rw[has_del_other e,Bool.eq_iff_iff,nC,nC]
    constructor
    ·rintro ⟨j,h1,h2,rfl⟩
     have:j≠k:=fun e'=>e (by rw[e'])
     exact⟨j,h1,by simp[this,h2],rfl⟩
    ·rintro ⟨j,h1,h2,rfl⟩
     have:j≠k:=fun e'=>e (by rw[e'])
     exact⟨j,h1,by simpa [this] using h2,rfl⟩
  ·by_cases e:kl=.int .i64 (k:Int)
   ·subst e
    rw[has_del_same] at hkl
    cases hkl
   ·rw[has_del_other e] at hkl
    obtain⟨j,h1,h2,rfl⟩:=nC.1 hkl
    have hj:j≠k:=fun e'=>e (by rw[e'])
    obtain⟨q,hq⟩:=Option.isSome_iff_exists.1 h2
    rw[atKey_del_other e,zu (p:=q) h1 hq,zu (p:=q) h1 (by simp[hj,hq])]
 rw[hD] at ho
 refine⟨u',fun ty=>?_,bW.of ho,ht.grown,?_⟩
 ·exact hr
 ·obtain⟨es,c,es',c',hb,rfl⟩:=ht
  simp[ChangeMaps.setBlock]
theorem bW.made (w:World)(n:Nat):bW (w.alloc (.map #[] 0)) w.heap.size n (fun _=>none):=by
 have e:mD n (fun _=>none)=.map []:=by
  have:keysOf n (fun _=>none)=[]:=by simp[keysOf]
  simp[mD,this]
 exact bW.of (by rw[e];exact World.ownsMap_made w Tryz.prog 3 rdP)
end Go.Proofs.YtefdkpbmeoakgaaGreatDoor
/- A cache in memory: its own block, its map, its lines, their rows and its picks; beside it the device. -/
namespace Go.Proofs.YtefdkpbmeoakgaaGreatDoor
set_option maxRecDepth 100000
set_option maxHeartbeats 8000000
open Go.RowKit Go.Shelf
set_option linter.unusedVariables false
structure Ln where
 z:List Int
 d:Bool
 p:Int
structure Cac where
 cap:Nat
 P:List Int
 L:Nat->Option Ln
def Cac.set (C:Cac) (b:Nat) (l:Ln):Cac:={ C with L:=fun j=>if j=b then some l else C.L j }
def Cac.del (C:Cac) (b:Nat):Cac:={ C with L:=fun j=>if j=b then none else C.L j }
def Cac.next (C:Cac):Cac:={ C with P:=C.P.drop 1 }
def Cac.pick (C:Cac):Int:=C.P[0]?.getD 0
def Cac.those (C:Cac) (n:Nat) (f:Ln->Bool):List Nat:=(List.range n).filter (fun b=>match C.L b with | some l=>f l | none=>false)
structure nS where
 mb:Nat
 pa:Option Addr
 pc:Nat
 q:Nat->Nat
 A:Nat->Nat×Nat
def aew (dg:Nat) (C:Cac) (m:nS) (k:Nat):Value :=
 if k=0 then .pointer (some ⟨dg,0,none⟩) else if k=1 then .int .i64 C.cap else if k=2 then .slice m.pa C.P.length m.pc else .map (some m.mb)
def zy (blk:Nat) (r:Nat×Nat) (l:Ln) (k:Nat):Value:=if k=0 then rv blk r else if k=1 then .bool l.d else .int .i64 l.p
def Cac.M (C:Cac) (m:nS) (b:Nat):Option Nat:=(C.L b).map fun _=>m.q b
structure CcM (u:World) (S:Nat->Prop) (g dg n blk:Nat) (C:Cac) (m:nS):Prop where
 str:u.rowIs g 106 4 (aew dg C m)
 map:bW u m.mb n (C.M m)
 lin:∀ b l,b<n->C.L b=some l->u.rowIs (m.q b) 279 3 (zy blk (m.A b) l)
 row:∀ b l,b<n->C.L b=some l->bP u S blk (m.A b) l.z
 one:∀ b b' l l',b<n->b'<n->C.L b=some l->C.L b'=some l'->m.q b=m.q b'->b=b'
 sg:S g
 sm:S m.mb
 sl:∀ b l,b<n->C.L b=some l->S (m.q b)
 pic:jh u m.pa C.P.length C.P
 pcp:C.P.length<=m.pc/\m.pc<=9223372036854775807
 pbl:∀ x,m.pa=some x->S x.block/\∃ cur,u.heap[x.block]?=some (.cells cur 3)
 lt:∀ k,S k->k<u.heap.size
 cp:1<=C.cap/\C.cap<=512
theorem jE {u u':World}{a len ns}(h:jh u a len ns)(hk:∀ x,a=some x->u'.heap[x.block]?=u.heap[x.block]?):jh u' a len ns:=by
 refine⟨h.1,fun hp=>?_⟩
 obtain⟨b,off,e,hc⟩:=h.2 hp
 refine⟨b,off,e,fun j hj=>?_⟩
 have:=hk _ e
 rw[← hc j hj]
 simp only[World.cell?]
 simp only at this
 rw[this]
theorem CcM.kept {u u':World}{S S':Nat->Prop}{g dg n blk C m}(h:CcM u S g dg n blk C m)(hk:∀ k,S k->u'.heap[k]?=u.heap[k]?)(hS:∀ k,S k->S' k)(hl:∀ k,S' k->k<u'.heap.size):CcM u' S' g dg n blk C m :=
 ⟨h.str.of_block (hk _ h.sg),h.map.kept (hk _ h.sm),fun b l hb e=>(h.lin b l hb e).of_block (hk _ (h.sl b l hb e)),fun b l hb e=>(h.row b l hb e).kept (fun k _ hs _=>hk k hs) hS,h.one,hS _ h.sg,hS _ h.sm,fun b l hb e=>hS _ (h.sl b l hb e),
  jE h.pic (fun x e=>hk _ (h.pbl x e).1),h.pcp,fun x e=>⟨hS _ (h.pbl x e).1,by obtain⟨cur,hc⟩:=(h.pbl x e).2;exact⟨cur,(hk _ (h.pbl x e).1).trans hc⟩⟩,hl,h.cp⟩
theorem CcM.cells {u S g dg n blk C m}(h:CcM u S g dg n blk C m) :
  u.cell? ⟨g,0,none⟩=some (.pointer (some ⟨dg,0,none⟩))/\u.cell? ⟨g,1,none⟩=some (.int .i64 C.cap)/\u.cell? ⟨g,2,none⟩=some (.slice m.pa C.P.length m.pc)/\u.cell? ⟨g,3,none⟩=some (.map (some m.mb))/\(∀ k,u.frozen? ⟨g,k,none⟩=false) :=
 ⟨h.str.cell (i:=0) (by omega),h.str.cell (i:=1) (by omega),h.str.cell (i:=2) (by omega),h.str.cell (i:=3) (by omega),fun k=>h.str.frozen k⟩
theorem CcM.line {u S g dg n blk C m}(h:CcM u S g dg n blk C m){b:Nat}{l:Ln}(hb:b<n)(e:C.L b=some l) :
  u.cell? ⟨m.q b,0,none⟩=some (rv blk (m.A b))/\u.cell? ⟨m.q b,1,none⟩=some (.bool l.d)/\u.cell? ⟨m.q b,2,none⟩=some (.int .i64 l.p)/\(∀ k,u.frozen? ⟨m.q b,k,none⟩=false) :=
 ⟨(h.lin b l hb e).cell (i:=0) (by omega),(h.lin b l hb e).cell (i:=1) (by omega),(h.lin b l hb e).cell (i:=2) (by omega),fun k=>(h.lin b l hb e).frozen k⟩
theorem CcM.aeC {u S g dg n blk C m}(h:CcM u S g dg n blk C m){b:Nat}{l:Ln}(e:C.L b=some l):C.M m b=some (m.q b):=by simp[Cac.M,e]
theorem agE {u b n M}(h:bW u b n M){k t n':Nat}{f:Nat->Value}(h':u.rowIs k t n' f):b≠k:=by
 intro e
 subst e
 obtain⟨es,c,hb⟩:=h.obj
 obtain⟨cs,hc,_⟩:=h'
 rw[hc] at hb
 cases hb
theorem ad1 {u b n M}(h:bW u b n M){k t:Nat}{c:Array Value}{q:Nat×Nat}(h':u.heap[k]?=some (.cells c t q)):k≠b:=by
 intro e
 subst e
 obtain⟨es,c,hb⟩:=h.obj
 rw[hb] at h'
 cases h'
theorem CcM.alV {u S g dg n blk C m}(h:CcM u S g dg n blk C m){b:Nat}{l l':Ln}{r':Nat×Nat}(hb:b<n)(e:C.L b=some l)(j:Nat)(v:Value)
  (hc:∀ i,i<3->zy blk r' l' i=if i=j then v else zy blk (m.A b) l i) (hr:bP u S blk r' l'.z) :
  CcM (u.setCell ⟨m.q b,j,none⟩ v) S g dg n blk (C.set b l') { m with A:=fun k=>if k=b then r' else m.A k }:=by
 have hlb:=h.lin b l hb e
 have ne:∀ k' c t,t≠279->u.heap[k']?=some (Obj.cells c t)->(u.setCell ⟨m.q b,j,none⟩ v).heap[k']?=u.heap[k']?:=fun k' c t ht hh =>
  Below.heap_setCell _ _ _ _ (row_ne hlb hh (fun e=>ht e.symm))
 have kr:∀ {r:Nat×Nat} {zs:List Int},bP u S blk r zs->bP (u.setCell ⟨m.q b,j,none⟩ v) S blk r zs:=fun hh=>hh.kept (fun k' c _ hx=>ne k' c 5 (by decide) hx) (fun _ h=>h)
 refine⟨(h.str.setOther (fA hlb h.str (by decide)) v).congr (fun i hi=>rfl),?_,?_,?_,?_,h.sg,h.sm,?_,jE h.pic (fun x ex=>?_),h.pcp,fun x ex=>?_,fun k' hk'=>by simpa [World.setCell] using h.lt k' hk',h.cp⟩
 ·refine(h.map.kept (Below.heap_setCell _ _ _ _ (agE h.map hlb))).congr (fun k hk=>?_)
  unfold Cac.M Cac.set
  by_cases ek:k=b
  ·simp[ek,e]
  ·simp[ek]
 ·intro b2 l2 hb2 e2
  by_cases eb:b2=b
  ·subst eb
   simp[Cac.set] at e2
   subst e2
   simp only[if_true]
   exact(hlb.set j v).congr (fun i hi=>(hc i hi).symm)
  ·have e2':C.L b2=some l2:=by simpa [Cac.set,eb] using e2
   simp only[if_neg eb]
   exact(h.lin b2 l2 hb2 e2').setOther (fun ex=>eb (h.one b2 b l2 l hb2 hb e2' e ex)) v
 ·intro b2 l2 hb2 e2
  by_cases eb:b2=b
  ·subst eb
   simp[Cac.set] at e2
   subst e2
   simp only[if_true]
   exact kr hr
  ·have e2':C.L b2=some l2:=by simpa [Cac.set,eb] using e2
   simp only[if_neg eb]
   exact kr (h.row b2 l2 hb2 e2')
 ·intro b1 b2 l1 l2 hb1 hb2 e1 e2 eq
  have f:∀ b2 l2,(C.set b l').L b2=some l2->∃ l3,C.L b2=some l3:=fun b2 l2 e2=>by
   by_cases eb:b2=b
   ·subst eb;exact⟨l,e⟩
   ·exact⟨l2,by simpa [Cac.set,eb] using e2⟩
  obtain⟨l3,e3⟩:=f b1 l1 e1
  obtain⟨l4,e4⟩:=f b2 l2 e2
  exact h.one b1 b2 l3 l4 hb1 hb2 e3 e4 eq
 ·intro b2 l2 hb2 e2
  by_cases eb:b2=b
  ·subst eb;exact h.sl _ _ hb e
  ·exact h.sl b2 l2 hb2 (by simpa [Cac.set,eb] using e2)
 ·obtain⟨_,cur,hx⟩:=h.pbl x ex
  exact ne _ _ 3 (by decide) hx
 ·obtain⟨hs,cur,hx⟩:=h.pbl x ex
  exact⟨hs,cur,(ne _ _ 3 (by decide) hx).trans hx⟩
theorem CcM.alU {u S g dg n blk C m}(h:CcM u S g dg n blk C m)(P':List Int)(pa:Option Addr)(pc:Nat)(hp:jh u pa P'.length P')(hc:P'.length<=pc/\pc<=9223372036854775807)
  (hb:∀ x,pa=some x->S x.block/\∃ cur,u.heap[x.block]?=some (.cells cur 3)) :
  CcM (u.setCell ⟨g,2,none⟩ (.slice pa P'.length pc)) S g dg n blk { C with P:=P' } { m with pa:=pa,pc:=pc }:=by
 have ne:∀ k' c t,t≠106->u.heap[k']?=some (Obj.cells c t)->(u.setCell ⟨g,2,none⟩ (.slice pa P'.length pc)).heap[k']?=u.heap[k']?:=fun k' c t ht hh =>
  Below.heap_setCell _ _ _ _ (row_ne h.str hh (fun e=>ht e.symm))
 refine⟨(h.str.set 2 _).congr (fun i hi=>?_),h.map.kept (Below.heap_setCell _ _ _ _ (agE h.map h.str)),fun b l hb e=>(h.lin b l hb e).setOther (fA h.str (h.lin b l hb e) (by decide)) _,fun b l hb e=>(h.row b l hb e).kept (fun k' c _ hx=>ne k' c 5 (by decide) hx) (fun _ h=>h),
  h.one,h.sg,h.sm,h.sl,jE hp (fun x ex=>?_),hc,fun x ex=>?_,fun k' hk'=>by simpa [World.setCell] using h.lt k' hk',h.cp⟩
 ·have:i=0\/i=1\/i=2\/i=3:=by omega
  rcases this with rfl | rfl | rfl | rfl<;>simp[aew]
 ·obtain⟨_,cur,hx⟩:=hb x ex
  exact ne _ _ 3 (by decide) hx
 ·obtain⟨hs,cur,hx⟩:=hb x ex
  exact⟨hs,cur,(ne _ _ 3 (by decide) hx).trans hx⟩
theorem CcM.turned {u u':World}{S g dg n blk}{C C':Cac}{m}(h:CcM u S g dg n blk C m)(hg:u.grownBy u' (some m.mb))(hz:u'.heap.size=u.heap.size)(hC:C'.cap=C.cap/\C'.P=C.P)(hM:bW u' m.mb n (C'.M m))
  (hl:∀ b l,b<n->C'.L b=some l->C.L b=some l):CcM u' S g dg n blk C' m:=by
 have ne:∀ k' c t q,u.heap[k']?=some (Obj.cells c t q)->u'.heap[k']?=u.heap[k']?:=fun k' c t q hh =>
  hg.block k' (Array.getElem?_eq_some_iff.1 hh).1 (fun e=>ad1 h.map hh (by simpa using e))
 have nr:∀ {k t n':Nat} {f:Nat->Value},u.rowIs k t n' f->u'.rowIs k t n' f:=fun hh=>by
  obtain⟨c,hc,r⟩:=hh
  exact⟨c,(ne _ _ _ _ hc).trans hc,r⟩
 refine⟨(nr h.str).congr (fun i hi=>?_),hM,fun b l hb e=>nr (h.lin b l hb (hl b l hb e)),fun b l hb e=>(h.row b l hb (hl b l hb e)).kept (fun k' c _ hx=>ne _ _ _ _ hx) (fun _ h=>h),fun b b' l l' hb hb' e e'=>h.one b b' l l' hb hb' (hl b l hb e) (hl b' l' hb' e'),h.sg,h.sm,fun b l hb e=>h.sl b l hb (hl b l hb e),?_,?_,fun x ex=>?_,fun k hk=>by rw[hz];exact h.lt k hk,by rw[hC.1];exact h.cp⟩
 ·simp only[aew,hC.1,hC.2]
 ·rw[hC.2]
  exact jE h.pic (fun x ex=>by obtain⟨_,cur,hx⟩:=h.pbl x ex;exact ne _ _ _ _ hx)
 ·rw[hC.2];exact h.pcp
 ·obtain⟨hs,cur,hx⟩:=h.pbl x ex
  exact⟨hs,cur,(ne _ _ _ _ hx).trans hx⟩
theorem CcM.drop {u S g dg n blk C m}(h:CcM u S g dg n blk C m)(hn:n<=4096){b:Nat}(hb:b<n) :
  ∃ u',(∀ ty,(Builtin.delete_ #[104,3] ty #[.map (some m.mb),.int .i64 (b:Int)]).run Tryz.prog u=.ok (.tuple #[]) u')/\CcM u' S g dg n blk (C.del b) m/\Nx S u S u':=by
 obtain⟨u',hr,hM,hg,hz⟩:=h.map.del hn hb
 refine⟨u',hr,h.turned hg hz ⟨rfl,rfl⟩ (hM.congr (fun k hk=>?_)) (fun b2 l hb2 e=>?_),⟨⟨hg.os,hg.tape,hg.output,by omega,fun k hk hn=>hg.block k hk (fun e=>hn (by cases e;exact h.sm))⟩,fun _ _ h=>h⟩⟩
 ·unfold Cac.M Cac.del
  by_cases e:k=b<;>simp[e]
 ·by_cases e2:b2=b
  ·simp[Cac.del,e2] at e
  ·simpa [Cac.del,e2] using e
theorem CcM.add {u u1:World}{S S1:Nat->Prop}{g dg n blk C m}(h:CcM u S g dg n blk C m)(hn:n<=4096){b:Nat}(hb:b<n)(hb1:Below u.heap.size u u1){q:Nat}{r:Nat×Nat}{l:Ln}(hq:u.heap.size<=q)(hl:u1.rowIs q 279 3 (zy blk r l))(hr:bP u1 S1 blk r l.z)
  (hS:∀ k,S k->S1 k) (hS1:∀ k,S1 k->k<u1.heap.size) (hsq:S1 q) :
  ∃ u',(Instr.mapUpdate 104 (.map (some m.mb)) (.int .i64 (b:Int)) (.pointer (some ⟨q,0,none⟩))).run Tryz.prog u1=.ok () u' /\
   CcM u' S1 g dg n blk (C.set b l) { m with q:=fun k=>if k=b then q else m.q k,A:=fun k=>if k=b then r else m.A k }/\Nx S1 u1 S1 u':=by
 have h1:CcM u1 S1 g dg n blk C m:=h.kept (fun k hk=>hb1.block k (h.lt k hk)) hS hS1
 obtain⟨u',hrn,hM,hg,hz⟩:=h1.map.put q hn hb
 have ne:∀ k' c t p,u1.heap[k']?=some (Obj.cells c t p)->u'.heap[k']?=u1.heap[k']?:=fun k' c t p hh =>
  hg.block k' (Array.getElem?_eq_some_iff.1 hh).1 (fun e=>ad1 h1.map hh (by simpa using e))
 have nr:∀ {k t n':Nat} {f:Nat->Value},u1.rowIs k t n' f->u'.rowIs k t n' f:=fun hh=>by
  obtain⟨c,hc,r⟩:=hh
  exact⟨c,(ne _ _ _ _ hc).trans hc,r⟩
 have kr:∀ {r:Nat×Nat} {zs:List Int},bP u1 S1 blk r zs->bP u' S1 blk r zs:=fun hh=>hh.kept (fun k' c _ hx=>ne _ _ _ _ hx) (fun _ h=>h)
 have old:∀ b2 l2,b2<n->C.L b2=some l2->m.q b2<u.heap.size:=fun b2 l2 h2 e2=>h.lt _ (h.sl b2 l2 h2 e2)
 refine⟨u',hrn,⟨(nr h1.str).congr (fun i hi=>rfl),hM.congr (fun k hk=>?_),fun b2 l2 hb2 e2=>?_,fun b2 l2 hb2 e2=>?_,fun b1 b2 l1 l2 x1 x2 e1 e2 eq=>?_,h1.sg,h1.sm,fun b2 l2 hb2 e2=>?_,jE h1.pic (fun x ex=>?_),h1.pcp,fun x ex=>?_,fun k hk=>by rw[hz];exact hS1 k hk,h1.cp⟩,⟨⟨hg.os,hg.tape,hg.output,by omega,fun k hk hn=>hg.block k hk (fun e=>hn (by cases e;exact h1.sm))⟩,fun _ _ h=>h⟩⟩
 ·unfold Cac.M Cac.set
  by_cases e:k=b<;>simp[e]
 ·by_cases eb:b2=b
  ·simp[Cac.set,eb] at e2
   subst e2
   simp only[eb,if_true]
   exact nr hl
  ·simp only[if_neg eb]
   exact nr (h1.lin b2 l2 hb2 (by simpa [Cac.set,eb] using e2))
 ·by_cases eb:b2=b
  ·simp[Cac.set,eb] at e2
   subst e2
   simp only[eb,if_true]
   exact kr hr
  ·simp only[if_neg eb]
   exact kr (h1.row b2 l2 hb2 (by simpa [Cac.set,eb] using e2))
 ·by_cases f1:b1=b
  ·by_cases f2:b2=b
   ·omega
   ·simp only[f1,if_true,if_neg f2] at eq
    have:=old b2 l2 x2 (by simpa [Cac.set,f2] using e2)
    omega
  ·by_cases f2:b2=b
   ·simp only[f2,if_true,if_neg f1] at eq
    have:=old b1 l1 x1 (by simpa [Cac.set,f1] using e1)
    omega
   ·simp only[if_neg f1,if_neg f2] at eq
    exact h1.one b1 b2 l1 l2 x1 x2 (by simpa [Cac.set,f1] using e1) (by simpa [Cac.set,f2] using e2) eq
 ·by_cases eb:b2=b
  ·simp only[eb,if_true];exact hsq
  ·simp only[if_neg eb]
   exact h1.sl b2 l2 hb2 (by simpa [Cac.set,eb] using e2)
 ·obtain⟨_,cur,hx⟩:=h1.pbl x ex
  exact ne _ _ _ _ hx
 ·obtain⟨hs,cur,hx⟩:=h1.pbl x ex
  exact⟨hs,cur,(ne _ _ _ _ hx).trans hx⟩
def Kv (u:World) (S:Nat->Prop) (g dg:Nat) (C:Cac) (D:Dev):Prop :=
 ∃ Sc Sd m,CcM u Sc g dg D.n D.blk C m/\Dv u Sd dg D/\(∀ k,Sc k->¬ Sd k)/\∀ k,S k↔(Sc k\/Sd k)
theorem Kv.lt {u S g dg C D}(h:Kv u S g dg C D){k:Nat}(hk:S k):k<u.heap.size:=by
 obtain⟨Sc,Sd,m,h1,h2,_,hS⟩:=h
 rcases(hS k).1 hk with x | x
 ·exact h1.lt k x
 ·exact h2.lt x
theorem Kv.kept {u u':World}{S g dg C D}(h:Kv u S g dg C D)(hk:∀ k,S k->u'.heap[k]?=u.heap[k]?)(hs:u.heap.size<=u'.heap.size):Kv u' S g dg C D:=by
 obtain⟨Sc,Sd,m,h1,h2,h3,hS⟩:=h
 exact⟨Sc,Sd,m,h1.kept (fun k x=>hk k ((hS k).2 (.inl x))) (fun _ x=>x) (fun k x=>Nat.lt_of_lt_of_le (h1.lt k x) hs),h2.kept (fun k x=>hk k ((hS k).2 (.inr x))) hs,h3,hS⟩
theorem Kv.below {u u':World}{S g dg C D}(h:Kv u S g dg C D)(hb:Below u.heap.size u u'):Kv u' S g dg C D:=h.kept (fun k hk=>hb.block k (h.lt hk)) hb.size
theorem Kv.ok {u S g dg C D}(h:Kv u S g dg C D):D.Ok:=by
 obtain⟨Sc,Sd,m,h1,h2,h3,hS⟩:=h;exact h2.ok
theorem Kv.dev {u u':World}{S:Nat->Prop}{g dg C}{D D':Dev}{Sc Sd Sd':Nat->Prop}{m}(h1:CcM u Sc g dg D.n D.blk C m)(h2:Dv u Sd dg D)(h3:∀ k,Sc k->¬ Sd k)(hS:∀ k,S k↔(Sc k\/Sd k))(hd:Dv u' Sd' dg D')(hx:Nx Sd u Sd' u')(he:D'.n=D.n/\D'.blk=D.blk) :
  CcM u' Sc g dg D'.n D'.blk C m/\(∀ k,Sc k->¬ Sd' k)/\Kv u' (fun k=>Sc k\/Sd' k) g dg C D'/\Nx S u (fun k=>Sc k\/Sd' k) u':=by
 have k1:∀ k,Sc k->u'.heap[k]?=u.heap[k]?:=fun k hk=>(hx.keep (h1.lt k hk) (h3 k hk)).1
 have c1:CcM u' Sc g dg D'.n D'.blk C m:=by
  rw[he.1,he.2]
  exact h1.kept k1 (fun _ h=>h) (fun k hk=>Nat.lt_of_lt_of_le (h1.lt k hk) hx.fr.size)
 have c2:∀ k,Sc k->¬ Sd' k:=fun k hk hd'=>h3 k hk (hx.sub k (h1.lt k hk) hd')
 refine⟨c1,c2,⟨Sc,Sd',m,c1,hd,c2,fun k=>Iff.rfl⟩,⟨⟨hx.fr.os,hx.fr.tape,hx.fr.output,hx.fr.size,fun k hk hn=>hx.fr.block k hk (fun x=>hn ((hS k).2 (.inr x)))⟩,fun k hk hs=>?_⟩⟩
 rcases hs with x | x
 ·exact(hS k).2 (.inl x)
 ·exact(hS k).2 (.inr (hx.sub k hk x))
theorem Kv.own {u u':World}{S:Nat->Prop}{g dg:Nat}{C':Cac}{D:Dev}{Sc Sc' Sd:Nat->Prop}{m':nS}(hl:∀ k,Sc k->k<u.heap.size)(h2:Dv u Sd dg D)(h3:∀ k,Sc k->¬ Sd k)(hS:∀ k,S k↔(Sc k\/Sd k))(hc:CcM u' Sc' g dg D.n D.blk C' m')(hx:Nx Sc u Sc' u') :
  Dv u' Sd dg D/\(∀ k,Sc' k->¬ Sd k)/\Kv u' (fun k=>Sc' k\/Sd k) g dg C' D/\Nx S u (fun k=>Sc' k\/Sd k) u':=by
 have d1:Dv u' Sd dg D:=h2.kept (fun k hk=>(hx.keep (h2.lt hk) (fun x=>h3 k x hk)).1) hx.fr.size
 have c2:∀ k,Sc' k->¬ Sd k:=fun k hk hd=>h3 k (hx.sub k (h2.lt hd) hk) hd
 refine⟨d1,c2,⟨Sc',Sd,m',hc,d1,c2,fun k=>Iff.rfl⟩,⟨⟨hx.fr.os,hx.fr.tape,hx.fr.output,hx.fr.size,fun k hk hn=>hx.fr.block k hk (fun x=>hn ((hS k).2 (.inl x)))⟩,fun k hk hs=>?_⟩⟩
 rcases hs with x | x
 ·exact(hS k).2 (.inl (hx.sub k hk x))
 ·exact(hS k).2 (.inr x)
def aaw (n:Nat) (b:Int):Int:=if ¬ (0<=b/\b<n) then 2 else 0
theorem qW (g dg:Nat)(b:Int)(S Sd:Nat->Prop)(C:Cac)(D:Dev)(m:nS)(w:World)(h:CcM w S g dg D.n D.blk C m)(hD:Dv w Sd dg D) :
  Calls Tryz.prog 219 #[.pointer (some ⟨g,0,none⟩),.int .i64 b] w fun e w'=>e=.returned (.int .i64 (aaw D.n b))/\w=w':=by
 obtain⟨c0,_⟩:=h.cells
 obtain⟨md,hDM⟩:=hD
 have c1:=hDM.cells.2.1
 have K:=hide (sJ dg md.h D.n w c1)
 have hn:=hDM.ok.n2
 unfold aaw
 clear h hDM c1
 generalize D.n=nn at *
 by_cases h0:b<0
 ·rw[if_pos (by omega)]
  go_enter Tryz.func219,Tryz.ntmps219
  go_wp2
  go_ret
  exact⟨rfl,rfl⟩
 ·by_cases h1:b<nn
  ·rw[if_neg (by omega)]
   go_enter Tryz.func219,Tryz.ntmps219
   go_wp2_with (go_at_call 69;refine(ah K).mono ?_;rintro e w' ⟨rfl,rfl⟩)
   go_ret
   exact⟨rfl,rfl⟩
  ·rw[if_pos (by omega)]
   go_enter Tryz.func219,Tryz.ntmps219
   go_wp2_with (go_at_call 69;refine(ah K).mono ?_;rintro e w' ⟨rfl,rfl⟩)
   go_ret
   exact⟨rfl,rfl⟩
theorem aeb (g dg b:Nat)(l:Ln)(S Sd:Nat->Prop)(C:Cac)(D:Dev)(m:nS)(w:World)(h:CcM w S g dg D.n D.blk C m)(hD:Dv w Sd dg D)(hb:b<D.n)(hl:C.L b=some l) :
  Calls Tryz.prog 200 #[.pointer (some ⟨g,0,none⟩),.int .i64 b] w fun e w'=>e=.returned (.tuple #[.pointer (some ⟨m.q b,0,none⟩),.int .i64 0])/\w=w':=by
 have K:=qW g dg b S Sd C D m w h hD
 unfold aaw at K
 rw[if_neg (by omega)] at K
 replace K:=hide K
 obtain⟨_,_,_,c3,_⟩:=h.cells
 have hlk:=h.map.look hD.ok.n2 hb (h.aeC hl)
 clear h hD hb hl
 generalize m.q b=q at *
 generalize m.mb=mb at *
 go_enter Tryz.func200,Tryz.ntmps200
 go_wp2_with (go_at_call 219;refine(ah K).mono ?_;rintro e w' ⟨rfl,rfl⟩)
 go_ret2
 exact⟨rfl,rfl⟩
theorem aie (g dg b:Nat)(S Sd:Nat->Prop)(C:Cac)(D:Dev)(m:nS)(w:World)(h:CcM w S g dg D.n D.blk C m)(hD:Dv w Sd dg D)(hb:b<D.n)(hl:C.L b=none) :
  Calls Tryz.prog 200 #[.pointer (some ⟨g,0,none⟩),.int .i64 b] w fun e w'=>e=.returned (.tuple #[.pointer none,.int .i64 11])/\w=w':=by
 have K:=qW g dg b S Sd C D m w h hD
 unfold aaw at K
 rw[if_neg (by omega)] at K
 replace K:=hide K
 obtain⟨_,_,_,c3,_⟩:=h.cells
 have hlk:=h.map.gX hD.ok.n2 hb (by simp[Cac.M,hl])
 clear h hD hb hl
 generalize m.mb=mb at *
 go_enter Tryz.func200,Tryz.ntmps200
 go_wp2_with (go_at_call 219;refine(ah K).mono ?_;rintro e w' ⟨rfl,rfl⟩)
 go_ret2
 exact⟨rfl,rfl⟩
theorem uj (g dg n blk:Nat)(S:Nat->Prop)(C:Cac)(m:nS)(w:World)(h:CcM w S g dg n blk C m)(hP:C.P=[]) :
  Calls Tryz.prog 239 #[.pointer (some ⟨g,0,none⟩)] w fun e w'=>e=.returned (.int .i64 C.pick)/\∃ m',CcM w' S g dg n blk C.next m'/\Nx S w S w':=by
 have e1:C.pick=0:=by simp[Cac.pick,hP]
 have e2:C.next=C:=by cases C;simp_all [Cac.next]
 rw[e1,e2]
 obtain⟨_,_,c2,_⟩:=h.cells
 rw[hP] at c2
 have F:=hide h
 clear h hP e1 e2
 go_enter Tryz.func239,Tryz.ntmps239
 go_wp2
 go_ret
 exact⟨rfl,m,ah F,Nx.refl _ _⟩
theorem uh (g dg n blk:Nat)(S:Nat->Prop)(C:Cac)(m:nS)(w:World)(h:CcM w S g dg n blk C m)(hP:0<C.P.length) :
  Calls Tryz.prog 239 #[.pointer (some ⟨g,0,none⟩)] w fun e w'=>e=.returned (.int .i64 C.pick)/\∃ m',CcM w' S g dg n blk C.next m'/\Nx S w S w':=by
 obtain⟨_,_,c2,_,fz⟩:=h.cells
 obtain⟨b,off,ea,hc⟩:=h.pic.2 hP
 have hcp:=h.pcp
 have c4:=hc 0 hP
 rw[Nat.add_zero] at c4
 have hr:∀ w:World,(Instr.slice 102 (.slice m.pa C.P.length m.pc) (some (.int .i64 1)) none none).run Tryz.prog w=.ok (.slice (cutAt m.pa m.pc 1) (C.P.length - 1) (m.pc - 1)) w:=fun w=>afk m.pa C.P.length m.pc hP w
 have hx:∀ x,cutAt m.pa m.pc 1=some x->S x.block/\∃ cur,w.heap[x.block]?=some (.cells cur 3):=by
  intro x ex
  have:x.block=b:=by
   unfold cutAt at ex
   rw[ea] at ex
   split at ex
   ·cases ex;rfl
   ·simp[Addr.add] at ex;rw[← ex]
  have hb:=h.pbl _ ea
  rw[this]
  exact hb
 have hl:(C.P.drop 1).length=C.P.length - 1:=by simp
 have I:=h.pic.amx hcp.1 hP
 rw[← hl] at I
 have F:=hide (h.alU (C.P.drop 1) (cutAt m.pa m.pc 1) (m.pc - 1) I (by omega) hx)
 have X:=hide (Nx.set (w:=w) (p:=⟨g,2,none⟩) h.sg (.slice (cutAt m.pa m.pc 1) (C.P.drop 1).length (m.pc - 1)))
 rw[← hl] at hr
 have ep:Hid (C.pick=C.P[0]?.getD 0):=rfl
 generalize cutAt m.pa m.pc 1=pa' at *
 rw[ea] at c2 hr
 clear h hx I hc ea
 generalize (C.P.drop 1).length=l1 at *
 generalize C.P[0]?.getD 0=p0 at *
 generalize C.P.length=l0 at *
 have hc1:1<=m.pc:=by omega
 generalize m.pc=pc at *
 clear hl
 go_enter Tryz.func239,Tryz.ntmps239
 go_wp2
 go_ret
 rw[ah ep]
 exact⟨rfl,_,ah F,ah X⟩
theorem wo (g dg n blk:Nat)(S:Nat->Prop)(C:Cac)(m:nS)(w:World)(h:CcM w S g dg n blk C m) :
  Calls Tryz.prog 239 #[.pointer (some ⟨g,0,none⟩)] w fun e w'=>e=.returned (.int .i64 C.pick)/\∃ m',CcM w' S g dg n blk C.next m'/\Nx S w S w':=by
 by_cases hP:0<C.P.length
 ·exact uh g dg n blk S C m w h hP
 ·exact uj g dg n blk S C m w h (List.eq_nil_of_length_eq_zero (by omega))
def Cac.wbE (C:Cac) (D:Dev) (b:Nat):Int:=match C.L b with | some l=>if l.d=true then D.wE else 0 | none=>0
def Cac.wbC (C:Cac) (D:Dev) (b:Nat):Cac:=match C.L b with | some l=>if l.d=true/\D.wE=0 then C.set b { l with d:=false } else C | none=>C
def Cac.wbD (C:Cac) (D:Dev) (b:Nat):Dev:=match C.L b with | some l=>if l.d=true then D.wD b l.z else D | none=>D
theorem aeO (C:Cac)(D:Dev)(b:Nat):(C.wbD D b).n=D.n/\(C.wbD D b).blk=D.blk:=by
 unfold Cac.wbD
 split
 ·split
  ·exact Dev.akc D b _
  ·exact⟨rfl,rfl⟩
 ·exact⟨rfl,rfl⟩
structure KvM (u:World) (S Sc Sd:Nat->Prop) (g dg:Nat) (C:Cac) (D:Dev) (m:nS):Prop where
 cc:CcM u Sc g dg D.n D.blk C m
 dd:Dv u Sd dg D
 dis:∀ k,Sc k->¬ Sd k
 all:∀ k,S k↔(Sc k\/Sd k)
theorem KvM.kv {u S Sc Sd g dg C D m}(h:KvM u S Sc Sd g dg C D m):Kv u S g dg C D:=⟨Sc,Sd,m,h.cc,h.dd,h.dis,h.all⟩
theorem Kv.open {u S g dg C D}(h:Kv u S g dg C D):∃ Sc Sd m,KvM u S Sc Sd g dg C D m:=by
 obtain⟨Sc,Sd,m,h1,h2,h3,h4⟩:=h
 exact⟨Sc,Sd,m,h1,h2,h3,h4⟩
theorem KvM.row {u S Sc Sd g dg C D m}(h:KvM u S Sc Sd g dg C D m){b:Nat}{l:Ln}(hb:b<D.n)(e:C.L b=some l):Row u.heap.size u (some ⟨(m.A b).1,0,none⟩) D.blk (m.A b).2 l.z/\Out Sd D.blk (some ⟨(m.A b).1,0,none⟩) :=
 ⟨(h.cc.row b l hb e).row h.dd.ok.b2,fun _ x ex=>by cases ex;exact h.dis _ (h.cc.row b l hb e).mem⟩
theorem qF (g dg b:Nat)(S Sc Sd:Nat->Prop)(C:Cac)(D:Dev)(m:nS)(w:World)(h:KvM w S Sc Sd g dg C D m)(hb:b<D.n)(hl:C.L b=none) :
  Calls Tryz.prog 242 #[.pointer (some ⟨g,0,none⟩),.int .i64 b] w fun e w'=>e=.returned (.int .i64 0)/\w=w':=by
 obtain⟨_,_,_,c3,_⟩:=h.cc.cells
 have hlk:=h.cc.map.gX h.dd.ok.n2 hb (by simp[Cac.M,hl])
 clear h hb hl
 generalize m.mb=mb at *
 go_enter Tryz.func242,Tryz.ntmps242
 go_wp2
 go_ret
 exact⟨rfl,rfl⟩
theorem nV (g dg b:Nat)(l:Ln)(S Sc Sd:Nat->Prop)(C:Cac)(D:Dev)(m:nS)(w:World)(h:KvM w S Sc Sd g dg C D m)(hb:b<D.n)(hl:C.L b=some l)(hd:l.d=false) :
  Calls Tryz.prog 242 #[.pointer (some ⟨g,0,none⟩),.int .i64 b] w fun e w'=>e=.returned (.int .i64 0)/\w=w':=by
 obtain⟨_,_,_,c3,_⟩:=h.cc.cells
 have hlk:=h.cc.map.look h.dd.ok.n2 hb (h.cc.aeC hl)
 obtain⟨_,l1,_,_⟩:=h.cc.line hb hl
 rw[hd] at l1
 clear h hb hl hd
 generalize m.mb=mb at *
 generalize m.q b=q at *
 go_enter Tryz.func242,Tryz.ntmps242
 go_wp2
 go_ret
 exact⟨rfl,rfl⟩
theorem KvM.drew {u S Sc Sd g dg C D m}(h:KvM u S Sc Sd g dg C D m):KvM u.drew S Sc Sd g dg C D m :=
 ⟨h.cc.kept (fun _ _=>rfl) (fun _ h=>h) h.cc.lt,h.dd.kept (fun _ _=>rfl) (Nat.le_refl _),h.dis,h.all⟩
theorem KvM.write {u S Sc Sd g dg C D m}(h:KvM u S Sc Sd g dg C D m){b:Nat}{l:Ln}(hb:b<D.n)(e:C.L b=some l) :
  Calls Tryz.prog 71 #[.pointer (some ⟨dg,0,none⟩),.int .i64 b,.slice (some ⟨(m.A b).1,0,none⟩) D.blk (m.A b).2] u fun e w'=>e=.returned (.int .i64 D.wE)/\∃ S' Sd',KvM w' S' Sc Sd' g dg C (D.wD b l.z) m/\Nx S u S' w':=by
 obtain⟨r1,r2⟩:=h.row hb e
 refine(write_any dg b _ _ l.z Sd D u h.dd hb r1 r2).mono ?_
 rintro e w' ⟨rfl,Sd',d1,x1⟩
 obtain⟨y1,y2,y3,y4⟩:=Kv.dev h.cc h.dd h.dis h.all d1 x1 (Dev.akc D b l.z)
 exact⟨rfl,_,Sd',⟨y1,d1,y2,fun k=>Iff.rfl⟩,y4⟩
theorem nU (g dg b:Nat)(l:Ln)(S Sc Sd:Nat->Prop)(C:Cac)(D:Dev)(m:nS)(w:World)(h:KvM w S Sc Sd g dg C D m)(hb:b<D.n)(hl:C.L b=some l)(hd:l.d=true) :
  Calls Tryz.prog 242 #[.pointer (some ⟨g,0,none⟩),.int .i64 b] w fun e w'=>e=.returned (.int .i64 D.wE)/\∃ S',Kv w' S' g dg (if D.wE=0 then C.set b { l with d:=false } else C) (D.wD b l.z)/\Nx S w S' w':=by
 obtain⟨c0,_,_,c3,_⟩:=h.cc.cells
 have hlk:=h.cc.map.look h.dd.ok.n2 hb (h.cc.aeC hl)
 obtain⟨l0,l1,_,_⟩:=h.cc.line hb hl
 rw[hd] at l1
 have K1:=hide (h.write hb hl)
 have K2:=hide (h.drew.write hb hl)
 have KS:Hid (∀ u S' Sd',D.wE=0->KvM u S' Sc Sd' g dg C (D.wD b l.z) m->u.cell? ⟨m.q b,1,none⟩=some (.bool true)/\u.frozen? ⟨m.q b,1,none⟩=false/\Hid (Kv (u.setCell ⟨m.q b,1,none⟩ (.bool false)) S' g dg (C.set b { l with d:=false }) (D.wD b l.z)/\Nx S' u S' (u.setCell ⟨m.q b,1,none⟩ (.bool false)))):=by
  intro u S' Sd' _ hu
  have hb':b<(D.wD b l.z).n:=by rw[(Dev.akc D b l.z).1];exact hb
  obtain⟨_,x1,_,x3⟩:=hu.cc.line hb' hl
  rw[hd] at x1
  refine⟨x1,x3 1,?_,Nx.set (p:=⟨m.q b,1,none⟩) ((hu.all _).2 (.inl (hu.cc.sl b l hb' hl))) _⟩
  have hs:=hu.cc.alV (l':={ l with d:=false }) (r':=m.A b) hb' hl 1 (.bool false) (fun i hi=>by
   have:i=0\/i=1\/i=2:=by omega
   rcases this with rfl | rfl | rfl<;>simp[zy]) (hu.cc.row b l hb' hl)
  have hx:Nx Sc u Sc (u.setCell ⟨m.q b,1,none⟩ (.bool false)):=Nx.set (p:=⟨m.q b,1,none⟩) (hu.cc.sl b l hb' hl) _
  obtain⟨z1,z2,z3,z4⟩:=Kv.own hu.cc.lt hu.dd hu.dis hu.all hs hx
  exact⟨Sc,Sd',_,hs,z1,z2,hu.all⟩
 have KD:Hid (∀ u S' Sd',KvM u S' Sc Sd' g dg C (D.wD b l.z) m->Kv u S' g dg C (D.wD b l.z)):=fun u S' Sd' hu=>hu.kv
 have hE:D.wE=0\/D.wE=7:=by unfold Dev.wE;split<;>simp
 clear h hb hl hd
 generalize D.wD b l.z=D' at *
 generalize D.wE=e at *
 generalize D.blk=bb at *
 generalize m.mb=mb at *
 generalize m.q b=q at *
 generalize m.A b=r at *
 obtain⟨r1,r2⟩:=r
 clear K1
 rcases hE with rfl | rfl
 ·rw[if_pos rfl]
  go_enter Tryz.func242,Tryz.ntmps242
  go_wp2_with fail
  go_region_with (go_at_call 71;refine(ah K2).mono ?_;rintro e' w1 ⟨rfl,S1,Sd1,h1,h2⟩;clear K2)
  all_goals
   obtain⟨x1,x2,X3⟩:=ah KS _ _ _ trivial h1
   have X2:=hide h2
   clear KS KD h1 h2
   go_wp2_with fail
   go_ret
   exact⟨rfl,S1,(ah X3).1,(ah X2).vk.trans (ah X3).2⟩
 ·rw[if_neg (by omega)]
  go_enter Tryz.func242,Tryz.ntmps242
  go_wp2_with fail
  go_region_with (go_at_call 71;refine(ah K2).mono ?_;rintro e' w1 ⟨rfl,S1,Sd1,h1,h2⟩;clear K2)
  all_goals
   have X1:=hide (ah KD _ _ _ h1)
   have X2:=hide h2
   clear KS KD h1 h2
   go_wp2_with fail
   go_ret
   exact⟨rfl,S1,ah X1,(ah X2).vk⟩
theorem sU (g dg b:Nat)(S:Nat->Prop)(C:Cac)(D:Dev)(w:World)(h:Kv w S g dg C D)(hb:b<D.n) :
  Calls Tryz.prog 242 #[.pointer (some ⟨g,0,none⟩),.int .i64 b] w fun e w'=>e=.returned (.int .i64 (C.wbE D b))/\∃ S',Kv w' S' g dg (C.wbC D b) (C.wbD D b)/\Nx S w S' w':=by
 have hk:=h
 obtain⟨Sc,Sd,m,h⟩:=h.open
 cases hl:C.L b with
 | none =>
  have e1:C.wbE D b=0:=by simp[Cac.wbE,hl]
  have e2:C.wbC D b=C:=by simp[Cac.wbC,hl]
  have e3:C.wbD D b=D:=by simp[Cac.wbD,hl]
  rw[e1,e2,e3]
  refine(qF g dg b S Sc Sd C D m w h hb hl).mono ?_
  rintro e w' ⟨rfl,rfl⟩
  exact⟨rfl,S,hk,Nx.refl _ _⟩
 | some l =>
  cases hd:l.d with
  | false =>
   have e1:C.wbE D b=0:=by simp[Cac.wbE,hl,hd]
   have e2:C.wbC D b=C:=by simp[Cac.wbC,hl,hd]
   have e3:C.wbD D b=D:=by simp[Cac.wbD,hl,hd]
   rw[e1,e2,e3]
   refine(nV g dg b l S Sc Sd C D m w h hb hl hd).mono ?_
   rintro e w' ⟨rfl,rfl⟩
   exact⟨rfl,S,hk,Nx.refl _ _⟩
  | true =>
   have e1:C.wbE D b=D.wE:=by simp[Cac.wbE,hl,hd]
   have e2:C.wbC D b=if D.wE=0 then C.set b { l with d:=false } else C:=by simp[Cac.wbC,hl,hd]
   have e3:C.wbD D b=D.wD b l.z:=by simp[Cac.wbD,hl,hd]
   rw[e1,e2,e3]
   exact nU g dg b l S Sc Sd C D m w h hb hl hd
end Go.Proofs.YtefdkpbmeoakgaaGreatDoor
/- What a range over a map collects: the numbers that are wanted, sorted. -/
namespace Go.Proofs.YtefdkpbmeoakgaaGreatDoor
set_option maxRecDepth 100000
set_option maxHeartbeats 8000000
open Go.RowKit Go.Shelf Go.Maps
set_option linter.unusedVariables false
def amc (W:Nat->Bool) (n:Nat):List Nat:=(List.range n).filter W
end Go.Proofs.YtefdkpbmeoakgaaGreatDoor
