/- Joined: OBase, WCommit. -/
import Derived.Test.YtefdkpbmeoakgaaGreatDoorDnJ7
import Derived.Test.YtefdkpbmeoakgaaGreatDoorDnJ25
import Derived.Test.YtefdkpbmeoakgaaGreatDoorDnKNew
import Derived.Test.YtefdkpbmeoakgaaGreatDoorDnJ16
import Derived.Test.YtefdkpbmeoakgaaGreatDoorDnJ19
import Derived.Test.YtefdkpbmeoakgaaGreatDoorDnJ2
import Derived.Test.YtefdkpbmeoakgaaGreatDoorDnJ28
/- A group in memory: its own block, its maps, the open operation, and the rows of them. -/
namespace Go.Proofs.YtefdkpbmeoakgaaGreatDoor
set_option maxRecDepth 100000
set_option maxHeartbeats 8000000
open Go.RowKit Go.Shelf Go.Maps
set_option linter.unusedVariables false
theorem aiY {blk:Nat}{v:Value}{ps:List MemPlace}(h:rdB blk v=some (.nil,ps)):v=.slice none 0 0:=by
 unfold rdB at h
 split at h
 ·rfl
 ·split at h
  ·simp[agj] at h
  ·cases h
 ·cases h
def kB (blk:Nat):MK (Nat×Nat) where
 ty:=99
 el:=71
 val:=rv blk
 enc:=agj
 rd:=rdB blk
 z:=.slice none 0 0
 zd:=.nil
 und:=Tryz.underlying99
 zero:=acv
 rdz:=aav blk
 rds:=aft blk
 inj:=fun v a ps h=>ag9 h
 ajr:=fun v ps h=>aiY h
def rdU:Value->Option (DataW Unit×List MemPlace)
 | .agg a=>if a=#[] then some (.nil,[]) else none
 | _=>none
theorem ajZ (w:World):(zeroValue 258).run Tryz.prog w=.ok (.agg #[]) w:=by kernel_rfl
theorem ag7 {v:Value}{ps:List MemPlace}(h:rdU v=some (.nil,ps)):v=.agg #[]:=by
 unfold rdU at h
 split at h
 ·split at h
  ·rename_i e;rw[e]
  ·cases h
 ·cases h
def kU:MK Unit where
 ty:=108
 el:=258
 val:=fun _=>.agg #[]
 enc:=fun _=>.nil
 rd:=rdU
 z:=.agg #[]
 zd:=.nil
 und:=Tryz.underlying108
 zero:=ajZ
 rdz:=by simp[rdU]
 rds:=fun a=>by simp[rdU]
 inj:=fun v a ps h=>ag7 h
 ajr:=fun v ps h=>ag7 h
def nv (blk:Nat) (a:Nat×Nat×Nat):Value:=.agg #[.int .i64 (a.1:Int),if a.1=3 then .slice none 0 0 else rv blk a.2]
def aik (a:Nat×Nat×Nat):DataW Unit:=if a.1=3 then .agg [.lit (.int .i64 3)] else .agg [.lit (.int .i64 (a.1:Int)),.lit (.int .i64 (a.2.1:Int)),.lit (.int .i64 (a.2.2:Int))]
def rdN (blk:Nat):Value->Option (DataW Unit×List MemPlace)
 | .agg a=>match a.toList with
  | [.int .i64 k,.slice none 0 0]=>if k=3 then some (.agg [.lit (.int .i64 3)],[]) else if k=0 then some (.nil,[]) else none
  | [.int .i64 k,.slice (some ⟨p,0,none⟩) n c]=>if n=blk/\k≠3 then some (.agg [.lit (.int .i64 k),.lit (.int .i64 (p:Int)),.lit (.int .i64 (c:Int))],[]) else none
  | _=>none
 | _=>none
theorem afs (blk:Nat)(a:Nat×Nat×Nat):rdN blk (nv blk a)=some (aik a,[]):=by
 unfold nv aik
 by_cases h:a.1=3
 ·simp[h,rdN]
 ·have h':¬ ((a.1:Int)=3):=by omega
  simp[h,h',rdN,rv]
theorem aiX {blk:Nat}{v:Value}{a:Nat×Nat×Nat}{ps:List MemPlace}(h:rdN blk v=some (aik a,ps)):v=nv blk a:=by
 unfold rdN at h
 split at h
 ·rename_i x
  have hx:x=⟨x.toList⟩:=rfl
  generalize x.toList=l at *
  subst hx
  split at h
  ·rename_i k
   split at h
   ·rename_i hk
    subst hk
    unfold aik at h
    split at h
    ·rename_i e
     simp[nv,e]
    ·simp at h
   ·split at h
    ·unfold aik at h
     split at h<;>simp at h
    ·cases h
  ·rename_i k p n c
   split at h
   ·rename_i hk
    obtain⟨rfl,hk⟩:=hk
    unfold aik at h
    split at h
    ·simp at h
    ·rename_i e
     simp at h
     obtain⟨⟨h1,h2,h3⟩,_⟩:=h
     have e2:p=a.2.1:=by omega
     have e3:c=a.2.2:=by omega
     simp[nv,e,h1,e2,e3]
   ·cases h
  ·cases h
 ·cases h
theorem aiW {blk:Nat}{v:Value}{ps:List MemPlace}(h:rdN blk v=some (.nil,ps)):v=.agg #[.int .i64 0,.slice none 0 0]:=by
 unfold rdN at h
 split at h
 ·rename_i x
  have hx:x=⟨x.toList⟩:=rfl
  generalize x.toList=l at *
  subst hx
  split at h
  ·split at h
   ·simp at h
   ·split at h
    ·rename_i e;subst e;rfl
    ·cases h
  ·split at h
   ·simp at h
   ·cases h
  ·cases h
 ·cases h
theorem akb (w:World):(zeroValue 152).run Tryz.prog w=.ok (.agg #[.int .i64 0,.slice none 0 0]) w:=by kernel_rfl
def kN (blk:Nat):MK (Nat×Nat×Nat) where
 ty:=115
 el:=152
 val:=nv blk
 enc:=aik
 rd:=rdN blk
 z:=.agg #[.int .i64 0,.slice none 0 0]
 zd:=.nil
 und:=Tryz.underlying115
 zero:=akb
 rdz:=by simp[rdN]
 rds:=afs blk
 inj:=fun v a ps h=>aiX h
 ajr:=fun v ps h=>aiW h
structure Tm (u u':World) (mb:Nat):Prop where
 gr:u.grownBy u' (some mb)
 sz:u'.heap.size=u.heap.size
 ob:∃ es c,u.heap[mb]?=some (.map es c)
theorem Tm.cells {u u' mb}(h:Tm u u' mb){k t:Nat}{c:Array Value}{q:Nat×Nat}(hk:u.heap[k]?=some (.cells c t q)):u'.heap[k]?=u.heap[k]? :=
 h.gr.block k (Array.getElem?_eq_some_iff.1 hk).1 (fun e=>by
  have e':k=mb:=by simpa using e
  subst e'
  obtain⟨es,c',ho⟩:=h.ob
  rw[hk] at ho
  cases ho)
theorem Tm.row {u u' mb}(h:Tm u u' mb){k t n:Nat}{f:Nat->Value}(hk:u.rowIs k t n f):u'.rowIs k t n f:=by
 obtain⟨c,hc,r⟩:=hk
 exact⟨c,(h.cells hc).trans hc,r⟩
theorem Tm.other {u u'}{mb k:Nat}(h:Tm u u' mb)(hk:k<u.heap.size)(hn:k≠mb):u'.heap[k]?=u.heap[k]? :=
 h.gr.block k hk (fun e=>hn (by simpa using e))
theorem Tm.nx {u u' mb}(h:Tm u u' mb){S:Nat->Prop}(hs:S mb):Nx S u S u':=ajh h.gr hs
structure dW (u:World) (S:Nat->Prop) (blk n mb:Nat) (Q:Nat->Option (List Int)) (A:Nat->Nat×Nat):Prop where
 map:iP (kB blk) u mb n (fun b=>(Q b).map fun _=>A b)
 row:∀ b z,b<n->Q b=some z->bP u S blk (A b) z
 sm:S mb
theorem dW.keep {u u':World}{S S':Nat->Prop}{blk n mb Q A}(h:dW u S blk n mb Q A)(hm:u'.heap[mb]?=u.heap[mb]?)
  (hr:∀ k c,S k->u.heap[k]?=some (.cells c 5)->u'.heap[k]?=u.heap[k]?) (hS:∀ k c,S k->u.heap[k]?=some (.cells c 5)->S' k) (hb:S' mb):dW u' S' blk n mb Q A:=by
 refine⟨h.map.kept hm,fun b z hb e=>?_,hb⟩
 obtain⟨⟨h1,cur,hg,ht⟩,h2,h3,h4,h5⟩:=h.row b z hb e
 exact⟨⟨h1,cur,(hr _ _ h2 hg).trans hg,ht⟩,hS _ _ h2 hg,h3,h4,h5⟩
theorem dW.put {u S blk n mb Q A}(h:dW u S blk n mb Q A)(hn:n<=4096){b:Nat}(hb:b<n){r:Nat×Nat}{z:List Int}(hr:bP u S blk r z) :
  ∃ u',(Instr.mapUpdate 99 (.map (some mb)) (.int .i64 (b:Int)) (rv blk r)).run Tryz.prog u=.ok () u'/\dW u' S blk n mb (fun j=>if j=b then some z else Q j) (fun j=>if j=b then r else A j)/\Tm u u' mb:=by
 obtain⟨u',hrn,hM,hg,hz⟩:=h.map.put r hn hb
 have T:Tm u u' mb:=⟨hg,hz,h.map.obj⟩
 refine⟨u',hrn,⟨hM.congr (fun k hk=>?_),fun b2 z2 hb2 e2=>?_,h.sm⟩,T⟩
 ·by_cases e:k=b<;>simp[e]
 ·by_cases eb:b2=b
  ·simp[eb] at e2
   subst e2
   simp only[eb,if_true]
   exact hr.kept (fun k c _ hx=>T.cells hx) (fun _ h=>h)
  ·simp only[if_neg eb] at e2 ⊢
   exact(h.row b2 z2 hb2 e2).kept (fun k c _ hx=>T.cells hx) (fun _ h=>h)
theorem dW.look {u S blk n mb Q A}(h:dW u S blk n mb Q A)(hn:n<=4096){b:Nat}(hb:b<n){z:List Int}(e:Q b=some z) :
  (Instr.lookup 99 (.map (some mb)) (.int .i64 (b:Int)) true).run Tryz.prog u=.ok (.tuple #[rv blk (A b),.bool true]) u:=h.map.look (p:=A b) hn hb (by simp[e])
theorem dW.gX {u S blk n mb Q A}(h:dW u S blk n mb Q A)(hn:n<=4096){b:Nat}(hb:b<n)(e:Q b=none) :
  (Instr.lookup 99 (.map (some mb)) (.int .i64 (b:Int)) true).run Tryz.prog u=.ok (.tuple #[.slice none 0 0,.bool false]) u:=h.map.gX hn hb (by simp[e])
structure jS (u:World) (S:Nat->Prop) (n mb:Nat) (F:Nat->Bool):Prop where
 map:iP kU u mb n (fun b=>if F b=true then some () else none)
 sm:S mb
theorem jS.keep {u u':World}{S S':Nat->Prop}{n mb F}(h:jS u S n mb F)(hm:u'.heap[mb]?=u.heap[mb]?)(hb:S' mb):jS u' S' n mb F:=⟨h.map.kept hm,hb⟩
theorem jS.look {u S n mb F}(h:jS u S n mb F)(hn:n<=4096){b:Nat}(hb:b<n) :
  (Instr.lookup 108 (.map (some mb)) (.int .i64 (b:Int)) true).run Tryz.prog u=.ok (.tuple #[.agg #[],.bool (F b)]) u:=by
 cases e:F b with
 | true=>exact h.map.look (p:=()) hn hb (by simp[e])
 | false=>exact h.map.gX hn hb (by simp[e])
structure Nt where
 k:Nat
 z:List Int
structure dM (u:World) (S:Nat->Prop) (blk n mb:Nat) (N:Nat->Option Nt) (A:Nat->Nat×Nat):Prop where
 map:iP (kN blk) u mb n (fun b=>(N b).map fun t=>(t.k,A b))
 knd:∀ b t,b<n->N b=some t->t.k=1\/t.k=2\/t.k=3
 row:∀ b t,b<n->N b=some t->t.k≠3->bP u S blk (A b) t.z
 sm:S mb
theorem dM.keep {u u':World}{S S':Nat->Prop}{blk n mb N A}(h:dM u S blk n mb N A)(hm:u'.heap[mb]?=u.heap[mb]?)
  (hr:∀ k c,S k->u.heap[k]?=some (.cells c 5)->u'.heap[k]?=u.heap[k]?) (hS:∀ k c,S k->u.heap[k]?=some (.cells c 5)->S' k) (hb:S' mb):dM u' S' blk n mb N A:=by
 refine⟨h.map.kept hm,h.knd,fun b t hb e h3=>?_,hb⟩
 obtain⟨⟨h1,cur,hg,ht⟩,h2,h3,h4,h5⟩:=h.row b t hb e h3
 exact⟨⟨h1,cur,(hr _ _ h2 hg).trans hg,ht⟩,hS _ _ h2 hg,h3,h4,h5⟩
theorem dM.put {u S blk n mb N A}(h:dM u S blk n mb N A)(hn:n<=4096){b:Nat}(hb:b<n)(t:Nt)(r:Nat×Nat)(ht:t.k=1\/t.k=2\/t.k=3)(hr:t.k≠3->bP u S blk r t.z) :
  ∃ u',(Instr.mapUpdate 115 (.map (some mb)) (.int .i64 (b:Int)) (nv blk (t.k,r))).run Tryz.prog u=.ok () u'/\dM u' S blk n mb (fun j=>if j=b then some t else N j) (fun j=>if j=b then r else A j)/\Tm u u' mb:=by
 obtain⟨u',hrn,hM,hg,hz⟩:=h.map.put (t.k,r) hn hb
 have T:Tm u u' mb:=⟨hg,hz,h.map.obj⟩
 refine⟨u',hrn,⟨hM.congr (fun k hk=>?_),fun b2 t2 hb2 e2=>?_,fun b2 t2 hb2 e2 h3=>?_,h.sm⟩,T⟩
 ·by_cases e:k=b<;>simp[e]
 ·by_cases eb:b2=b
  ·simp[eb] at e2
   subst e2
   exact ht
  ·simp only[if_neg eb] at e2
   exact h.knd b2 t2 hb2 e2
 ·by_cases eb:b2=b
  ·simp[eb] at e2
   subst e2
   simp only[eb,if_true]
   exact(hr h3).kept (fun k c _ hx=>T.cells hx) (fun _ h=>h)
  ·simp only[if_neg eb] at e2 ⊢
   exact(h.row b2 t2 hb2 e2 h3).kept (fun k c _ hx=>T.cells hx) (fun _ h=>h)
theorem dM.at {u S blk n mb N A}(h:dM u S blk n mb N A)(hn:n<=4096){b:Nat}(hb:b<n){t:Nt}(e:N b=some t) :
  (Instr.lookup 115 (.map (some mb)) (.int .i64 (b:Int)) false).run Tryz.prog u=.ok (nv blk (t.k,A b)) u:=h.map.at (p:=(t.k,A b)) hn hb (by simp[e])
theorem dM.agt {u S blk n mb N A}(h:dM u S blk n mb N A)(hn:n<=4096){b:Nat}(hb:b<n)(e:N b=none) :
  (Instr.lookup 115 (.map (some mb)) (.int .i64 (b:Int)) false).run Tryz.prog u=.ok (.agg #[.int .i64 0,.slice none 0 0]) u:=h.map.agt hn hb (by simp[e])
structure Grp where
 Q:Nat->Option (List Int)
 F:Nat->Bool
 N:Option (Nat->Option Nt)
 o:Nat
structure aeF where
 lb:Nat
 LA:Nat->Nat×Nat
 fb:Nat
 nb:Nat
 NA:Nat->Nat×Nat
 hc:Hd
 pb:Option Nat
 PA:Nat->Nat×Nat
 Qc:Nat->Option (List Int)
def dG (dg lg cg:Nat) (P:Nat->Int) (X:Grp) (m:aeF) (k:Nat):Value :=
 if k=0 then .pointer (some ⟨dg,0,none⟩) else if k=1 then .pointer (some ⟨lg,0,none⟩) else if k=2 then .pointer (some ⟨cg,0,none⟩) else if k<15 then .int .i64 (P (k - 3))
 else if k=15 then .pointer (X.N.map fun _=>⟨X.o,0,none⟩) else if k=16 then .map (some m.lb) else if k=17 then .map (some m.fb) else if k<21 then .int .i64 (m.hc.fn (k - 18)) else .map m.pb
def ahy (g:Nat) (nb:Option Nat) (k:Nat):Value:=if k=0 then .pointer (some ⟨g,0,none⟩) else .map nb
structure OpM (u:World) (S:Nat->Prop) (g blk n o:Nat) (m:aeF) (N:Nat->Option Nt):Prop where
 str:u.rowIs o 117 2 (ahy g (some m.nb))
 nts:dM u S blk n m.nb N m.NA
 so:S o
 nl:m.nb≠m.lb
 nf:m.nb≠m.fb
 np:m.pb≠some m.nb
structure GrM (u:World) (S:Nat->Prop) (g dg lg cg:Nat) (P:Nat->Int) (G:Geo) (X:Grp) (m:aeF):Prop where
 str:u.rowIs g 110 22 (dG dg lg cg P X m)
 log:dW u S G.blk G.n m.lb X.Q m.LA
 fre:jS u S G.n m.fb X.F
 opn:∀ N,X.N=some N->OpM u S g G.blk G.n X.o m N
 pen:∀ pb,m.pb=some pb->dW u S G.blk G.n pb m.Qc m.PA
 pno:m.pb=none->∀ b,b<G.n->m.Qc b=none
 sg:S g
 lf:m.lb≠m.fb
 lp:m.pb≠some m.lb
 fp:m.pb≠some m.fb
 lt:∀ k,S k->k<u.heap.size
 pg:PG P G
 da:(G.ib:Int)<=P 11/\P 11<=(G.n:Int)
theorem GrM.kept {u u':World}{S S':Nat->Prop}{g dg lg cg P G X m}(h:GrM u S g dg lg cg P G X m)(hk:∀ k,S k->u'.heap[k]?=u.heap[k]?)(hS:∀ k,S k->S' k)(hl:∀ k,S' k->k<u'.heap.size):GrM u' S' g dg lg cg P G X m :=
 ⟨h.str.of_block (hk _ h.sg),h.log.keep (hk _ h.log.sm) (fun k _ x _=>hk k x) (fun k _ x _=>hS k x) (hS _ h.log.sm),h.fre.keep (hk _ h.fre.sm) (hS _ h.fre.sm),
  fun N e=>⟨(h.opn N e).str.of_block (hk _ (h.opn N e).so),(h.opn N e).nts.keep (hk _ (h.opn N e).nts.sm) (fun k _ x _=>hk k x) (fun k _ x _=>hS k x) (hS _ (h.opn N e).nts.sm),hS _ (h.opn N e).so,(h.opn N e).nl,(h.opn N e).nf,(h.opn N e).np⟩,
  fun pb e=>(h.pen pb e).keep (hk _ (h.pen pb e).sm) (fun k _ x _=>hk k x) (fun k _ x _=>hS k x) (hS _ (h.pen pb e).sm),h.pno,hS _ h.sg,h.lf,h.lp,h.fp,hl,h.pg,h.da⟩
theorem GrM.cells {u S g dg lg cg P G X m}(h:GrM u S g dg lg cg P G X m) :
  u.cell? ⟨g,0,none⟩=some (.pointer (some ⟨dg,0,none⟩))/\u.cell? ⟨g,1,none⟩=some (.pointer (some ⟨lg,0,none⟩))/\u.cell? ⟨g,2,none⟩=some (.pointer (some ⟨cg,0,none⟩))/\(∀ k,k<12->u.cell? ⟨g,3+k,none⟩=some (.int .i64 (P k))) /\
   u.cell? ⟨g,15,none⟩=some (.pointer (X.N.map fun _=>⟨X.o,0,none⟩))/\u.cell? ⟨g,16,none⟩=some (.map (some m.lb))/\u.cell? ⟨g,17,none⟩=some (.map (some m.fb))/\u.cell? ⟨g,18,none⟩=some (.int .i64 (m.hc.seq:Int))/\u.cell? ⟨g,19,none⟩=some (.int .i64 (m.hc.tail:Int))/\u.cell? ⟨g,20,none⟩=some (.int .i64 (m.hc.used:Int)) /\
   u.cell? ⟨g,21,none⟩=some (.map m.pb)/\(∀ k,u.frozen? ⟨g,k,none⟩=false):=by
 refine⟨h.str.cell (i:=0) (by omega),h.str.cell (i:=1) (by omega),h.str.cell (i:=2) (by omega),fun k hk=>?_,h.str.cell (i:=15) (by omega),h.str.cell (i:=16) (by omega),h.str.cell (i:=17) (by omega),h.str.cell (i:=18) (by omega),h.str.cell (i:=19) (by omega),h.str.cell (i:=20) (by omega),h.str.cell (i:=21) (by omega),fun k=>h.str.frozen k⟩
 rw[h.str.cell (i:=3+k) (by omega)]
 unfold dG
 rw[if_neg (by omega),if_neg (by omega),if_neg (by omega),if_pos (by omega)]
 congr 3
 omega
theorem sF:∀ j,j<22->j=0\/j=1\/j=2\/(3<=j/\j<15)\/j=15\/j=16\/j=17\/j=18\/j=19\/j=20\/j=21:=by omega
theorem GrM.turned {u u':World}{S g dg lg cg P G}{X X':Grp}{m m':aeF}(h:GrM u S g dg lg cg P G X m){mb:Nat}(T:Tm u u' mb)
  (hm:m'.lb=m.lb/\m'.fb=m.fb/\X'.o=X.o/\m'.nb=m.nb/\m'.hc=m.hc/\m'.pb=m.pb/\(X'.N.isSome=X.N.isSome))
  (hl:dW u' S G.blk G.n m.lb X'.Q m'.LA) (hf:jS u' S G.n m.fb X'.F) (ho:∀ N',X'.N=some N'->dM u' S G.blk G.n m.nb N' m'.NA)
  (hp:∀ pb,m.pb=some pb->dW u' S G.blk G.n pb m'.Qc m'.PA) (hn:m.pb=none->∀ b,b<G.n->m'.Qc b=none):GrM u' S g dg lg cg P G X' m':=by
 obtain⟨e1,e2,e3,e4,e5,e6,e7⟩:=hm
 refine⟨(T.row h.str).congr (fun i hi=>?_),by rw[e1];exact hl,by rw[e2];exact hf,fun N' eN=>?_,fun pb ep=>hp pb (by rw[← e6];exact ep),fun ep=>hn (by rw[← e6];exact ep),h.sg,by rw[e1,e2];exact h.lf,by rw[e1,e6];exact h.lp,by rw[e2,e6];exact h.fp,fun k hk=>by rw[T.sz];exact h.lt k hk,h.pg,h.da⟩
 ·have:(X'.N.map fun _=>(⟨X'.o,0,none⟩:Addr))=(X.N.map fun _=>⟨X.o,0,none⟩):=by
   cases x1:X'.N<;>cases x2:X.N<;>rw[x1,x2] at e7<;>simp_all
  simp only[dG,e1,e2,e5,e6,this]
 ·obtain⟨N,eX⟩:∃ N,X.N=some N:=by
   rw[eN] at e7
   exact Option.isSome_iff_exists.1 e7.symm
  have ho':=h.opn N eX
  exact⟨by rw[e3,e4];exact T.row ho'.str,by rw[e4];exact ho N' eN,by rw[e3];exact ho'.so,by rw[e4,e1];exact ho'.nl,by rw[e4,e2];exact ho'.nf,by rw[e4,e6];exact ho'.np⟩
theorem dW.tm {u u':World}{S blk n mb Q A}(h:dW u S blk n mb Q A){b:Nat}(T:Tm u u' b)(hn:mb≠b):dW u' S blk n mb Q A :=
 h.keep (T.other h.map.lt hn) (fun k c _ hx=>T.cells hx) (fun _ _ x _=>x) h.sm
theorem jS.tm {u u':World}{S n mb F}(h:jS u S n mb F){b:Nat}(T:Tm u u' b)(hn:mb≠b):jS u' S n mb F:=h.keep (T.other h.map.lt hn) h.sm
theorem dM.tm {u u':World}{S blk n mb N A}(h:dM u S blk n mb N A){b:Nat}(T:Tm u u' b)(hn:mb≠b):dM u' S blk n mb N A :=
 h.keep (T.other h.map.lt hn) (fun k c _ hx=>T.cells hx) (fun _ _ x _=>x) h.sm
theorem GrM.akS {u u':World}{S g dg lg cg P G X m}(h:GrM u S g dg lg cg P G X m){N N':Nat->Option Nt}{A':Nat->Nat×Nat}(e:X.N=some N)(T:Tm u u' m.nb)(hn:dM u' S G.blk G.n m.nb N' A'):GrM u' S g dg lg cg P G { X with N:=some N' } { m with NA:=A' } :=
 h.turned T ⟨rfl,rfl,rfl,rfl,rfl,rfl,by rw[e];rfl⟩ (h.log.tm T (h.opn N e).nl.symm) (h.fre.tm T (h.opn N e).nf.symm) (fun N2 e2=>by cases e2;exact hn) (fun pb ep=>(h.pen pb ep).tm T (fun x=>(h.opn N e).np (by rw[ep,x]))) h.pno
theorem GrM.alY {u u':World}{S g dg lg cg P G X m}(h:GrM u S g dg lg cg P G X m){pb:Nat}{Q':Nat->Option (List Int)}{A':Nat->Nat×Nat}(e:m.pb=some pb)(T:Tm u u' pb)(hp:dW u' S G.blk G.n pb Q' A'):GrM u' S g dg lg cg P G X { m with PA:=A',Qc:=Q' } :=
 h.turned T ⟨rfl,rfl,rfl,rfl,rfl,rfl,rfl⟩ (h.log.tm T (fun x=>h.lp (by rw[e,x]))) (h.fre.tm T (fun x=>h.fp (by rw[e,x]))) (fun N eN=>(h.opn N eN).nts.tm T (fun x=>(h.opn N eN).np (by rw[e,x]))) (fun pb2 e2=>by rw[e] at e2;cases e2;exact hp) (fun e2=>by rw[e] at e2;cases e2)
theorem GrM.yM {u S g dg lg cg P G X m}(h:GrM u S g dg lg cg P G X m)(X':Grp)(m':aeF)(k:Nat)(v:Value)(hc:∀ j,j<22->dG dg lg cg P X' m' j=if j=k then v else dG dg lg cg P X m j)
  (hX:X'.Q=X.Q/\X'.F=X.F) (hm:m'.lb=m.lb/\m'.LA=m.LA/\m'.fb=m.fb) (ho:∀ N,X'.N=some N->OpM (u.setCell ⟨g,k,none⟩ v) S g G.blk G.n X'.o m' N)
  (hp:∀ pb,m'.pb=some pb->dW (u.setCell ⟨g,k,none⟩ v) S G.blk G.n pb m'.Qc m'.PA/\pb≠m.lb/\pb≠m.fb) (hn:m'.pb=none->∀ b,b<G.n->m'.Qc b=none) :
  GrM (u.setCell ⟨g,k,none⟩ v) S g dg lg cg P G X' m':=by
 obtain⟨x1,x2⟩:=hX
 obtain⟨m1,m2,m3⟩:=hm
 have ne:∀ k' c t,t≠110->u.heap[k']?=some (Obj.cells c t)->(u.setCell ⟨g,k,none⟩ v).heap[k']?=u.heap[k']?:=fun k' c t ht hh =>
  Below.heap_setCell _ _ _ _ (row_ne h.str hh (fun e=>ht e.symm))
 refine⟨(h.str.set k v).congr (fun j hj=>(hc j hj).symm),?_,?_,ho,fun pb e=>(hp pb e).1,hn,h.sg,by rw[m1,m3];exact h.lf,fun e=>by rw[m1] at e;exact(hp _ e).2.1 rfl,fun e=>by rw[m3] at e;exact(hp _ e).2.2 rfl,fun k' hk'=>by simpa [World.setCell] using h.lt k' hk',h.pg,h.da⟩
 ·rw[m1,m2,x1]
  exact h.log.keep (Below.heap_setCell _ _ _ _ (fun e=>h.log.map.ner h.str e.symm)) (fun k' c _ hx=>ne k' c 5 (by decide) hx) (fun _ _ x _=>x) h.log.sm
 ·rw[m3,x2]
  exact h.fre.keep (Below.heap_setCell _ _ _ _ (fun e=>h.fre.map.ner h.str e.symm)) h.fre.sm
theorem GrM.opS {u S g dg lg cg P G X m}(h:GrM u S g dg lg cg P G X m)(k:Nat)(v:Value){N:Nat->Option Nt}(e:X.N=some N):OpM (u.setCell ⟨g,k,none⟩ v) S g G.blk G.n X.o m N:=by
 have ho:=h.opn N e
 have ne:∀ k' c t,t≠110->u.heap[k']?=some (Obj.cells c t)->(u.setCell ⟨g,k,none⟩ v).heap[k']?=u.heap[k']?:=fun k' c t ht hh =>
  Below.heap_setCell _ _ _ _ (row_ne h.str hh (fun e=>ht e.symm))
 exact⟨ho.str.setOther (fA h.str ho.str (by decide)) v,ho.nts.keep (Below.heap_setCell _ _ _ _ (fun e=>ho.nts.map.ner h.str e.symm)) (fun k' c _ hx=>ne k' c 5 (by decide) hx) (fun _ _ x _=>x) ho.nts.sm,ho.so,ho.nl,ho.nf,ho.np⟩
theorem GrM.aja {u S g dg lg cg P G X m}(h:GrM u S g dg lg cg P G X m)(k:Nat)(v:Value){pb:Nat}(e:m.pb=some pb):dW (u.setCell ⟨g,k,none⟩ v) S G.blk G.n pb m.Qc m.PA/\pb≠m.lb/\pb≠m.fb:=by
 have ne:∀ k' c t,t≠110->u.heap[k']?=some (Obj.cells c t)->(u.setCell ⟨g,k,none⟩ v).heap[k']?=u.heap[k']?:=fun k' c t ht hh =>
  Below.heap_setCell _ _ _ _ (row_ne h.str hh (fun e=>ht e.symm))
 have hp:=h.pen pb e
 exact⟨hp.keep (Below.heap_setCell _ _ _ _ (fun e=>hp.map.ner h.str e.symm)) (fun k' c _ hx=>ne k' c 5 (by decide) hx) (fun _ _ x _=>x) hp.sm,fun x=>h.lp (by rw[e,x]),fun x=>h.fp (by rw[e,x])⟩
theorem acP {Q:Nat->Option (List Int)}{V:List Wr}{k:Nat}(hk:k<V.length)(b:Nat)(hb:(wat V k).b=(b:Int)):setW Q ((wl V).take (k+1))=fun j=>if j=b then some (wat V k).z else setW Q ((wl V).take k) j:=by
 have h1:k<(wl V).length:=by rw[ac1];exact hk
 rw[List.take_succ_eq_append_getElem h1,yL]
 have e:(wl V)[k]=(b,(wat V k).z):=by
  have:(wl V)[k]?=some ((wat V k).b.toNat,(wat V k).z):=by simp[wl,wat,List.getElem?_eq_getElem hk]
  rw[List.getElem?_eq_getElem h1,hb] at this
  simpa using this
 rw[e]
 rfl
end Go.Proofs.YtefdkpbmeoakgaaGreatDoor
