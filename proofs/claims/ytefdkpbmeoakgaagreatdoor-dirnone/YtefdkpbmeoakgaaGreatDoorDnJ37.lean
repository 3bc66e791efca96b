/- Joined: IBase, IGet, FZero, IPut, IName, IFill, IMk, IList. -/
import Derived.Test.YtefdkpbmeoakgaaGreatDoorDnJ36
import Derived.Test.YtefdkpbmeoakgaaGreatDoorDnJ22
import Derived.Test.YtefdkpbmeoakgaaGreatDoorDnINoM
import Derived.Test.YtefdkpbmeoakgaaGreatDoorDnJ10
import Derived.Deep.DeepCutAuto
import Derived.Test.YtefdkpbmeoakgaaGreatDoorDnJ1
import Derived.Lib.AppendZerosOnto
/- alo beside a group that turns; a table of aa9 in memory; what it reads. -/
namespace Go.Proofs.YtefdkpbmeoakgaaGreatDoor
set_option maxRecDepth 100000
set_option maxHeartbeats 8000000
open Go.RowKit Go.Shelf Go.Maps
set_option linter.unusedVariables false
theorem Lst.swap {w P G E g}{rows:List (Nat×Obj)}{i V F cg lg dg X C L D}{u u':World}{S}{k:Nat}{ob ob':Obj}(h:Lst w P G E g ((k,ob)::rows) i V F cg lg dg X C L D u S)(hk:w.heap.size<=k)(h0:1<w.heap.size)(hn:∀ x∈rows,x.1≠k)(kept:∀ q,q≠k->u'.heap[q]?=u.heap[q]?)(bb:Below w.heap.size u u')(ho:u'.heap[k]?=some ob'):Lst w P G E g ((k,ob')::rows) i V F cg lg dg X C L D u' S:=by
 have hS:=(h.hl.ro (k,ob) (by simp)).2
 obtain⟨Sg,Sc,Sl,Sd,m,mk,ml,az⟩:=h.hl.gv
 refine⟨⟨(az.jC (fun q hq=>kept q (fun e=>hS (by rw[← e];exact hq))) (kept 1 (by omega)) bb.size).gv,h.hl.ge,h.hl.bel.trans bb,h.hl.sz,fun x hx=>?_⟩,h.gs,h.sq,h.vl,h.fl,h.vb,h.eb,h.eu,h.ed⟩
 rcases List.mem_cons.1 hx with e | e
 ·subst e;exact⟨ho,hS⟩
 ·have:=h.hl.ro x (List.mem_cons_of_mem _ e)
  exact⟨(kept x.1 (hn x e)).trans this.1,this.2⟩
theorem Lp.swap {w P G E g o}{rows:List (Nat×Obj)}{i V F V' K u}{u':World}{k:Nat}{ob ob':Obj}(h:Lp w P G E g o ((k,ob)::rows) i V F V' K u)(hk:w.heap.size<=k)(h0:1<w.heap.size)(hn:∀ x∈rows,x.1≠k)(kept:∀ q,q≠k->u'.heap[q]?=u.heap[q]?)(bb:Below w.heap.size u u')(ho:u'.heap[k]?=some ob'):Lp w P G E g o ((k,ob')::rows) i V F V' K u':=by
 obtain⟨E0,cg,lg,dg,X,C,L,D,S,N,h,r⟩:=h
 exact⟨E0,cg,lg,dg,X,C,L,D,S,N,h.swap hk h0 hn kept bb ho,r⟩
theorem Lp.au {w:World}{P:Nat->Int}{G:Geo}{E:Nat->Bool}{g o:Nat}{rows:List (Nat×Obj)}{i:Nat}{V:Nat->List Int}{F:Nat->Bool}{V':Nat->List Int}{K:Nat->Bool}{k:Nat}{t:TypeId}(hk:w.heap.size<=k)(h0:1<w.heap.size)(hn:∀ x∈rows,x.1≠k):∀ (vs:List Value) (j:Nat) (cs:Array Value) (u:World),Lp w P G E g o ((k,.cells cs t)::rows) i V F V' K u->Lp w P G E g o rows i V F V' K (Go.Proofs.YtefdkpbmeoakgaaGreatDoor.au u k j vs)
 | [],j,cs,u,h=>h.pop
 | v::vs,j,cs,u,h=>by
  have hb:Bl u k cs t:=h.row (x:=(k,.cells cs t)) (by simp)
  have h2:=h.swap hk h0 hn (u':=u.setCell ⟨k,j,none⟩ v) (fun q hq=>Below.heap_setCell _ _ _ _ hq) ((Below.refl _ _).setCell (p:=⟨k,j,none⟩) hk _) (hb.set j v)
  exact Lp.au hk h0 hn vs (j+1) _ _ h2
theorem Lp.ne {w P G E g o rows i V F V' K u}(h:Lp w P G E g o rows i V F V' K u):∀ x∈rows,x.1≠u.heap.size:=fun x hx e=>by
 have:=h.lt hx
 omega
theorem ais {w:World}{g c n at0 m:Nat}{zs ys:List Int}{ob}(hd:Dr c n zs ob)(hg:w.heap[g]?=some ob){a2:Option Addr}(h:Has w a2 m ys)(hm0:0<m)(c2:Nat)(hfit:at0+m<=n) :
  ∃ w2 ob2,(∀ ty,(Builtin.copy_ #[71,71] ty #[.slice (cutAt (some ⟨g,0,none⟩) c at0) (n - at0) (c - at0),.slice a2 m c2]).run Tryz.prog w=.ok (goInt m) w2)/\Dr c n (put zs at0 ys) ob2/\w2.heap[g]?=some ob2/\(∀ q,q≠g->w2.heap[q]?=w.heap[q]?)/\∀ B,B<=g->Below B w w2:=by
 obtain⟨cur,rfl,h1,h2,h3,h4,h5⟩:=hd
 have hlen:=h.1
 obtain⟨b,off,rfl,hc⟩:=h.2 hm0
 have hcut:cutAt (some ⟨g,0,none⟩) c at0=some ⟨g,at0,none⟩:=by
  unfold cutAt
  rw[if_neg (by omega),Option.map_some,Nat.mul_one,World.aF,Nat.zero_add]
 have hs:∀ (j:Nat) v,(ys.map (Value.int .u8))[j]?=some v->w.cell? ((⟨b,off,none⟩:Addr).add j)=some v:=by
  intro j v hv
  have hj:j<ys.length:=by
   have:=(List.getElem?_eq_some_iff.1 hv).1
   simpa using this
  rw[World.aF,hc j (by omega)]
  rw[List.getElem?_map,List.getElem?_eq_getElem hj] at hv
  rw[List.getElem?_eq_getElem hj]
  simpa using hv
 have hm:(ys.map (Value.int .u8)).length=Nat.min m (n - at0):=by rw[List.length_map,hlen];exact(Nat.min_eq_left (by omega)).symm
 have hl:(ys.map (Value.int .u8)).length=m:=by rw[List.length_map,hlen]
 have hcl:cur.toList.length=c:=by rw[Array.length_toList,h1]
 refine⟨w.setRow g (cur.toList.take at0++ys.map (Value.int .u8)++cur.toList.drop (at0+(ys.map (Value.int .u8)).length)).toArray,_,fun ty=>?_,⟨_,rfl,?_,?_,h3,h4,?_⟩,setRow_heap w g _ _ 5 _ hg,fun q hq=>setRow_other w g q _ hq,fun B hBg=>below_setRow (Below.refl _ _) hBg _⟩
 ·have hr:=run_copy_row (P:=Tryz.prog) w 71 71 ty 5 g at0 (n - at0) (c - at0) ⟨b,off,none⟩ m c2 cur 5 (ys.map (Value.int .u8)) Tryz.underlying71 qI hg hm hs (by rw[hl,h1];omega) (cu ys)
  rw[hcut]
  rw[hr,hl]
 ·simp only[List.size_toArray,List.length_append,List.length_take,List.length_drop,hl,hcl]
  omega
 ·rw[ab8 _ _ _ (by rw[hlen,h2];exact hfit),h2]
 ·rw[List.toList_toArray,hl]
  have e1:cur.toList.take at0=(zs.map (Value.int .u8)).take at0:=by rw[← h5,List.take_take,Nat.min_eq_left (by omega)]
  have e2:(cur.toList.drop (at0+m)).take (n - (at0+m))=(zs.map (Value.int .u8)).drop (at0+m):=by rw[← h5,List.drop_take]
  have e3:(cur.toList.take at0++ys.map (Value.int .u8)).length=at0+m:=by
   rw[List.length_append,List.length_take,hl,hcl];omega
  rw[List.take_append,e3,List.take_of_length_le (by rw[e3];omega),e2,e1]
  simp[put,List.map_take,List.map_drop,hlen]
abbrev xL (X:Nat->Int):List Value:=[.int .i64 (X 0),.int .i64 (X 1),.int .i64 (X 2),.int .i64 (X 3),.int .i64 (X 4),.int .i64 (X 5),.int .i64 (X 6),.int .i64 (X 7),.int .i64 (X 8),.int .i64 (X 9),.int .i64 (X 10),.int .i64 (X 11),.int .i64 (X 12)]
abbrev zL:List Value:=[.int .i64 0,.int .i64 0,.int .i64 0,.int .i64 0,.int .i64 0,.int .i64 0,.int .i64 0,.int .i64 0,.int .i64 0,.int .i64 0,.int .i64 0,.int .i64 0,.int .i64 0]
def tbA (a:Nat) (P:Nat->Int):Array Value:=#[.pointer (some ⟨a,0,none⟩),.int .i64 (P 0),.int .i64 (P 1),.int .i64 (P 2),.int .i64 (P 3),.int .i64 (P 4),.int .i64 (P 5),.int .i64 (P 6),.int .i64 (P 7),.int .i64 (P 8),.int .i64 (P 9),.int .i64 (P 10),.int .i64 (P 11)]
def tbO (a:Nat) (P:Nat->Int):Obj:=.cells (tbA a P) 114 (0,0)
theorem fU {u:World}{tb a:Nat}{P:Nat->Int}(h:u.heap[tb]?=some (tbO a P)):u.cell? ⟨tb,1,none⟩=some (.int .i64 (P 0))/\u.cell? ⟨tb,2,none⟩=some (.int .i64 (P 1))/\u.cell? ⟨tb,3,none⟩=some (.int .i64 (P 2))/\u.cell? ⟨tb,4,none⟩=some (.int .i64 (P 3))/\u.cell? ⟨tb,5,none⟩=some (.int .i64 (P 4))/\u.cell? ⟨tb,6,none⟩=some (.int .i64 (P 5))/\u.cell? ⟨tb,7,none⟩=some (.int .i64 (P 6))/\u.cell? ⟨tb,8,none⟩=some (.int .i64 (P 7))/\u.cell? ⟨tb,9,none⟩=some (.int .i64 (P 8))/\u.cell? ⟨tb,10,none⟩=some (.int .i64 (P 9))/\u.cell? ⟨tb,11,none⟩=some (.int .i64 (P 10))/\u.cell? ⟨tb,12,none⟩=some (.int .i64 (P 11)):=by
 have hb:Bl u tb (tbA a P) 114:=h
 exact⟨hb.cell 1 _ rfl,hb.cell 2 _ rfl,hb.cell 3 _ rfl,hb.cell 4 _ rfl,hb.cell 5 _ rfl,hb.cell 6 _ rfl,hb.cell 7 _ rfl,hb.cell 8 _ rfl,hb.cell 9 _ rfl,hb.cell 10 _ rfl,hb.cell 11 _ rfl,hb.cell 12 _ rfl⟩
theorem Dr.row {c n zs ob}(h:Dr c n zs ob){u:World}{k:Nat}(hk:u.heap[k]?=some ob)(hn:n<=140737488351232)(hby:∀ z∈zs,0<=z/\z<=255):Row u.heap.size u (some ⟨k,0,none⟩) n c zs:=by
 have hh:=h.has hk
 obtain⟨cur,rfl,h1,h2,h3,h4,h5⟩:=h
 refine⟨h2,h3,⟨hn,by unfold maxLen at h4;omega⟩,hby,fun hp=>?_⟩
 obtain⟨b,off,e,hc⟩:=hh.2 hp
 exact⟨b,off,e,aO (hc 0 hp),hc⟩
theorem sW {w P G E g o rows i V F V' K u}(h:Lp w P G E g o rows i V F V' K u){a tb b:Nat}(ht:(tb,tbO a P)∈rows)(hb:E b=true) :
  Calls Tryz.prog 50 #[.pointer (some ⟨tb,0,none⟩),.pointer (some ⟨o,0,none⟩),.int .i64 (b:Int)] u fun e u1=>∃ k c,e=.returned (.tuple #[.slice (some ⟨k,0,none⟩) G.blk c,.int .i64 0])/\Hid (∃ ob,Dr c G.blk (V' b) ob/\u.heap.size<=k/\Lp w P G E g o ((k,ob)::rows) i V F V' K u1):=by
 have hp0:=h.ok.p0
 have K1:=hide (rP h hb)
 have C1:Hid (∀ k ob u1,Lp w P G E g o ((k,ob)::rows) i V F V' K u1->u1.cell? ⟨tb,1,none⟩=some (.int .i64 (G.blk:Int))):=fun k ob u1 hl=>by
  have:=(fU (hl.row (List.mem_cons_of_mem _ ht))).1
  rwa [hp0] at this
 clear h ht hb hp0
 generalize (b:Int)=bi at *
 go_enter Tryz.func50,Tryz.ntmps50
 go_wp2_with fail
 go_at_call 83
 refine(ah K1).mono ?_
 rintro e w1 ⟨k,c,rfl,Y⟩
 have c1:w1.cell? ⟨tb,1,none⟩=some (.int .i64 (G.blk:Int)):=by
  obtain⟨ob,_,_,hl⟩:=ah Y
  exact ah C1 _ _ _ hl
 clear K1 C1
 go_wp2_with fail
 go_ret2
 exact⟨k,c,rfl,Y⟩
theorem ac7 {tb:Nat}{u:World}{q b:Value}(er:Int)(hne:er≠0)(KR:Hid (Calls Tryz.prog 83 #[q,b] u fun e w'=>e=.returned (.tuple #[.slice none 0 0,.int .i64 er])/\u=w')) :
  Calls Tryz.prog 50 #[.pointer (some ⟨tb,0,none⟩),q,b] u fun e w'=>e=.returned (.tuple #[.slice none 0 0,.int .i64 er])/\u=w':=by
 have hne':(er != 0)=true:=by simpa using hne
 clear hne
 go_enter Tryz.func50,Tryz.ntmps50
 go_wp2_with fail
 go_at_call 83
 refine(ah KR).mono ?_
 rintro e w1 ⟨rfl,rfl⟩
 clear KR
 go_wp2_with fail
 go_ret2
 exact⟨rfl,rfl⟩
theorem aha (P:Nat->Int)(a:Nat)(u:World)(hc:bH P=0) :
  Calls Tryz.prog 20 #[.pointer (some ⟨a,0,none⟩),Pv P] u fun e u'=>∃ t,e=.returned (.tuple #[.pointer (some ⟨t,0,none⟩),.int .i64 0])/\Hid (Below u.heap.size u u'/\u.heap.size<=t/\u'.heap[t]?=some (tbO a P)):=by
 have HK:=hide (Kp.start u P)
 have K1:Hid (∀ w,Calls Tryz.prog 46 #[Pv P] w fun e w'=>e=.returned (.int .i64 0)/\Below w.heap.size w w'):=fun w=>by
  have:=check_any P w
  rwa [hc] at this
 have KL:Hid (∀ w1,Below u.heap.size u w1->Below u.heap.size u (w1.alloc (.cells #[.pointer (some ⟨a,0,none⟩),.int .i64 (P 0),.int .i64 (P 1),.int .i64 (P 2),.int .i64 (P 3),.int .i64 (P 4),.int .i64 (P 5),.int .i64 (P 6),.int .i64 (P 7),.int .i64 (P 8),.int .i64 (P 9),.int .i64 (P 10),.int .i64 (P 11)] 114))/\u.heap.size<=w1.heap.size/\(w1.alloc (.cells #[.pointer (some ⟨a,0,none⟩),.int .i64 (P 0),.int .i64 (P 1),.int .i64 (P 2),.int .i64 (P 3),.int .i64 (P 4),.int .i64 (P 5),.int .i64 (P 6),.int .i64 (P 7),.int .i64 (P 8),.int .i64 (P 9),.int .i64 (P 10),.int .i64 (P 11)] 114)).heap[w1.heap.size]?=some (tbO a P)):=fun w1 hb =>
  ⟨hb.alloc hb.size _,hb.size,World.alloc_heap_new w1 _⟩
 clear hc
 obtain⟨f0,f1,f2,f3,f4,f5,f6,f7,f8,f9,f10,f11⟩:=(ah HK).cells
 go_enter Tryz.func20,Tryz.ntmps20
 go_wp2_with fail
 go_at_call 46
 refine(ah K1 _).mono ?_
 rintro e w1 ⟨rfl,hb⟩
 replace HK:=hide ((ah HK).call hb)
 clear f0 f1 f2 f3 f4 f5 f6 f7 f8 f9 f10 f11 K1 hb
 obtain⟨f0,f1,f2,f3,f4,f5,f6,f7,f8,f9,f10,f11⟩:=(ah HK).cells
 have Z:=hide (ah KL w1 (ah HK).2)
 clear KL HK
 go_wp2_with fail
 go_ret2
 exact⟨_,rfl,ah Z⟩
theorem Has.row {w a}{len cap:Nat}{zs}(h:Has w a len zs)(hc:len<=cap)(hl:len<=140737488351232)(hm:cap<=9223372036854775807)(hb:∀ z∈zs,0<=z/\z<=255):Row w.heap.size w a len cap zs :=
 ⟨h.1,hc,⟨hl,hm⟩,hb,fun hp=>by
  obtain⟨b,off,e,hcs⟩:=h.2 hp
  exact⟨b,off,e,aO (hcs 0 hp),hcs⟩⟩
theorem Has.same {w w':World}{k n:Nat}{zs}(h:Has w (some ⟨k,0,none⟩) n zs)(e:w'.heap[k]?=w.heap[k]?):Has w' (some ⟨k,0,none⟩) n zs :=
 ⟨h.1,fun hp=>by
  obtain⟨b,off,e1,hcs⟩:=h.2 hp
  have e2:=Option.some.inj e1
  obtain rfl:k=b:=congrArg Addr.block e2
  obtain rfl:0=off:=congrArg Addr.off e2
  refine⟨k,0,rfl,fun j hj=>?_⟩
  have:=hcs j hj
  unfold World.cell? at this ⊢
  rw[e]
  exact this⟩
theorem xR {zs:List Int}(h:∀ z∈zs,0<=z/\z<=255)(a n:Nat):∀ z∈(zs.drop a).take n,0<=z/\z<=255:=fun z hz=>h z (List.mem_of_mem_drop (List.mem_of_mem_take hz))
theorem tu {w P G E g o rows i V F V' K u}(h:Lp w P G E g o rows i V F V' K u){a tb bk at0:Nat}(X:Nat->Int)(j:Int)(ht:(tb,tbO a P)∈rows)(h0:1<w.heap.size)(e1:jJ P j=0)(e2:oL P j=(bk:Int))(e3:oM P j=(at0:Int))(hfit:at0+32<=G.blk)(hb:E bk=true)(hi:pR (((V' bk).drop at0).take 32))(hX:Iv (bD (((V' bk).drop at0).take 32))=Iv X) :
  Calls Tryz.prog 54 #[.pointer (some ⟨tb,0,none⟩),.pointer (some ⟨o,0,none⟩),.int .i64 j] u fun e u'=>e=.returned (.tuple #[Iv X,.int .i64 0])/\Hid (Lp w P G E g o rows i V F V' K u'):=by
 have hbk:=h.ok.ok.blk
 have hm:w.heap.size<=u.heap.size:=h.bel.size
 have hne:=h.ne
 have hvb:=h.vb hb
 have KP:Hid (∀ v,Calls Tryz.prog 48 #[Pv P,.int .i64 j] v fun e w'=>e=.returned (.tuple #[.int .i64 (bk:Int),.int .i64 (at0:Int),.int .i64 0])/\Below v.heap.size v w'):=fun v=>by
  have:=iI P j v
  rwa [e1,e2,e3] at this
 have H0:=hide (h.new (.cells Iz 65))
 have KR:Hid (∀ v,Lp w P G E g o ((u.heap.size,.cells Iz 65)::rows) i V F V' K v->Calls Tryz.prog 50 #[.pointer (some ⟨tb,0,none⟩),.pointer (some ⟨o,0,none⟩),.int .i64 (bk:Int)] v fun e u1=>∃ k c,e=.returned (.tuple #[.slice (some ⟨k,0,none⟩) G.blk c,.int .i64 0])/\Hid (∃ ob,Dr c G.blk (V' bk) ob/\v.heap.size<=k/\Lp w P G E g o ((k,ob)::(u.heap.size,.cells Iz 65)::rows) i V F V' K u1)):=fun v hv=>sW hv (List.mem_cons_of_mem _ ht) hb
 have KU:Hid (∀ v k c ob,Dr c G.blk (V' bk) ob->Lp w P G E g o ((k,ob)::(u.heap.size,.cells Iz 65)::rows) i V F V' K v->∃ a1 c1,(∀ w,(Instr.slice 71 (.slice (some ⟨k,0,none⟩) G.blk c) (some (.int .i64 (at0:Int))) (some (.int .i64 ((at0:Int)+32))) none).run Tryz.prog w=.ok (.slice a1 32 c1) w)/\Hid (Calls Tryz.prog 86 #[.slice a1 32 c1] v fun e w'=>e=.returned (.tuple #[Iv X,.int .i64 0])/\Hid (Lp w P G E g o ((u.heap.size,.cells Iz 65)::rows) i V F V' K w'))):=fun v k c ob hd hl=>by
  have hrow:v.heap[k]?=some ob:=hl.row (x:=(k,ob)) (by simp)
  have hcap:G.blk<=c/\c<=maxLen:=by obtain⟨cur,_,_,_,h3,h4,_⟩:=hd;exact⟨h3,h4⟩
  have hmx:maxLen<=9223372036854775807:=by unfold maxLen;omega
  refine⟨_,_,fun w=>iH (some ⟨k,0,none⟩) G.blk c at0 32 (by omega) w,?_⟩
  have hr:=((hd.has hrow).cut (cap:=c) (l:=at0) (k:=32) (by omega) (by omega)).row (cap:=c - at0) (by omega) (by omega) (by omega) (xR hvb.2 _ _)
  have:=yu _ _ _ _ v hr hi
  rw[hX] at this
  refine this.mono ?_
  rintro e w' ⟨rfl,b1⟩
  exact⟨rfl,(hl.later b1).pop⟩
 have HF:Hid (∀ v,Lp w P G E g o ((u.heap.size,.cells Iz 65)::rows) i V F V' K v->Lp w P G E g o rows i V F V' K (au v u.heap.size 0 (xL X))):=fun v hv=>Lp.au hm h0 hne _ 0 _ _ hv
 have HT:Hid (∀ v,Lp w P G E g o ((u.heap.size,.cells Iz 65)::rows) i V F V' K v->v.heap[tb]?=some (tbO a P)/\Bl v u.heap.size Iz 65):=fun v hv=>⟨hv.row (List.mem_cons_of_mem _ ht),hv.row (x:=(u.heap.size,.cells Iz 65)) (by simp)⟩
 have A1:=hide (show (0:Int)<=(at0:Int)/\(at0:Int)<=4096 by omega)
 clear h ht h0 e1 e2 e3 hfit hb hi hX hbk hm hne hvb
 go_enter Tryz.func54,Tryz.ntmps54
 go_upto_region 1 with fail
 change Code.wp _ _ _ _ (u.alloc (.cells Iz 65))
 generalize u.alloc (.cells Iz 65)=w0 at *
 generalize u.heap.size=m at *
 obtain⟨f0,f1,f2,f3,f4,f5,f6,f7,f8,f9,f10,f11⟩:=fU (ah HT _ (ah H0)).1
 go_wp2_with fail
 go_at_call 48
 refine(ah KP _).mono ?_
 rintro e w1 ⟨rfl,hb1⟩
 have K2:=hide (ah KR w1 ((ah H0).later hb1))
 clear KP KR H0 hb1 f0 f1 f2 f3 f4 f5 f6 f7 f8 f9 f10 f11
 obtain⟨a1,a2⟩:=ah A1
 generalize (at0:Int)=ai at *
 go_wp2_with fail
 go_at_call 50
 refine(ah K2).mono ?_
 rintro e w2 ⟨k,c,rfl,Y⟩
 obtain⟨ob,hd,_,hl⟩:=ah Y
 obtain⟨p1,c1,hs,K3⟩:=ah KU w2 k c ob hd hl
 clear K2 KU Y hd hl
 go_wp2_with fail
 go_at_call 86
 refine(ah K3).mono ?_
 rintro e w3 ⟨rfl,L3⟩
 have L4:=hide ((ah L3).later ((Below.refl _ _).alloc (Nat.le_refl _) (.cells (Ic X) 65)))
 have bx:=Bl.new w3 (Ic X) 65
 clear K3 hs L3 A1 a1 a2
 go_upto_region 10 with fail
 change Code.wp _ _ _ _ (w3.alloc (.cells (Ic X) 65))
 generalize w3.alloc (.cells (Ic X) 65)=w4 at *
 generalize w3.heap.size=m3 at *
 have bz:=(ah HT _ (ah L4)).2
 have x0:=bx.cell 0 (.int .i64 (X 0)) rfl
 have x1:=bx.cell 1 (.int .i64 (X 1)) rfl
 have x2:=bx.cell 2 (.int .i64 (X 2)) rfl
 have x3:=bx.cell 3 (.int .i64 (X 3)) rfl
 have x4:=bx.cell 4 (.int .i64 (X 4)) rfl
 have x5:=bx.cell 5 (.int .i64 (X 5)) rfl
 have x6:=bx.cell 6 (.int .i64 (X 6)) rfl
 have x7:=bx.cell 7 (.int .i64 (X 7)) rfl
 have x8:=bx.cell 8 (.int .i64 (X 8)) rfl
 have x9:=bx.cell 9 (.int .i64 (X 9)) rfl
 have x10:=bx.cell 10 (.int .i64 (X 10)) rfl
 have x11:=bx.cell 11 (.int .i64 (X 11)) rfl
 have x12:=bx.cell 12 (.int .i64 (X 12)) rfl
 have z0:=bz.cell 0 (.int .i64 0) rfl
 have z1:=bz.cell 1 (.int .i64 0) rfl
 have z2:=bz.cell 2 (.int .i64 0) rfl
 have z3:=bz.cell 3 (.int .i64 0) rfl
 have z4:=bz.cell 4 (.int .i64 0) rfl
 have z5:=bz.cell 5 (.int .i64 0) rfl
 have z6:=bz.cell 6 (.int .i64 0) rfl
 have z7:=bz.cell 7 (.int .i64 0) rfl
 have z8:=bz.cell 8 (.int .i64 0) rfl
 have z9:=bz.cell 9 (.int .i64 0) rfl
 have z10:=bz.cell 10 (.int .i64 0) rfl
 have z11:=bz.cell 11 (.int .i64 0) rfl
 have z12:=bz.cell 12 (.int .i64 0) rfl
 have fz:=bz.free
 have Z:=hide (ah HF _ (ah L4))
 have hA:Bl (au w4 m 0 (xL X)) m (Ic X) 65:=aI (xL X) _ _ bz rfl
 clear HF HT L4 bx bz
 go_wp2_with fail
 change bodyPost _ _ _ _ _ (au w4 m 0 (xL X))
 generalize au w4 m 0 (xL X)=wf at *
 refine bodyPost_ret (v:=.tuple #[Iv X,.int .i64 0]) ?_ rfl ⟨rfl,Z⟩
 simp[results,Tryz.results54,go_sem,hA.cell 0 _ rfl,hA.cell 1 _ rfl,hA.cell 2 _ rfl,hA.cell 3 _ rfl,hA.cell 4 _ rfl,hA.cell 5 _ rfl,hA.cell 6 _ rfl,hA.cell 7 _ rfl,hA.cell 8 _ rfl,hA.cell 9 _ rfl,hA.cell 10 _ rfl,hA.cell 11 _ rfl,hA.cell 12 _ rfl]
theorem aeU (q r:Value)(u:World) :
  Calls Tryz.prog 54 #[.pointer none,q,r] u fun e u'=>e=.returned (.tuple #[.agg Iz,.int .i64 1])/\Below u.heap.size u u':=by
 have BZ:=hide (Bl.new u Iz 65)
 have B0:=hide ((Below.refl u.heap.size u).alloc (Nat.le_refl _) (.cells Iz 65))
 go_enter Tryz.func54,Tryz.ntmps54
 go_upto_region 1 with fail
 change Code.wp _ _ _ _ (u.alloc (.cells Iz 65))
 generalize u.alloc (.cells Iz 65)=w0 at *
 have bz:=ah BZ
 have hbu:=ah B0
 clear BZ B0
 have z0:=bz.cell 0 (.int .i64 0) rfl
 have z1:=bz.cell 1 (.int .i64 0) rfl
 have z2:=bz.cell 2 (.int .i64 0) rfl
 have z3:=bz.cell 3 (.int .i64 0) rfl
 have z4:=bz.cell 4 (.int .i64 0) rfl
 have z5:=bz.cell 5 (.int .i64 0) rfl
 have z6:=bz.cell 6 (.int .i64 0) rfl
 have z7:=bz.cell 7 (.int .i64 0) rfl
 have z8:=bz.cell 8 (.int .i64 0) rfl
 have z9:=bz.cell 9 (.int .i64 0) rfl
 have z10:=bz.cell 10 (.int .i64 0) rfl
 have z11:=bz.cell 11 (.int .i64 0) rfl
 have z12:=bz.cell 12 (.int .i64 0) rfl
 have fz:=bz.free
 have hW:Below u.heap.size u (au w0 u.heap.size 0 zL):=aN (Nat.le_refl _) _ _ _ _ hbu
 have hA:Bl (au w0 u.heap.size 0 zL) u.heap.size Iz 65:=aI zL _ _ bz rfl
 have HW:=hide hW
 clear bz hbu hW
 go_wp2_with fail
 change bodyPost _ _ _ _ _ (au w0 u.heap.size 0 zL)
 generalize au w0 u.heap.size 0 zL=wf at *
 refine bodyPost_ret (v:=.tuple #[.agg Iz,.int .i64 1]) ?_ rfl ⟨rfl,ah HW⟩
 simp[results,Tryz.results54,go_sem,hA.cell 0 _ rfl,hA.cell 1 _ rfl,hA.cell 2 _ rfl,hA.cell 3 _ rfl,hA.cell 4 _ rfl,hA.cell 5 _ rfl,hA.cell 6 _ rfl,hA.cell 7 _ rfl,hA.cell 8 _ rfl,hA.cell 9 _ rfl,hA.cell 10 _ rfl,hA.cell 11 _ rfl,hA.cell 12 _ rfl]
theorem aaU {tb a:Nat}{P:Nat->Int}(q:Value)(j:Int)(u:World)(ht:u.heap[tb]?=some (tbO a P))(e1:jJ P j=2) :
  Calls Tryz.prog 54 #[.pointer (some ⟨tb,0,none⟩),q,.int .i64 j] u fun e u'=>e=.returned (.tuple #[.agg Iz,.int .i64 2])/\Below u.heap.size u u':=by
 have KP:Hid (∀ v,Calls Tryz.prog 48 #[Pv P,.int .i64 j] v fun e w'=>e=.returned (.tuple #[.int .i64 0,.int .i64 0,.int .i64 2])/\Below v.heap.size v w'):=fun v=>by
  have:=iI P j v
  unfold oL oM at this
  rw[e1,if_neg (by omega),if_neg (by omega)] at this
  exact this
 have HT0:Bl (u.alloc (.cells Iz 65)) tb (tbA a P) 114:=Bl.alloc (u:=u) ht _
 clear ht e1
 have BZ:=hide (Bl.new u Iz 65)
 have B0:=hide ((Below.refl u.heap.size u).alloc (Nat.le_refl _) (.cells Iz 65))
 go_enter Tryz.func54,Tryz.ntmps54
 go_upto_region 1 with fail
 change Code.wp _ _ _ _ (u.alloc (.cells Iz 65))
 generalize u.alloc (.cells Iz 65)=w0 at *
 obtain⟨f0,f1,f2,f3,f4,f5,f6,f7,f8,f9,f10,f11⟩:=fU HT0
 clear HT0
 go_wp2_with fail
 go_at_call 48
 refine(ah KP _).mono ?_
 rintro e w1 ⟨rfl,hb1⟩
 have bz:=(ah BZ).call hb1
 have hbu:=(ah B0).trans (hb1.mono (ah B0).size)
 clear KP BZ B0 hb1 f0 f1 f2 f3 f4 f5 f6 f7 f8 f9 f10 f11
 have z0:=bz.cell 0 (.int .i64 0) rfl
 have z1:=bz.cell 1 (.int .i64 0) rfl
 have z2:=bz.cell 2 (.int .i64 0) rfl
 have z3:=bz.cell 3 (.int .i64 0) rfl
 have z4:=bz.cell 4 (.int .i64 0) rfl
 have z5:=bz.cell 5 (.int .i64 0) rfl
 have z6:=bz.cell 6 (.int .i64 0) rfl
 have z7:=bz.cell 7 (.int .i64 0) rfl
 have z8:=bz.cell 8 (.int .i64 0) rfl
 have z9:=bz.cell 9 (.int .i64 0) rfl
 have z10:=bz.cell 10 (.int .i64 0) rfl
 have z11:=bz.cell 11 (.int .i64 0) rfl
 have z12:=bz.cell 12 (.int .i64 0) rfl
 have fz:=bz.free
 have hW:Below u.heap.size u (au w1 u.heap.size 0 zL):=aN (Nat.le_refl _) _ _ _ _ hbu
 have hA:Bl (au w1 u.heap.size 0 zL) u.heap.size Iz 65:=aI zL _ _ bz rfl
 have HW:=hide hW
 clear bz hbu hW
 go_wp2_with fail
 change bodyPost _ _ _ _ _ (au w1 u.heap.size 0 zL)
 generalize au w1 u.heap.size 0 zL=wf at *
 refine bodyPost_ret (v:=.tuple #[.agg Iz,.int .i64 2]) ?_ rfl ⟨rfl,ah HW⟩
 simp[results,Tryz.results54,go_sem,hA.cell 0 _ rfl,hA.cell 1 _ rfl,hA.cell 2 _ rfl,hA.cell 3 _ rfl,hA.cell 4 _ rfl,hA.cell 5 _ rfl,hA.cell 6 _ rfl,hA.cell 7 _ rfl,hA.cell 8 _ rfl,hA.cell 9 _ rfl,hA.cell 10 _ rfl,hA.cell 11 _ rfl,hA.cell 12 _ rfl]
theorem acB {tb a bk at0:Nat}{P:Nat->Int}(q:Value)(j er:Int)(u:World)(ht:u.heap[tb]?=some (tbO a P))(e1:jJ P j=0)(e2:oL P j=(bk:Int))(e3:oM P j=(at0:Int))(hne:er≠0)(KR:Hid (∀ v,Below u.heap.size u v->Calls Tryz.prog 83 #[q,.int .i64 (bk:Int)] v fun e w'=>e=.returned (.tuple #[.slice none 0 0,.int .i64 er])/\v=w')) :
  Calls Tryz.prog 54 #[.pointer (some ⟨tb,0,none⟩),q,.int .i64 j] u fun e u'=>e=.returned (.tuple #[.agg Iz,.int .i64 er])/\Below u.heap.size u u':=by
 have KP:Hid (∀ v,Calls Tryz.prog 48 #[Pv P,.int .i64 j] v fun e w'=>e=.returned (.tuple #[.int .i64 (bk:Int),.int .i64 (at0:Int),.int .i64 0])/\Below v.heap.size v w'):=fun v=>by
  have:=iI P j v
  rwa [e1,e2,e3] at this
 have KD:Hid (∀ v,Below u.heap.size u v->Calls Tryz.prog 50 #[.pointer (some ⟨tb,0,none⟩),q,.int .i64 (bk:Int)] v fun e w'=>e=.returned (.tuple #[.slice none 0 0,.int .i64 er])/\v=w'):=fun v hv=>ac7 er hne (ah KR v hv)
 have HT0:Bl (u.alloc (.cells Iz 65)) tb (tbA a P) 114:=Bl.alloc (u:=u) ht _
 have hne':(er != 0)=true:=by simpa using hne
 clear ht e1 e2 e3 hne KR
 have BZ:=hide (Bl.new u Iz 65)
 have B0:=hide ((Below.refl u.heap.size u).alloc (Nat.le_refl _) (.cells Iz 65))
 go_enter Tryz.func54,Tryz.ntmps54
 go_upto_region 1 with fail
 change Code.wp _ _ _ _ (u.alloc (.cells Iz 65))
 generalize u.alloc (.cells Iz 65)=w0 at *
 obtain⟨f0,f1,f2,f3,f4,f5,f6,f7,f8,f9,f10,f11⟩:=fU HT0
 clear HT0
 go_wp2_with fail
 go_at_call 48
 refine(ah KP _).mono ?_
 rintro e w1 ⟨rfl,hb1⟩
 have bz:=(ah BZ).call hb1
 have hbu:=(ah B0).trans (hb1.mono (ah B0).size)
 have K2:=hide (ah KD w1 hbu)
 clear KP BZ B0 hb1 KD f0 f1 f2 f3 f4 f5 f6 f7 f8 f9 f10 f11
 go_wp2_with fail
 go_at_call 50
 refine(ah K2).mono ?_
 rintro e w2 ⟨rfl,rfl⟩
 clear K2
 have z0:=bz.cell 0 (.int .i64 0) rfl
 have z1:=bz.cell 1 (.int .i64 0) rfl
 have z2:=bz.cell 2 (.int .i64 0) rfl
 have z3:=bz.cell 3 (.int .i64 0) rfl
 have z4:=bz.cell 4 (.int .i64 0) rfl
 have z5:=bz.cell 5 (.int .i64 0) rfl
 have z6:=bz.cell 6 (.int .i64 0) rfl
 have z7:=bz.cell 7 (.int .i64 0) rfl
 have z8:=bz.cell 8 (.int .i64 0) rfl
 have z9:=bz.cell 9 (.int .i64 0) rfl
 have z10:=bz.cell 10 (.int .i64 0) rfl
 have z11:=bz.cell 11 (.int .i64 0) rfl
 have z12:=bz.cell 12 (.int .i64 0) rfl
 have fz:=bz.free
 have hW:Below u.heap.size u (au w1 u.heap.size 0 zL):=aN (Nat.le_refl _) _ _ _ _ hbu
 have hA:Bl (au w1 u.heap.size 0 zL) u.heap.size Iz 65:=aI zL _ _ bz rfl
 have HW:=hide hW
 clear bz hbu hW
 go_wp2_with fail
 change bodyPost _ _ _ _ _ (au w1 u.heap.size 0 zL)
 generalize au w1 u.heap.size 0 zL=wf at *
 refine bodyPost_ret (v:=.tuple #[.agg Iz,.int .i64 er]) ?_ rfl ⟨rfl,ah HW⟩
 simp[results,Tryz.results54,go_sem,hA.cell 0 _ rfl,hA.cell 1 _ rfl,hA.cell 2 _ rfl,hA.cell 3 _ rfl,hA.cell 4 _ rfl,hA.cell 5 _ rfl,hA.cell 6 _ rfl,hA.cell 7 _ rfl,hA.cell 8 _ rfl,hA.cell 9 _ rfl,hA.cell 10 _ rfl,hA.cell 11 _ rfl,hA.cell 12 _ rfl]
theorem ab9 (X:Nat->Int)(w:World)(hk:mg (X 0)=true)(h0:(X 0==0)=true)(hs:gY X dB=true)(h4:iD 4 [X 2]=true)(h2:iD 2 [X 1,X 11,X 12]=true)(h8:iD 2 (iE X)=true) :
  Calls Tryz.prog 49 #[Iv X] w fun e w'=>∃ k,e=.returned (.tuple #[.slice (some ⟨k,0,none⟩) 32 32,.int .i64 0])/\Hid (Has w' (some ⟨k,0,none⟩) 32 (aZ 32 (dP X))/\w.heap.size<=k)/\Below w.heap.size w w':=by
 have HK:=hide (Bx.start w (Ic X) 65)
 have KK:Hid (∀ u,Calls Tryz.prog 79 #[.int .i64 (X 0)] u fun e w'=>e=.returned (.bool true)/\Below u.heap.size u w'):=fun u=>(rJ (X 0) u).mono fun e w' ⟨h1,h2⟩=>⟨by rw[h1,hk],h2 ▸ Below.refl _ _⟩
 have F4:Hid (∀ u:World,Calls Tryz.prog 80 #[.int .i64 4,.slice (some ⟨u.heap.size,0,none⟩) 1 1] (u.alloc (zI (X 2))) fun e w'=>e=.returned (.bool true)/\Below u.heap.size u w') :=
  fun u=>uF 4 (.inr rfl) [X 2] u (by simp) _ h4
 have F2:Hid (∀ u:World,Calls Tryz.prog 80 #[.int .i64 2,.slice (some ⟨u.heap.size,0,none⟩) 3 3] (u.alloc (.cells #[.int .i64 (X 1),.int .i64 (X 11),.int .i64 (X 12)] 3)) fun e w'=>e=.returned (.bool true)/\Below u.heap.size u w') :=
  fun u=>uF 2 (.inl rfl) [X 1,X 11,X 12] u (by simp) _ h2
 have F8:Hid (∀ u:World,Bx w (Ic X) u->Calls Tryz.prog 80 #[.int .i64 2,.slice (some ⟨w.heap.size,3,none⟩) 8 8] u fun e w'=>e=.returned (.bool true)/\u=w') :=
  fun u hB=>aaF hB _ h8
 have HH:=hide hk
 have H4:=hide h4
 have H2:=hide h2
 have H8:=hide h8
 clear hk h4 h2 h8
 have hq:∀ u:World,(binOp .neq 65 (Iv X) (.agg Iz)).run Tryz.prog u=.ok (.bool false) u:=fun u=>by
  have:=adu X dB u
  rw[hs] at this
  exact this
 clear hs
 go_enter Tryz.func49,Tryz.ntmps49
 go_wp2_with fail
 go_at_call 79
 refine(ah KK _).mono ?_
 rintro e w1 ⟨rfl,hb⟩
 replace HK:=hide ((ah HK).call hb)
 clear KK hb
 have f0:=HK.out.1 0 _ rfl
 have f1:=HK.out.1 1 _ rfl
 have f2:=HK.out.1 2 _ rfl
 have f3:=HK.out.1 3 _ rfl
 have f4:=HK.out.1 4 _ rfl
 have f5:=HK.out.1 5 _ rfl
 have f6:=HK.out.1 6 _ rfl
 have f7:=HK.out.1 7 _ rfl
 have f8:=HK.out.1 8 _ rfl
 have f9:=HK.out.1 9 _ rfl
 have f10:=HK.out.1 10 _ rfl
 have f11:=HK.out.1 11 _ rfl
 have f12:=HK.out.1 12 _ rfl
 go_upto_region 3 with fail
 clear f0 f1 f2 f3 f4 f5 f6 f7 f8 f9 f10 f11 f12
 clear hq
 have f0:=HK.out.1 0 _ rfl
 have f2:=HK.out.1 2 _ rfl
 go_wp2_with fail
 go_at_call 80
 refine(ah F4 _).mono ?_
 rintro e w2 ⟨rfl,hb⟩
 replace HK:=hide ((ah HK).call hb)
 clear hb F4 f0 f2
 have f1:=HK.out.1 1 _ rfl
 have f11:=HK.out.1 11 _ rfl
 have f12:=HK.out.1 12 _ rfl
 go_wp2_with fail
 go_at_call 80
 refine(ah F2 _).mono ?_
 rintro e w3 ⟨rfl,hb⟩
 replace HK:=hide ((ah HK).call hb)
 clear hb F2 f1 f11 f12
 go_wp2_with fail
 go_at_call 80
 refine(ah F8 _ HK.out).mono ?_
 rintro e w' ⟨rfl,rfl⟩
 clear F8
 go_upto_region 5 with fail
 go_cut [2,3] (fun c q wx=>∃ k0,c=.slice (some ⟨k0,0,none⟩) 32 32/\q=.int .i64 0/\Hid (Has wx (some ⟨k0,0,none⟩) 32 (aZ 32 (dP X))/\w.heap.size<=k0)/\Hid (Bx w (Ic X) wx))
 case first =>
  refine dU (by kernel_rfl) w.heap.size [bG (.pointer (some ⟨w.heap.size,0,none⟩)),bG (.int .i64 (X 0)),bC [X 0,0],aC 2 (aH 1 [X 0,0]),bG (.pointer (some ⟨w.heap.size,1,none⟩)),bG (.int .i64 (X 1)),bC [X 1],aC 2 (aH 2 [X 1]),bG (.pointer (some ⟨w.heap.size,2,none⟩)),bG (.int .i64 (X 2)),bC [X 2],aC 4 (aH 4 [X 2]),bG (.pointer (some ⟨w.heap.size,3,none⟩)),bC (iE X),aC 16 (aH 2 (iE X)),bG (.pointer (some ⟨w.heap.size,11,none⟩)),bG (.int .i64 (X 11)),bG (.pointer (some ⟨w.heap.size,12,none⟩)),bG (.int .i64 (X 12)),bC [X 11,X 12],aC 4 (aH 2 [X 11,X 12]),dX 5 (dP X),lU w.heap.size 32 (aZ 32 (dP X)),lU w.heap.size 32 (aZ 32 (dP X)),bG (.int .i64 0)] ?_ (by kernel_rfl) (by kernel_rfl) ?_ ?_
  ·intro S hS
   simp only[List.mem_cons,List.not_mem_nil,or_false] at hS
   rcases hS with rfl | rfl | rfl | rfl | rfl | rfl | rfl | rfl | rfl | rfl | rfl | rfl | rfl | rfl | rfl | rfl | rfl | rfl | rfl | rfl | rfl | rfl | rfl | rfl | rfl<;>first | exact jK _ _ | exact gI _ _ _ | exact uo _ _ _ | exact iT _ _ | exact iK _ _ | exact gG _ _ _
  ·intro i o a u hi hF hA hG
   have hB:=HK.out.drew.grw hG
   have hn:w.heap.size<=u.heap.size:=hB.2.1.size
   have tb:a.tmps[1]?.getD undef=.pointer (some ⟨w.heap.size,0,none⟩):=iq hF 1 (by kernel_rfl)
   have hlt:=(Array.getElem?_eq_some_iff.1 hi).1
   have hcs:i=0\/i=1\/i=2\/i=3\/i=4\/i=5\/i=6\/i=7\/i=8\/i=9\/i=10\/i=11\/i=12\/i=13\/i=14\/i=15\/i=16\/i=17\/i=18\/i=19\/i=20\/i=21\/i=22\/i=23\/i=24:=by simp at hlt;omega
   clear hlt
   rcases hcs with rfl | rfl | rfl | rfl | rfl | rfl | rfl | rfl | rfl | rfl | rfl | rfl | rfl | rfl | rfl | rfl | rfl | rfl | rfl | rfl | rfl | rfl | rfl | rfl | rfl
   ·have ho:=Option.some.inj hi;subst ho
    have h0:=tb
    refine aB (w':=u) rfl rfl (.pointer (some ⟨w.heap.size,0,none⟩)) ?_ rfl (Grw.refl _ _)
    simp[execOp,Act.eval,h0,go_sem]
   ·have ho:=Option.some.inj hi;subst ho
    have h0:a.tmps[40]?.getD undef=.pointer (some ⟨w.heap.size,0,none⟩):=aj hA 0 40 (by kernel_rfl) rfl
    have f0:=hB.1 0 _ rfl
    refine aB (w':=u) rfl rfl (.int .i64 (X 0)) ?_ rfl (Grw.refl _ _)
    simp[execOp,Act.eval,h0,f0,go_sem]
   ·have ho:=Option.some.inj hi;subst ho
    have h0:a.tmps[41]?.getD undef=.int .i64 (X 0):=aj hA 1 41 (by kernel_rfl) rfl
    refine aB (w':=u.alloc (.cells ([X 0,0].map (Value.int .i64)).toArray 3)) rfl rfl (.slice (some ⟨u.heap.size,0,none⟩) 2 2) ?_ ⟨_,_,rfl,aU u [X 0,0]⟩ (Grw.alloc _ _ _ hn)
    simp[execOp,Act.eval,h0,go_sem]
   ·have ho:=Option.some.inj hi;subst ho
    have h0:bC [X 0,0] (a.tmps[42]?.getD undef) u:=aj hA 2 42 (by kernel_rfl) rfl
    refine bK rfl rfl 82 #[.int .i64 (1:Nat),a.tmps[42]?.getD undef] ?_ hn (aT 1 (.inl rfl) [X 0,0] _ u h0 (by first | (simp;done) | simp[iE]) (aa7 HH.out) 2 rfl)
    simp[execOp,Act.eval,go_sem]
   ·have ho:=Option.some.inj hi;subst ho
    have h0:=tb
    refine aB (w':=u) rfl rfl (.pointer (some ⟨w.heap.size,1,none⟩)) ?_ rfl (Grw.refl _ _)
    simp[execOp,Act.eval,h0,go_sem]
   ·have ho:=Option.some.inj hi;subst ho
    have h0:a.tmps[44]?.getD undef=.pointer (some ⟨w.heap.size,1,none⟩):=aj hA 4 44 (by kernel_rfl) rfl
    have f0:=hB.1 1 _ rfl
    refine aB (w':=u) rfl rfl (.int .i64 (X 1)) ?_ rfl (Grw.refl _ _)
    simp[execOp,Act.eval,h0,f0,go_sem]
   ·have ho:=Option.some.inj hi;subst ho
    have h0:a.tmps[45]?.getD undef=.int .i64 (X 1):=aj hA 5 45 (by kernel_rfl) rfl
    refine aB (w':=u.alloc (.cells ([X 1].map (Value.int .i64)).toArray 3)) rfl rfl (.slice (some ⟨u.heap.size,0,none⟩) 1 1) ?_ ⟨_,_,rfl,aU u [X 1]⟩ (Grw.alloc _ _ _ hn)
    simp[execOp,Act.eval,h0,go_sem]
   ·have ho:=Option.some.inj hi;subst ho
    have h0:bC [X 1] (a.tmps[46]?.getD undef) u:=aj hA 6 46 (by kernel_rfl) rfl
    refine bK rfl rfl 82 #[.int .i64 (2:Nat),a.tmps[46]?.getD undef] ?_ hn (aT 2 (.inr (.inl rfl)) [X 1] _ u h0 (by first | (simp;done) | simp[iE]) (ajB H2.out) 2 rfl)
    simp[execOp,Act.eval,go_sem]
   ·have ho:=Option.some.inj hi;subst ho
    have h0:=tb
    refine aB (w':=u) rfl rfl (.pointer (some ⟨w.heap.size,2,none⟩)) ?_ rfl (Grw.refl _ _)
    simp[execOp,Act.eval,h0,go_sem]
   ·have ho:=Option.some.inj hi;subst ho
    have h0:a.tmps[48]?.getD undef=.pointer (some ⟨w.heap.size,2,none⟩):=aj hA 8 48 (by kernel_rfl) rfl
    have f0:=hB.1 2 _ rfl
    refine aB (w':=u) rfl rfl (.int .i64 (X 2)) ?_ rfl (Grw.refl _ _)
    simp[execOp,Act.eval,h0,f0,go_sem]
   ·have ho:=Option.some.inj hi;subst ho
    have h0:a.tmps[49]?.getD undef=.int .i64 (X 2):=aj hA 9 49 (by kernel_rfl) rfl
    refine aB (w':=u.alloc (.cells ([X 2].map (Value.int .i64)).toArray 3)) rfl rfl (.slice (some ⟨u.heap.size,0,none⟩) 1 1) ?_ ⟨_,_,rfl,aU u [X 2]⟩ (Grw.alloc _ _ _ hn)
    simp[execOp,Act.eval,h0,go_sem]
   ·have ho:=Option.some.inj hi;subst ho
    have h0:bC [X 2] (a.tmps[50]?.getD undef) u:=aj hA 10 50 (by kernel_rfl) rfl
    refine bK rfl rfl 82 #[.int .i64 (4:Nat),a.tmps[50]?.getD undef] ?_ hn (aT 4 (.inr (.inr rfl)) [X 2] _ u h0 (by first | (simp;done) | simp[iE]) H4.out 4 rfl)
    simp[execOp,Act.eval,go_sem]
   ·have ho:=Option.some.inj hi;subst ho
    have h0:=tb
    refine aB (w':=u) rfl rfl (.pointer (some ⟨w.heap.size,3,none⟩)) ?_ rfl (Grw.refl _ _)
    simp[execOp,Act.eval,h0,go_sem]
   ·have ho:=Option.some.inj hi;subst ho
    have h0:a.tmps[52]?.getD undef=.pointer (some ⟨w.heap.size,3,none⟩):=aj hA 12 52 (by kernel_rfl) rfl
    refine aB (w':=u) rfl rfl (.slice (some ⟨w.heap.size,3,none⟩) 8 8) ?_ ⟨_,_,rfl,uH hB⟩ (Grw.refl _ _)
    simp[execOp,Act.eval,h0,go_sem]
   ·have ho:=Option.some.inj hi;subst ho
    have h0:bC (iE X) (a.tmps[53]?.getD undef) u:=aj hA 13 53 (by kernel_rfl) rfl
    refine bK rfl rfl 82 #[.int .i64 (2:Nat),a.tmps[53]?.getD undef] ?_ hn (aT 2 (.inr (.inl rfl)) (iE X) _ u h0 (by first | (simp;done) | simp[iE]) H8.out 16 rfl)
    simp[execOp,Act.eval,go_sem]
   ·have ho:=Option.some.inj hi;subst ho
    have h0:=tb
    refine aB (w':=u) rfl rfl (.pointer (some ⟨w.heap.size,11,none⟩)) ?_ rfl (Grw.refl _ _)
    simp[execOp,Act.eval,h0,go_sem]
   ·have ho:=Option.some.inj hi;subst ho
    have h0:a.tmps[55]?.getD undef=.pointer (some ⟨w.heap.size,11,none⟩):=aj hA 15 55 (by kernel_rfl) rfl
    have f0:=hB.1 11 _ rfl
    refine aB (w':=u) rfl rfl (.int .i64 (X 11)) ?_ rfl (Grw.refl _ _)
    simp[execOp,Act.eval,h0,f0,go_sem]
   ·have ho:=Option.some.inj hi;subst ho
    have h0:=tb
    refine aB (w':=u) rfl rfl (.pointer (some ⟨w.heap.size,12,none⟩)) ?_ rfl (Grw.refl _ _)
    simp[execOp,Act.eval,h0,go_sem]
   ·have ho:=Option.some.inj hi;subst ho
    have h0:a.tmps[57]?.getD undef=.pointer (some ⟨w.heap.size,12,none⟩):=aj hA 17 57 (by kernel_rfl) rfl
    have f0:=hB.1 12 _ rfl
    refine aB (w':=u) rfl rfl (.int .i64 (X 12)) ?_ rfl (Grw.refl _ _)
    simp[execOp,Act.eval,h0,f0,go_sem]
   ·have ho:=Option.some.inj hi;subst ho
    have h0:a.tmps[56]?.getD undef=.int .i64 (X 11):=aj hA 16 56 (by kernel_rfl) rfl
    have h1:a.tmps[58]?.getD undef=.int .i64 (X 12):=aj hA 18 58 (by kernel_rfl) rfl
    refine aB (w':=u.alloc (.cells ([X 11,X 12].map (Value.int .i64)).toArray 3)) rfl rfl (.slice (some ⟨u.heap.size,0,none⟩) 2 2) ?_ ⟨_,_,rfl,aU u [X 11,X 12]⟩ (Grw.alloc _ _ _ hn)
    simp[execOp,Act.eval,h0,h1,go_sem]
   ·have ho:=Option.some.inj hi;subst ho
    have h0:bC [X 11,X 12] (a.tmps[59]?.getD undef) u:=aj hA 19 59 (by kernel_rfl) rfl
    refine bK rfl rfl 82 #[.int .i64 (2:Nat),a.tmps[59]?.getD undef] ?_ hn (aT 2 (.inr (.inl rfl)) [X 11,X 12] _ u h0 (by first | (simp;done) | simp[iE]) (ajA H2.out) 4 rfl)
    simp[execOp,Act.eval,go_sem]
   ·have ho:=Option.some.inj hi;subst ho
    obtain⟨p0,c0,e0,b0,_,_⟩:aC 2 (aH 1 [X 0,0]) (a.tmps[43]?.getD undef) u:=aj hA 3 43 (by kernel_rfl) rfl
    obtain⟨p1,c1,e1,b1,_,_⟩:aC 2 (aH 2 [X 1]) (a.tmps[47]?.getD undef) u:=aj hA 7 47 (by kernel_rfl) rfl
    obtain⟨p2,c2,e2,b2,_,_⟩:aC 4 (aH 4 [X 2]) (a.tmps[51]?.getD undef) u:=aj hA 11 51 (by kernel_rfl) rfl
    obtain⟨p3,c3,e3,b3,_,_⟩:aC 16 (aH 2 (iE X)) (a.tmps[54]?.getD undef) u:=aj hA 14 54 (by kernel_rfl) rfl
    obtain⟨p4,c4,e4,b4,_,_⟩:aC 4 (aH 2 [X 11,X 12]) (a.tmps[60]?.getD undef) u:=aj hA 20 60 (by kernel_rfl) rfl
    have hp:=gV u [(p0,2,c0,(aH 1 [X 0,0])),(p1,2,c1,(aH 2 [X 1])),(p2,4,c2,(aH 4 [X 2])),(p3,16,c3,(aH 2 (iE X))),(p4,4,c4,(aH 2 [X 11,X 12]))] (by
     intro p hp
     simp only[List.mem_cons,List.not_mem_nil,or_false] at hp
     rcases hp with rfl | rfl | rfl | rfl | rfl
     ·exact b0
     ·exact b1
     ·exact b2
     ·exact b3
     ·exact b4)
    refine aB (w':=u.alloc (.cells ([(p0,2,c0,(aH 1 [X 0,0])),(p1,2,c1,(aH 2 [X 1])),(p2,4,c2,(aH 4 [X 2])),(p3,16,c3,(aH 2 (iE X))),(p4,4,c4,(aH 2 [X 11,X 12]))].map pv).toArray 71)) rfl rfl (.slice (some ⟨u.heap.size,0,none⟩) 5 5) ?_ ⟨_,_,_,rfl,hp,by simp[lK,dP]⟩ (Grw.alloc _ _ _ hn)
    simp[execOp,Act.eval,e0,e1,e2,e3,e4,go_sem]
    all_goals rfl
   ·have ho:=Option.some.inj hi;subst ho
    have h0:dX 5 (dP X) (a.tmps[61]?.getD undef) u:=aj hA 21 61 (by kernel_rfl) rfl
    refine bK rfl rfl 81 #[.int .i64 ((32:Nat):Int),a.tmps[61]?.getD undef] ?_ hn ((rG (32) 5 (dP X) _ u h0 (by omega) (by rw[fB];omega) (by omega) (pO X)).mono fun e w' ⟨v,e1,⟨_,gg,h1,h3,h4⟩,h2⟩=>⟨v,e1,⟨gg,h1,Nat.le_trans hn h3,h4.has (by rw[dH (by rw[fB];omega)])⟩,h2⟩)
    simp[execOp,Act.eval,go_sem]
   ·have ho:=Option.some.inj hi;subst ho
    have h0:lU w.heap.size 32 (aZ 32 (dP X)) (a.tmps[62]?.getD undef) u:=aj hA 22 62 (by kernel_rfl) rfl
    refine aB (w':=u) rfl rfl (a.tmps[62]?.getD undef) ?_ h0 (Grw.refl _ _)
    simp[execOp,Act.eval,go_sem]
   ·have ho:=Option.some.inj hi;subst ho
    refine aB (w':=u) rfl rfl (.int .i64 0) ?_ rfl (Grw.refl _ _)
    simp[execOp,Act.eval,go_sem]
  ·intro a u hF hR hG
   have q0:=iq hF 0 (by kernel_rfl)
   have q1:=iq hF 1 (by kernel_rfl)
   obtain⟨r0,r2,r1,r3⟩:lU w.heap.size 32 (aZ 32 (dP X)) (a.tmps[2]?.getD undef) u:=by have:=hR 23 _ 2 rfl rfl;rwa [Array.getD_eq_getD_getElem?] at this
   obtain p3:a.tmps[3]?.getD undef=(.int .i64 0):=by have:=hR 24 _ 3 rfl rfl;rwa [Array.getD_eq_getD_getElem?] at this
   have hB:=HK.out.drew.grw hG
   obtain⟨tm,df⟩:=a
   obtain⟨hs,hdf,_⟩:=hF
   have hs':tm.size=63:=hs
   have adN:df=[]:=hdf
   subst adN
   have he:tm=#[tm[0]?.getD undef,tm[1]?.getD undef,tm[2]?.getD undef,tm[3]?.getD undef,tm[4]?.getD undef,tm[5]?.getD undef,tm[6]?.getD undef,tm[7]?.getD undef,tm[8]?.getD undef,tm[9]?.getD undef,tm[10]?.getD undef,tm[11]?.getD undef,tm[12]?.getD undef,tm[13]?.getD undef,tm[14]?.getD undef,tm[15]?.getD undef,tm[16]?.getD undef,tm[17]?.getD undef,tm[18]?.getD undef,tm[19]?.getD undef,tm[20]?.getD undef,tm[21]?.getD undef,tm[22]?.getD undef,tm[23]?.getD undef,tm[24]?.getD undef,tm[25]?.getD undef,tm[26]?.getD undef,tm[27]?.getD undef,tm[28]?.getD undef,tm[29]?.getD undef,tm[30]?.getD undef,tm[31]?.getD undef,tm[32]?.getD undef,tm[33]?.getD undef,tm[34]?.getD undef,tm[35]?.getD undef,tm[36]?.getD undef,tm[37]?.getD undef,tm[38]?.getD undef,tm[39]?.getD undef,tm[40]?.getD undef,tm[41]?.getD undef,tm[42]?.getD undef,tm[43]?.getD undef,tm[44]?.getD undef,tm[45]?.getD undef,tm[46]?.getD undef,tm[47]?.getD undef,tm[48]?.getD undef,tm[49]?.getD undef,tm[50]?.getD undef,tm[51]?.getD undef,tm[52]?.getD undef,tm[53]?.getD undef,tm[54]?.getD undef,tm[55]?.getD undef,tm[56]?.getD undef,tm[57]?.getD undef,tm[58]?.getD undef,tm[59]?.getD undef,tm[60]?.getD undef,tm[61]?.getD undef,tm[62]?.getD undef]:=lT tm 63 hs'
   simp at q0
   simp at q1
   rw[he]
   simp only[q0,q1,r2,p3]
   clear he hR hG hs hs' hdf q0 q1 r2 p3
   go_wp2_with fail
   go_meet
   exact⟨r0,rfl,rfl,⟨r3,r1⟩,hB⟩
 case rest =>
  obtain⟨k0,rfl,rfl,hh,hB⟩:=hcut
  clear HK
  go_wp2_with fail
  go_ret2
  exact⟨k0,rfl,hh,hB.out.2.1⟩
theorem uY (a:Option Addr)(len cap:Nat)(zs:List Int)(w:World)(hr:Row w.heap.size w a len cap zs)(h:zs=List.replicate 32 0) :
  Calls Tryz.prog 86 #[.slice a len cap] w fun e w'=>e=.returned (.tuple #[Iv (bD zs),.int .i64 0])/\Below w.heap.size w w':=by
 refine uZ (bD zs) 0 a len cap w fun u hb=>?_
 have hru:=hr.below hb hb.size
 subst h
 have hk:mg (bD (List.replicate 32 0) 0)=true:=by decide
 have h4:iD 4 [bD (List.replicate 32 0) 2]=true:=by decide
 have h2:iD 2 [bD (List.replicate 32 0) 1,bD (List.replicate 32 0) 11,bD (List.replicate 32 0) 12]=true:=by decide
 have h8:iD 2 (iE (bD (List.replicate 32 0)))=true:=by decide
 refine qY (bD (List.replicate 32 0)) a len cap u (List.replicate 32 0) (List.replicate 32 0) hru.has hr.2.2.2.1 hr.2.2.2.1 (by simp) (fun u2 hb2=>kJ a len cap (List.replicate 32 0) u2 (hru.below hb2 hb2.size)) fun u2 hb2=>?_
 refine(ab9 (bD (List.replicate 32 0)) u2 hk (by decide) (by decide) h4 h2 h8).mono ?_
 rintro e w' ⟨k,rfl,hh,hb⟩
 have h1:=hh.out.1
 rw[show aZ 32 (dP (bD (List.replicate 32 0)))=List.replicate 32 0 by decide] at h1
 exact⟨_,_,_,rfl,h1,hb⟩
theorem acA {w P G E g o rows i V F V' K u}(h:Lp w P G E g o rows i V F V' K u){a tb bk at0:Nat}(j:Int)(ht:(tb,tbO a P)∈rows)(h0:1<w.heap.size)(e1:jJ P j=0)(e2:oL P j=(bk:Int))(e3:oM P j=(at0:Int))(hfit:at0+32<=G.blk)(hb:E bk=true)(hi:((V' bk).drop at0).take 32=List.replicate 32 0) :
  Calls Tryz.prog 54 #[.pointer (some ⟨tb,0,none⟩),.pointer (some ⟨o,0,none⟩),.int .i64 j] u fun e u'=>e=.returned (.tuple #[Iv dB,.int .i64 0])/\Hid (Lp w P G E g o rows i V F V' K u'):=by
 have hbk:=h.ok.ok.blk
 have hm:w.heap.size<=u.heap.size:=h.bel.size
 have hne:=h.ne
 have hvb:=h.vb hb
 have KP:Hid (∀ v,Calls Tryz.prog 48 #[Pv P,.int .i64 j] v fun e w'=>e=.returned (.tuple #[.int .i64 (bk:Int),.int .i64 (at0:Int),.int .i64 0])/\Below v.heap.size v w'):=fun v=>by
  have:=iI P j v
  rwa [e1,e2,e3] at this
 have H0:=hide (h.new (.cells Iz 65))
 have KR:Hid (∀ v,Lp w P G E g o ((u.heap.size,.cells Iz 65)::rows) i V F V' K v->Calls Tryz.prog 50 #[.pointer (some ⟨tb,0,none⟩),.pointer (some ⟨o,0,none⟩),.int .i64 (bk:Int)] v fun e u1=>∃ k c,e=.returned (.tuple #[.slice (some ⟨k,0,none⟩) G.blk c,.int .i64 0])/\Hid (∃ ob,Dr c G.blk (V' bk) ob/\v.heap.size<=k/\Lp w P G E g o ((k,ob)::(u.heap.size,.cells Iz 65)::rows) i V F V' K u1)):=fun v hv=>sW hv (List.mem_cons_of_mem _ ht) hb
 have KU:Hid (∀ v k c ob,Dr c G.blk (V' bk) ob->Lp w P G E g o ((k,ob)::(u.heap.size,.cells Iz 65)::rows) i V F V' K v->∃ a1 c1,(∀ w,(Instr.slice 71 (.slice (some ⟨k,0,none⟩) G.blk c) (some (.int .i64 (at0:Int))) (some (.int .i64 ((at0:Int)+32))) none).run Tryz.prog w=.ok (.slice a1 32 c1) w)/\Hid (Calls Tryz.prog 86 #[.slice a1 32 c1] v fun e w'=>e=.returned (.tuple #[Iv dB,.int .i64 0])/\Hid (Lp w P G E g o ((u.heap.size,.cells Iz 65)::rows) i V F V' K w'))):=fun v k c ob hd hl=>by
  have hrow:v.heap[k]?=some ob:=hl.row (x:=(k,ob)) (by simp)
  have hcap:G.blk<=c/\c<=maxLen:=by obtain⟨cur,_,_,_,h3,h4,_⟩:=hd;exact⟨h3,h4⟩
  have hmx:maxLen<=9223372036854775807:=by unfold maxLen;omega
  refine⟨_,_,fun w=>iH (some ⟨k,0,none⟩) G.blk c at0 32 (by omega) w,?_⟩
  have hr:=((hd.has hrow).cut (cap:=c) (l:=at0) (k:=32) (by omega) (by omega)).row (cap:=c - at0) (by omega) (by omega) (by omega) (xR hvb.2 _ _)
  have:=uY _ _ _ _ v hr hi
  rw[hi,show Iv (bD (List.replicate 32 0))=Iv dB by rfl] at this
  refine this.mono ?_
  rintro e w' ⟨rfl,b1⟩
  exact⟨rfl,(hl.later b1).pop⟩
 have HF:Hid (∀ v,Lp w P G E g o ((u.heap.size,.cells Iz 65)::rows) i V F V' K v->Lp w P G E g o rows i V F V' K (au v u.heap.size 0 (xL dB))):=fun v hv=>Lp.au hm h0 hne _ 0 _ _ hv
 have HT:Hid (∀ v,Lp w P G E g o ((u.heap.size,.cells Iz 65)::rows) i V F V' K v->v.heap[tb]?=some (tbO a P)/\Bl v u.heap.size Iz 65):=fun v hv=>⟨hv.row (List.mem_cons_of_mem _ ht),hv.row (x:=(u.heap.size,.cells Iz 65)) (by simp)⟩
 have A1:=hide (show (0:Int)<=(at0:Int)/\(at0:Int)<=4096 by omega)
 clear h ht h0 e1 e2 e3 hfit hb hi hbk hm hne hvb
 go_enter Tryz.func54,Tryz.ntmps54
 go_upto_region 1 with fail
 change Code.wp _ _ _ _ (u.alloc (.cells Iz 65))
 generalize u.alloc (.cells Iz 65)=w0 at *
 generalize u.heap.size=m at *
 obtain⟨f0,f1,f2,f3,f4,f5,f6,f7,f8,f9,f10,f11⟩:=fU (ah HT _ (ah H0)).1
 go_wp2_with fail
 go_at_call 48
 refine(ah KP _).mono ?_
 rintro e w1 ⟨rfl,hb1⟩
 have K2:=hide (ah KR w1 ((ah H0).later hb1))
 clear KP KR H0 hb1 f0 f1 f2 f3 f4 f5 f6 f7 f8 f9 f10 f11
 obtain⟨a1,a2⟩:=ah A1
 generalize (at0:Int)=ai at *
 go_wp2_with fail
 go_at_call 50
 refine(ah K2).mono ?_
 rintro e w2 ⟨k,c,rfl,Y⟩
 obtain⟨ob,hd,_,hl⟩:=ah Y
 obtain⟨p1,c1,hs,K3⟩:=ah KU w2 k c ob hd hl
 clear K2 KU Y hd hl
 go_wp2_with fail
 go_at_call 86
 refine(ah K3).mono ?_
 rintro e w3 ⟨rfl,L3⟩
 have L4:=hide ((ah L3).later ((Below.refl _ _).alloc (Nat.le_refl _) (.cells (Ic dB) 65)))
 have bx:=Bl.new w3 (Ic dB) 65
 clear K3 hs L3 A1 a1 a2
 go_upto_region 10 with fail
 change Code.wp _ _ _ _ (w3.alloc (.cells (Ic dB) 65))
 generalize w3.alloc (.cells (Ic dB) 65)=w4 at *
 generalize w3.heap.size=m3 at *
 have bz:=(ah HT _ (ah L4)).2
 have x0:=bx.cell 0 (.int .i64 (dB 0)) rfl
 have x1:=bx.cell 1 (.int .i64 (dB 1)) rfl
 have x2:=bx.cell 2 (.int .i64 (dB 2)) rfl
 have x3:=bx.cell 3 (.int .i64 (dB 3)) rfl
 have x4:=bx.cell 4 (.int .i64 (dB 4)) rfl
 have x5:=bx.cell 5 (.int .i64 (dB 5)) rfl
 have x6:=bx.cell 6 (.int .i64 (dB 6)) rfl
 have x7:=bx.cell 7 (.int .i64 (dB 7)) rfl
 have x8:=bx.cell 8 (.int .i64 (dB 8)) rfl
 have x9:=bx.cell 9 (.int .i64 (dB 9)) rfl
 have x10:=bx.cell 10 (.int .i64 (dB 10)) rfl
 have x11:=bx.cell 11 (.int .i64 (dB 11)) rfl
 have x12:=bx.cell 12 (.int .i64 (dB 12)) rfl
 have z0:=bz.cell 0 (.int .i64 0) rfl
 have z1:=bz.cell 1 (.int .i64 0) rfl
 have z2:=bz.cell 2 (.int .i64 0) rfl
 have z3:=bz.cell 3 (.int .i64 0) rfl
 have z4:=bz.cell 4 (.int .i64 0) rfl
 have z5:=bz.cell 5 (.int .i64 0) rfl
 have z6:=bz.cell 6 (.int .i64 0) rfl
 have z7:=bz.cell 7 (.int .i64 0) rfl
 have z8:=bz.cell 8 (.int .i64 0) rfl
 have z9:=bz.cell 9 (.int .i64 0) rfl
 have z10:=bz.cell 10 (.int .i64 0) rfl
 have z11:=bz.cell 11 (.int .i64 0) rfl
 have z12:=bz.cell 12 (.int .i64 0) rfl
 have fz:=bz.free
 have Z:=hide (ah HF _ (ah L4))
 have hA:Bl (au w4 m 0 (xL dB)) m (Ic dB) 65:=aI (xL dB) _ _ bz rfl
 clear HF HT L4 bx bz
 go_wp2_with fail
 change bodyPost _ _ _ _ _ (au w4 m 0 (xL dB))
 generalize au w4 m 0 (xL dB)=wf at *
 refine bodyPost_ret (v:=.tuple #[Iv dB,.int .i64 0]) ?_ rfl ⟨rfl,Z⟩
 simp[results,Tryz.results54,go_sem,hA.cell 0 _ rfl,hA.cell 1 _ rfl,hA.cell 2 _ rfl,hA.cell 3 _ rfl,hA.cell 4 _ rfl,hA.cell 5 _ rfl,hA.cell 6 _ rfl,hA.cell 7 _ rfl,hA.cell 8 _ rfl,hA.cell 9 _ rfl,hA.cell 10 _ rfl,hA.cell 11 _ rfl,hA.cell 12 _ rfl]
theorem sZ {w P G E g o rows i V F V' K u}(h:Lp w P G E g o rows i V F V' K u){a tb bk at0:Nat}(X:Nat->Int)(j:Int)(ht:(tb,tbO a P)∈rows)(h0:1<w.heap.size)(e1:jJ P j=0)(e2:oL P j=(bk:Int))(e3:oM P j=(at0:Int))(hfit:at0+32<=G.blk)(hb:E bk=true)(hi:bM X) :
  Calls Tryz.prog 23 #[.pointer (some ⟨tb,0,none⟩),.pointer (some ⟨o,0,none⟩),.int .i64 j,Iv X] u fun e u'=>e=.returned (.int .i64 0)/\Hid (Lp w P G E g o rows i V F (fun q=>if q=bk then put (V' bk) at0 (aZ 32 (dP X)) else V' q) K u'):=by
 have hbk:=h.ok.ok.blk
 have hvb:=h.vb hb
 have hwu:w.heap.size<=u.heap.size:=h.bel.size
 have hf:=hi.2.2
 unfold afM at hf
 simp only[Bool.and_eq_true] at hf
 obtain⟨⟨h4,h2⟩,h8⟩:=hf
 have KP:Hid (∀ v,Calls Tryz.prog 48 #[Pv P,.int .i64 j] v fun e w'=>e=.returned (.tuple #[.int .i64 (bk:Int),.int .i64 (at0:Int),.int .i64 0])/\Below v.heap.size v w'):=fun v=>by
  have:=iI P j v
  rwa [e1,e2,e3] at this
 have H0:=hide (h.new (.cells (Ic X) 65))
 have KI:Hid (∀ v,Lp w P G E g o ((u.heap.size,.cells (Ic X) 65)::rows) i V F V' K v->Calls Tryz.prog 49 #[Iv X] v fun e w'=>∃ k,e=.returned (.tuple #[.slice (some ⟨k,0,none⟩) 32 32,.int .i64 0])/\Hid (∃ ob1,v.heap.size<=k/\Has w' (some ⟨k,0,none⟩) 32 (aZ 32 (dP X))/\Lp w P G E g o ((k,ob1)::(u.heap.size,.cells (Ic X) 65)::rows) i V F V' K w')):=fun v hv=>by
  refine(wM X v hi.1 hi.2.1 h4 h2 h8).mono ?_
  rintro e w' ⟨k,rfl,hh,b1⟩
  obtain⟨hh1,hh2⟩:=ah hh
  obtain⟨bb,off,ee,hc⟩:=hh1.2 (by omega)
  have hkb:k=bb:=congrArg Addr.block (Option.some.inj ee)
  have hlt:k<w'.heap.size:=by rw[hkb];exact aO (hc 0 (by omega))
  exact⟨k,rfl,w'.heap[k],hh2,hh1,hv.push b1 hh2 (Array.getElem?_eq_getElem hlt)⟩
 have KR:Hid (∀ v k ob1,Lp w P G E g o ((k,ob1)::(u.heap.size,.cells (Ic X) 65)::rows) i V F V' K v->Has v (some ⟨k,0,none⟩) 32 (aZ 32 (dP X))->u.heap.size<k->Calls Tryz.prog 50 #[.pointer (some ⟨tb,0,none⟩),.pointer (some ⟨o,0,none⟩),.int .i64 (bk:Int)] v fun e u1=>∃ k2 c,e=.returned (.tuple #[.slice (some ⟨k2,0,none⟩) G.blk c,.int .i64 0])/\Hid (∃ w2 p1,(∀ w,(Instr.slice 71 (.slice (some ⟨k2,0,none⟩) G.blk c) (some (.int .i64 (at0:Int))) none none).run Tryz.prog w=.ok (.slice p1 (G.blk - at0) (c - at0)) w)/\(∀ ty,(Builtin.copy_ #[71,71] ty #[.slice p1 (G.blk - at0) (c - at0),.slice (some ⟨k,0,none⟩) 32 32]).run Tryz.prog u1=.ok (goInt 32) w2)/\Calls Tryz.prog 51 #[.pointer (some ⟨o,0,none⟩),.int .i64 (bk:Int),.slice (some ⟨k2,0,none⟩) G.blk c] w2 fun e u2=>e=.returned (.int .i64 0)/\Hid (Lp w P G E g o rows i V F (fun q=>if q=bk then put (V' bk) at0 (aZ 32 (dP X)) else V' q) K u2))):=fun v k ob1 hv hh huk=>by
  refine(sW hv (List.mem_cons_of_mem _ (List.mem_cons_of_mem _ ht)) hb).mono ?_
  rintro e u1 ⟨k2,c,rfl,Y⟩
  obtain⟨ob,hd,hk2,hl⟩:=ah Y
  refine⟨k2,c,rfl,?_⟩
  have hvk:v.heap[k]?=some ob1:=hv.row (x:=(k,ob1)) (by simp)
  have amf:u1.heap[k]?=some ob1:=hl.row (x:=(k,ob1)) (by simp)
  have hk:k<v.heap.size:=hv.lt (x:=(k,ob1)) (by simp)
  have hrow:u1.heap[k2]?=some ob:=hl.row (x:=(k2,ob)) (by simp)
  have hcap:G.blk<=c/\c<=maxLen:=by obtain⟨cur,_,_,_,h3,h4,_⟩:=hd;exact⟨h3,h4⟩
  have hbs:∀ z∈aZ 32 (dP X),0<=z/\z<=255:=akw X
  have hll:(aZ 32 (dP X)).length=32:=dH (by rw[fB];omega)
  obtain⟨w2,ob2,r1,r2,r3,r4,r5⟩:=ais (at0:=at0) hd hrow (hh.same (amf.trans hvk.symm)) (by omega) 32 (by omega)
  have hwv:w.heap.size<=v.heap.size:=hv.bel.size
  have L2:=hl.swap (by omega) h0 (fun x hx=>by
   have:=hv.lt hx
   omega) r4 (r5 _ (by omega)) r3
  refine⟨w2,_,fun w=>jq (some ⟨k2,0,none⟩) G.blk c at0 (by omega) w,r1,?_⟩
  refine(adS L2 hb (some ⟨k2,0,none⟩) c (put (V' bk) at0 (aZ 32 (dP X))) (r2.row r3 (by omega) (afw _ _ _ hvb.2 hbs))).mono ?_
  rintro e u2 ⟨rfl,Z⟩
  exact⟨rfl,(ah Z).pop.pop.pop⟩
 have HT:Hid (∀ v,Lp w P G E g o ((u.heap.size,.cells (Ic X) 65)::rows) i V F V' K v->v.heap[tb]?=some (tbO a P)/\Bl v u.heap.size (Ic X) 65/\u.heap.size<v.heap.size):=fun v hv=>⟨hv.row (List.mem_cons_of_mem _ ht),hv.row (x:=(u.heap.size,.cells (Ic X) 65)) (by simp),hv.lt (x:=(u.heap.size,.cells (Ic X) 65)) (by simp)⟩
 have A1:=hide (show (0:Int)<=(at0:Int)/\(at0:Int)<=4096 by omega)
 clear h ht h0 e1 e2 e3 hfit hb hi hbk hvb hwu h4 h2 h8
 go_enter Tryz.func23,Tryz.ntmps23
 go_upto_region 1 with fail
 change Code.wp _ _ _ _ (u.alloc (.cells (Ic X) 65))
 generalize u.alloc (.cells (Ic X) 65)=w0 at *
 generalize u.heap.size=m at *
 obtain⟨f0,f1,f2,f3,f4,f5,f6,f7,f8,f9,f10,f11⟩:=fU (ah HT _ (ah H0)).1
 go_wp2_with fail
 go_at_call 48
 refine(ah KP _).mono ?_
 rintro e w1 ⟨rfl,hb1⟩
 have L1:=hide ((ah H0).later hb1)
 have K2:=hide (ah KI w1 (ah L1))
 have bx:=(ah HT _ (ah L1)).2.1
 have HM:=hide (ah HT _ (ah L1)).2.2
 have x0:=bx.cell 0 (.int .i64 (X 0)) rfl
 have x1:=bx.cell 1 (.int .i64 (X 1)) rfl
 have x2:=bx.cell 2 (.int .i64 (X 2)) rfl
 have x3:=bx.cell 3 (.int .i64 (X 3)) rfl
 have x4:=bx.cell 4 (.int .i64 (X 4)) rfl
 have x5:=bx.cell 5 (.int .i64 (X 5)) rfl
 have x6:=bx.cell 6 (.int .i64 (X 6)) rfl
 have x7:=bx.cell 7 (.int .i64 (X 7)) rfl
 have x8:=bx.cell 8 (.int .i64 (X 8)) rfl
 have x9:=bx.cell 9 (.int .i64 (X 9)) rfl
 have x10:=bx.cell 10 (.int .i64 (X 10)) rfl
 have x11:=bx.cell 11 (.int .i64 (X 11)) rfl
 have x12:=bx.cell 12 (.int .i64 (X 12)) rfl
 clear KP KI H0 hb1 bx HT L1 f0 f1 f2 f3 f4 f5 f6 f7 f8 f9 f10 f11
 go_wp2_with fail
 go_at_call 49
 refine(ah K2).mono ?_
 rintro e w2 ⟨k,rfl,Y⟩
 obtain⟨ob1,hk1,hh1,hl1⟩:=ah Y
 have K3:=hide (ah KR w2 k ob1 hl1 hh1 (Nat.lt_of_lt_of_le (ah HM) hk1))
 clear K2 KR Y hk1 hh1 hl1 HM x0 x1 x2 x3 x4 x5 x6 x7 x8 x9 x10 x11 x12
 go_wp2_with fail
 go_at_call 50
 refine(ah K3).mono ?_
 rintro e w3 ⟨k2,c,rfl,Y⟩
 obtain⟨w4,p1,hs,hc,K4⟩:=ah Y
 have KW:=hide K4
 obtain⟨a1,a2⟩:=ah A1
 clear K3 Y K4 A1
 generalize (at0:Int)=ai at *
 generalize G.blk - at0=bl at *
 generalize c - at0=cl at *
 go_wp2_with fail
 go_at_call 51
 refine(ah KW).mono ?_
 rintro e w5 ⟨rfl,Z⟩
 clear KW hs hc
 go_wp2_with fail
 go_ret
 exact⟨rfl,Z⟩
theorem size_alloc (u:World)(x:Obj):(u.alloc x).heap.size=u.heap.size+1:=by simp
theorem Lp.new2 {w P G E g o rows i V F V' K u}(h:Lp w P G E g o rows i V F V' K u)(x y:Obj):Lp w P G E g o ((u.heap.size+1,y)::(u.heap.size,x)::rows) i V F V' K ((u.alloc x).alloc y):=by
 have:=(h.new x).new y
 rwa [size_alloc] at this
theorem Lp.aks {w P G E g o rows i V F V' K u}(h:Lp w P G E g o rows i V F V' K u)(x y z:Obj):Lp w P G E g o ((u.heap.size+2,z)::(u.heap.size+1,y)::(u.heap.size,x)::rows) i V F V' K (((u.alloc x).alloc y).alloc z):=by
 have:=(h.new2 x y).new z
 rwa [size_alloc,size_alloc] at this
theorem aW {u:World}{k:Nat}{v:Value}{t:TypeId}(h:u.heap[k]?=some (.cells #[v] t)):u.cell? ⟨k,0,none⟩=some v:=by simp[World.cell?,h]
theorem aeV {w P G E g o}{rows:List (Nat×Obj)}{i V F V' K u}{a tb bk at0 xg kx fc m0 m1 m2:Nat}{X:Nat->Int}(h:Lp w P G E g o ((xg,.cells (Ic X) 65)::rows) i V F V' K u)(j n:Int)(ht:(tb,tbO a P)∈rows)(rf:(fc,.cells #[.pointer (some ⟨xg,kx,none⟩)] 217)∈rows)(r0:(m0,zC tb 27)∈rows)(r1:(m1,zC o 28)∈rows)(r2:(m2,zI j)∈rows)(h0:1<w.heap.size)(hx:w.heap.size<=xg)(hne:∀ y∈rows,y.1≠xg)(e1:jJ P j=0)(e2:oL P j=(bk:Int))(e3:oM P j=(at0:Int))(hfit:at0+32<=G.blk)(hb:E bk=true)(hk:kx<13)(hi:bM (nI X kx n)) :
  Calls Tryz.prog 146 #[.int .i64 n,.pointer (some ⟨fc,0,none⟩),.pointer (some ⟨m0,0,none⟩),.pointer (some ⟨m1,0,none⟩),.pointer (some ⟨m2,0,none⟩),.pointer (some ⟨xg,0,none⟩)] u fun e u'=>e=.returned (.int .i64 0)/\Hid (Lp w P G E g o ((xg,.cells (Ic (nI X kx n)) 65)::rows) i V F (fun q=>if q=bk then put (V' bk) at0 (aZ 32 (dP (nI X kx n))) else V' q) K u'):=by
 have hB:Bl u xg (Ic X) 65:=h.row (x:=(xg,.cells (Ic X) 65)) (by simp)
 have hB2:Bl (u.setCell ⟨xg,kx,none⟩ (.int .i64 n)) xg (Ic (nI X kx n)) 65:=by
  have:=hB.set kx (.int .i64 n)
  rwa [agJ X kx n hk] at this
 have H1:=hide (h.swap hx h0 hne (fun q hq=>Below.heap_setCell _ _ _ _ hq) ((Below.refl _ _).setCell (p:=⟨xg,kx,none⟩) hx _) hB2)
 have cx:∃ v,u.cell? ⟨xg,kx,none⟩=some (.int .i64 v):=by
  have:kx=0\/kx=1\/kx=2\/kx=3\/kx=4\/kx=5\/kx=6\/kx=7\/kx=8\/kx=9\/kx=10\/kx=11\/kx=12:=by omega
  rcases this with rfl | rfl | rfl | rfl | rfl | rfl | rfl | rfl | rfl | rfl | rfl | rfl | rfl<;>exact⟨_,hB.cell _ _ rfl⟩
 obtain⟨vx,cx⟩:=cx
 have fx:=hB.free kx
 have c0:u.cell? ⟨fc,0,none⟩=some (.pointer (some ⟨xg,kx,none⟩)):=aW (h.row (List.mem_cons_of_mem _ rf))
 have KP:=hide (sZ (ah H1) (nI X kx n) j (List.mem_cons_of_mem _ ht) h0 e1 e2 e3 hfit hb hi)
 have d0:=aW ((ah H1).row (List.mem_cons_of_mem _ r0))
 have d1:=aW ((ah H1).row (List.mem_cons_of_mem _ r1))
 have d2:=aW ((ah H1).row (List.mem_cons_of_mem _ r2))
 have HB2:=hide hB2
 clear h hB hB2 ht rf r0 r1 r2 h0 hx hne e1 e2 e3 hfit hb hk hi H1
 generalize (fun q=>if q=bk then put (V' bk) at0 (aZ 32 (dP (nI X kx n))) else V' q)=V2 at *
 generalize nI X kx n=X2 at *
 go_enter Tryz.func146,Tryz.ntmps146
 go_upto_region 2 with fail
 generalize u.setCell ⟨xg,kx,none⟩ (.int .i64 n)=w1 at *
 have x0:=(ah HB2).cell 0 (.int .i64 (X2 0)) rfl
 have x1:=(ah HB2).cell 1 (.int .i64 (X2 1)) rfl
 have x2:=(ah HB2).cell 2 (.int .i64 (X2 2)) rfl
 have x3:=(ah HB2).cell 3 (.int .i64 (X2 3)) rfl
 have x4:=(ah HB2).cell 4 (.int .i64 (X2 4)) rfl
 have x5:=(ah HB2).cell 5 (.int .i64 (X2 5)) rfl
 have x6:=(ah HB2).cell 6 (.int .i64 (X2 6)) rfl
 have x7:=(ah HB2).cell 7 (.int .i64 (X2 7)) rfl
 have x8:=(ah HB2).cell 8 (.int .i64 (X2 8)) rfl
 have x9:=(ah HB2).cell 9 (.int .i64 (X2 9)) rfl
 have x10:=(ah HB2).cell 10 (.int .i64 (X2 10)) rfl
 have x11:=(ah HB2).cell 11 (.int .i64 (X2 11)) rfl
 have x12:=(ah HB2).cell 12 (.int .i64 (X2 12)) rfl
 clear HB2 cx fx c0
 go_wp2_with fail
 go_at_call 23
 refine(ah KP).mono ?_
 rintro e w2 ⟨rfl,Z⟩
 clear KP d0 d1 d2 x0 x1 x2 x3 x4 x5 x6 x7 x8 x9 x10 x11 x12
 go_wp2_with fail
 go_ret
 exact⟨rfl,Z⟩
def pof (s:Nat):Nat:=if s=8 then 11 else if s=9 then 12 else 3+s
theorem kQ (xg s:Nat)(u:World)(hs:s<=9) :
  Calls Tryz.prog 145 #[.pointer (some ⟨xg,0,none⟩),.int .i64 (s:Int)] u fun e u'=>e=.returned (.pointer (some ⟨xg,pof s,none⟩))/\u=u':=by
 have:s=0\/s=1\/s=2\/s=3\/s=4\/s=5\/s=6\/s=7\/s=8\/s=9:=by omega
 rcases this with rfl | rfl | rfl | rfl | rfl | rfl | rfl | rfl | rfl | rfl
 all_goals
  go_enter Tryz.func145,Tryz.ntmps145
  go_wp2_with fail
  go_ret
  exact⟨rfl,rfl⟩
theorem aaV {w P G E g o rows i V F V' K u}(h:Lp w P G E g o rows i V F V' K u){a:Nat}{bb da ni:Nat}(hA:Ab P G E bb da ni)(ha:(a,alO g P)∈rows)(h0:1<w.heap.size){nb:Nat}(hn:ku (V' bb) K da G.n=nb)(hlt:nb<G.n) :
  Calls Tryz.prog 208 #[.pointer (some ⟨a,0,none⟩),.pointer (some ⟨o,0,none⟩)] u fun e u'=>e=.returned (.tuple #[.int .i64 (nb:Int),.int .i64 0])/\Hid (Lp w P G E g o rows i V F (fun j=>if j=bb then setB (V' bb) nb true else V' j) K u'):=by
 have:=agv h hA ha h0
 unfold tkN tkE tkZ at this
 rw[hn,if_neg (by omega),if_neg (by omega),if_neg (by omega)] at this
 exact this
theorem pX {w P G E g o}{rows:List (Nat×Obj)}{i V F V' K u}{a tb bk at0 xg kx fc m0 m1 m2:Nat}{X:Nat->Int}{j:Int}(h:Lp w P G E g o ((xg,.cells (Ic X) 65)::rows) i V F V' K u){bb da ni:Nat}(hA:Ab P G E bb da ni)(ht:(tb,tbO a P)∈rows)(ha:(a,alO g P)∈rows)(h0:1<w.heap.size)(rf:(fc,.cells #[.pointer (some ⟨xg,kx,none⟩)] 217)∈rows)(r0:(m0,zC tb 27)∈rows)(r1:(m1,zC o 28)∈rows)(r2:(m2,zI j)∈rows)(hx:w.heap.size<=xg)(hne:∀ y∈rows,y.1≠xg)(e1:jJ P j=0)(e2:oL P j=(bk:Int))(e3:oM P j=(at0:Int))(hfit:at0+32<=G.blk)(hb:E bk=true)(hk:kx<13){nb:Nat}(hn:ku (V' bb) K da G.n=nb)(hlt:nb<G.n)(hi:bM (nI X kx (nb:Int))) :
  Calls Tryz.prog 180 #[.pointer (some ⟨tb,0,none⟩),.pointer (some ⟨o,0,none⟩),.agg #[.int .i64 0,.bool true,.func (.func 146) #[] #[.pointer (some ⟨fc,0,none⟩),.pointer (some ⟨m0,0,none⟩),.pointer (some ⟨m1,0,none⟩),.pointer (some ⟨m2,0,none⟩),.pointer (some ⟨xg,0,none⟩)]]] u fun e u'=>e=.returned (.tuple #[.int .i64 (nb:Int),.int .i64 0])/\Hid (Lp w P G E g o ((xg,.cells (Ic (nI X kx (nb:Int))) 65)::rows) i V F (fun q=>if q=bk then put ((fun j=>if j=bb then setB (V' bb) nb true else V' j) bk) at0 (aZ 32 (dP (nI X kx (nb:Int)))) else (fun j=>if j=bb then setB (V' bb) nb true else V' j) q) K u'):=by
 have hbk:=h.ok.ok.blk
 have hnm:G.n<=4096:=h.ok.ok.n2
 have hp0:=h.ok.p0
 have L0:=hide (h.new (.cells #[.int .i64 0,.bool true,.func (.func 146) #[] #[.pointer (some ⟨fc,0,none⟩),.pointer (some ⟨m0,0,none⟩),.pointer (some ⟨m1,0,none⟩),.pointer (some ⟨m2,0,none⟩),.pointer (some ⟨xg,0,none⟩)]] 172))
 have KB:=hide (aaV (ah L0) hA (List.mem_cons_of_mem _ (List.mem_cons_of_mem _ ha)) h0 hn hlt)
 have KN:Hid (∀ v,Lp w P G E g o ((u.heap.size,(.cells #[.int .i64 0,.bool true,.func (.func 146) #[] #[.pointer (some ⟨fc,0,none⟩),.pointer (some ⟨m0,0,none⟩),.pointer (some ⟨m1,0,none⟩),.pointer (some ⟨m2,0,none⟩),.pointer (some ⟨xg,0,none⟩)]] 172))::((xg,.cells (Ic X) 65)::rows)) i V F (fun j=>if j=bb then setB (V' bb) nb true else V' j) K v->Calls Tryz.prog 146 #[.int .i64 (nb:Int),.pointer (some ⟨fc,0,none⟩),.pointer (some ⟨m0,0,none⟩),.pointer (some ⟨m1,0,none⟩),.pointer (some ⟨m2,0,none⟩),.pointer (some ⟨xg,0,none⟩)] v fun e u2=>e=.returned (.int .i64 0)/\Hid (Lp w P G E g o ((u.heap.size,(.cells #[.int .i64 0,.bool true,.func (.func 146) #[] #[.pointer (some ⟨fc,0,none⟩),.pointer (some ⟨m0,0,none⟩),.pointer (some ⟨m1,0,none⟩),.pointer (some ⟨m2,0,none⟩),.pointer (some ⟨xg,0,none⟩)]] 172))::((xg,.cells (Ic (nI X kx (nb:Int))) 65)::rows)) i V F (fun q=>if q=bk then put ((fun j=>if j=bb then setB (V' bb) nb true else V' j) bk) at0 (aZ 32 (dP (nI X kx (nb:Int)))) else (fun j=>if j=bb then setB (V' bb) nb true else V' j) q) K u2)):=fun v hv=>by
  have h1:=aeV (X:=X) (rows:=(u.heap.size,(.cells #[.int .i64 0,.bool true,.func (.func 146) #[] #[.pointer (some ⟨fc,0,none⟩),.pointer (some ⟨m0,0,none⟩),.pointer (some ⟨m1,0,none⟩),.pointer (some ⟨m2,0,none⟩),.pointer (some ⟨xg,0,none⟩)]] 172))::rows) (hv.sub iU) j (nb:Int) (List.mem_cons_of_mem _ ht) (List.mem_cons_of_mem _ rf) (List.mem_cons_of_mem _ r0) (List.mem_cons_of_mem _ r1) (List.mem_cons_of_mem _ r2) h0 hx (fun y hy=>by
   rcases List.mem_cons.1 hy with e | e
   ·subst e
    have:=h.lt (x:=(xg,.cells (Ic X) 65)) (by simp)
    simp only at this ⊢
    omega
   ·exact hne y e) e1 e2 e3 hfit hb hk hi
  refine h1.mono ?_
  rintro e u2 ⟨rfl,Z⟩
  exact⟨rfl,(ah Z).sub iU⟩
 have HT:Hid (∀ v,Lp w P G E g o ((u.heap.size,(.cells #[.int .i64 0,.bool true,.func (.func 146) #[] #[.pointer (some ⟨fc,0,none⟩),.pointer (some ⟨m0,0,none⟩),.pointer (some ⟨m1,0,none⟩),.pointer (some ⟨m2,0,none⟩),.pointer (some ⟨xg,0,none⟩)]] 172))::((xg,.cells (Ic X) 65)::rows)) i V F (fun j=>if j=bb then setB (V' bb) nb true else V' j) K v->Bl v u.heap.size #[.int .i64 0,.bool true,.func (.func 146) #[] #[.pointer (some ⟨fc,0,none⟩),.pointer (some ⟨m0,0,none⟩),.pointer (some ⟨m1,0,none⟩),.pointer (some ⟨m2,0,none⟩),.pointer (some ⟨xg,0,none⟩)]] 172):=fun v hv=>hv.row (x:=(u.heap.size,(.cells #[.int .i64 0,.bool true,.func (.func 146) #[] #[.pointer (some ⟨fc,0,none⟩),.pointer (some ⟨m0,0,none⟩),.pointer (some ⟨m1,0,none⟩),.pointer (some ⟨m2,0,none⟩),.pointer (some ⟨xg,0,none⟩)]] 172))) (by simp)
 have c0:(u.alloc (.cells #[.int .i64 0,.bool true,.func (.func 146) #[] #[.pointer (some ⟨fc,0,none⟩),.pointer (some ⟨m0,0,none⟩),.pointer (some ⟨m1,0,none⟩),.pointer (some ⟨m2,0,none⟩),.pointer (some ⟨xg,0,none⟩)]] 172)).cell? ⟨tb,0,none⟩=some (.pointer (some ⟨a,0,none⟩)):=by
  have hb:Bl _ tb (tbA a P) 114:=(ah L0).row (List.mem_cons_of_mem _ (List.mem_cons_of_mem _ ht))
  exact hb.cell 0 _ rfl
 have HT2:Hid (∀ v,Lp w P G E g o ((u.heap.size,(.cells #[.int .i64 0,.bool true,.func (.func 146) #[] #[.pointer (some ⟨fc,0,none⟩),.pointer (some ⟨m0,0,none⟩),.pointer (some ⟨m1,0,none⟩),.pointer (some ⟨m2,0,none⟩),.pointer (some ⟨xg,0,none⟩)]] 172))::((xg,.cells (Ic (nI X kx (nb:Int))) 65)::rows)) i V F (fun q=>if q=bk then put ((fun j=>if j=bb then setB (V' bb) nb true else V' j) bk) at0 (aZ 32 (dP (nI X kx (nb:Int)))) else (fun j=>if j=bb then setB (V' bb) nb true else V' j) q) K v->Bl v u.heap.size #[.int .i64 0,.bool true,.func (.func 146) #[] #[.pointer (some ⟨fc,0,none⟩),.pointer (some ⟨m0,0,none⟩),.pointer (some ⟨m1,0,none⟩),.pointer (some ⟨m2,0,none⟩),.pointer (some ⟨xg,0,none⟩)]] 172/\v.cell? ⟨tb,1,none⟩=some (.int .i64 (G.blk:Int))):=fun v hv=>⟨hv.row (x:=(u.heap.size,(.cells #[.int .i64 0,.bool true,.func (.func 146) #[] #[.pointer (some ⟨fc,0,none⟩),.pointer (some ⟨m0,0,none⟩),.pointer (some ⟨m1,0,none⟩),.pointer (some ⟨m2,0,none⟩),.pointer (some ⟨xg,0,none⟩)]] 172))) (by simp),by
  have:=(fU (hv.row (List.mem_cons_of_mem _ (List.mem_cons_of_mem _ ht)))).1
  rwa [hp0] at this⟩
 clear h hA ht ha h0 hn hlt hbk hnm hp0 L0 hx hne e1 e2 e3 hfit hb hk rf r0 r1 r2 hi
 generalize (fun q=>if q=bk then put ((fun j=>if j=bb then setB (V' bb) nb true else V' j) bk) at0 (aZ 32 (dP (nI X kx (nb:Int)))) else (fun j=>if j=bb then setB (V' bb) nb true else V' j) q)=VX at *
 generalize (fun j=>if j=bb then setB (V' bb) nb true else V' j)=VW at *
 generalize nI X kx (nb:Int)=X2 at *
 generalize (nb:Int)=ni at *
 go_enter Tryz.func180,Tryz.ntmps180
 go_upto_region 1 with fail
 change Code.wp _ _ _ _ (u.alloc (.cells #[.int .i64 0,.bool true,.func (.func 146) #[] #[.pointer (some ⟨fc,0,none⟩),.pointer (some ⟨m0,0,none⟩),.pointer (some ⟨m1,0,none⟩),.pointer (some ⟨m2,0,none⟩),.pointer (some ⟨xg,0,none⟩)]] 172))
 generalize u.alloc (.cells #[.int .i64 0,.bool true,.func (.func 146) #[] #[.pointer (some ⟨fc,0,none⟩),.pointer (some ⟨m0,0,none⟩),.pointer (some ⟨m1,0,none⟩),.pointer (some ⟨m2,0,none⟩),.pointer (some ⟨xg,0,none⟩)]] 172)=w0 at *
 generalize u.heap.size=m at *
 go_wp2_with fail
 go_at_call 208
 refine(ah KB).mono ?_
 rintro e w1 ⟨rfl,Z⟩
 have K2:=hide (ah KN w1 (ah Z))
 have bl:=ah HT w1 (ah Z)
 have y0:=bl.cell 0 _ rfl
 have y1:=bl.cell 1 _ rfl
 have y2:=bl.cell 2 _ rfl
 clear KB KN HT Z bl c0
 go_wp2_with fail
 go_at_call 146
 refine(ah K2).mono ?_
 rintro e w2 ⟨rfl,Z⟩
 have bl:=(ah HT2 w2 (ah Z)).1
 have z1:=bl.cell 1 _ rfl
 have z2:=(ah HT2 w2 (ah Z)).2
 clear K2 HT2 bl y0 y1 y2
 go_wp2_with fail
 go_ret2
 exact⟨rfl,hide (ah Z).pop⟩
theorem ah1 {α:Type}{a b c:α}{l:List α}:∀ x∈c::a::b::l,x∈a::b::c::l:=fun x hx=>by
 simp only[List.mem_cons] at hx ⊢
 rcases hx with h | h | h | h<;>simp[h]
theorem ah2 {α:Type}{a b c:α}{l:List α}:∀ x∈b::a::l,x∈a::b::c::l:=fun x hx=>by
 simp only[List.mem_cons] at hx ⊢
 rcases hx with h | h | h<;>simp[h]
theorem uw {w P G E g o}{rows:List (Nat×Obj)}{i V F V' K u}{a tb bk at0 xg kx fc m0 m1 m2 fg tg og:Nat}{X:Nat->Int}{j:Int}{q:Bool}(h:Lp w P G E g o ((fg,zB q)::(xg,.cells (Ic X) 65)::rows) i V F V' K u){bb da ni:Nat}(hA:Ab P G E bb da ni)(ht:(tb,tbO a P)∈rows)(ha:(a,alO g P)∈rows)(rt:(tg,zC tb 27)∈rows)(ro:(og,zC o 28)∈rows)(hwf:w.heap.size<=fg)(h0:1<w.heap.size)(hfg:∀ y∈((xg,.cells (Ic X) 65)::rows),y.1≠fg)(rf:(fc,.cells #[.pointer (some ⟨xg,kx,none⟩)] 217)∈rows)(r0:(m0,zC tb 27)∈rows)(r1:(m1,zC o 28)∈rows)(r2:(m2,zI j)∈rows)(hx:w.heap.size<=xg)(hne:∀ y∈rows,y.1≠xg)(e1:jJ P j=0)(e2:oL P j=(bk:Int))(e3:oM P j=(at0:Int))(hfit:at0+32<=G.blk)(hb:E bk=true)(hk:kx<13)(hfx:fg≠xg){nb:Nat}(hn:ku (V' bb) K da G.n=nb)(hlt2:nb<G.n)(hi:bM (nI X kx (nb:Int))) :
  Calls Tryz.prog 179 #[.agg #[.int .i64 0,.bool true,.func (.func 146) #[] #[.pointer (some ⟨fc,0,none⟩),.pointer (some ⟨m0,0,none⟩),.pointer (some ⟨m1,0,none⟩),.pointer (some ⟨m2,0,none⟩),.pointer (some ⟨xg,0,none⟩)]],.pointer (some ⟨fg,0,none⟩),.pointer (some ⟨tg,0,none⟩),.pointer (some ⟨og,0,none⟩)] u fun e u'=>e=.returned (.tuple #[.int .i64 (nb:Int),.int .i64 0])/\Hid (Lp w P G E g o ((fg,zB true)::(xg,.cells (Ic (nI X kx (nb:Int))) 65)::rows) i V F (fun q=>if q=bk then put ((fun j=>if j=bb then setB (V' bb) nb true else V' j) bk) at0 (aZ 32 (dP (nI X kx (nb:Int)))) else (fun j=>if j=bb then setB (V' bb) nb true else V' j) q) K u'):=by
 have hlt:=h.lt (x:=(fg,zB q)) (by simp)
 have L0:=(h.new (.cells #[.int .i64 0,.bool true,.func (.func 146) #[] #[.pointer (some ⟨fc,0,none⟩),.pointer (some ⟨m0,0,none⟩),.pointer (some ⟨m1,0,none⟩),.pointer (some ⟨m2,0,none⟩),.pointer (some ⟨xg,0,none⟩)]] 172)).sub iU
 have hB:Bl (u.alloc (.cells #[.int .i64 0,.bool true,.func (.func 146) #[] #[.pointer (some ⟨fc,0,none⟩),.pointer (some ⟨m0,0,none⟩),.pointer (some ⟨m1,0,none⟩),.pointer (some ⟨m2,0,none⟩),.pointer (some ⟨xg,0,none⟩)]] 172)) fg #[.bool q] 4:=L0.row (x:=(fg,zB q)) (by simp)
 have B2:=Bl.new u #[.int .i64 0,.bool true,.func (.func 146) #[] #[.pointer (some ⟨fc,0,none⟩),.pointer (some ⟨m0,0,none⟩),.pointer (some ⟨m1,0,none⟩),.pointer (some ⟨m2,0,none⟩),.pointer (some ⟨xg,0,none⟩)]] 172
 have L1:=hide (L0.swap hwf h0 (fun y hy=>by
  rcases List.mem_cons.1 hy with e | e
  ·subst e;simp only at hlt ⊢;omega
  ·exact hfg y e) (fun q hq=>Below.heap_setCell _ _ _ _ hq) ((Below.refl _ _).setCell (p:=⟨fg,0,none⟩) hwf _) (hB.set 0 (.bool true)))
 have g0:(u.alloc (.cells #[.int .i64 0,.bool true,.func (.func 146) #[] #[.pointer (some ⟨fc,0,none⟩),.pointer (some ⟨m0,0,none⟩),.pointer (some ⟨m1,0,none⟩),.pointer (some ⟨m2,0,none⟩),.pointer (some ⟨xg,0,none⟩)]] 172)).cell? ⟨fg,0,none⟩=some (.bool q):=hB.cell 0 _ rfl
 have g1:=hB.free 0
 have b0:=B2.cell 0 _ rfl
 have b1:=B2.cell 1 _ rfl
 have b2:=B2.cell 2 _ rfl
 have t0:=aW ((ah L1).row (List.mem_cons_of_mem _ (List.mem_cons_of_mem _ (List.mem_cons_of_mem _ rt))))
 have t1:=aW ((ah L1).row (List.mem_cons_of_mem _ (List.mem_cons_of_mem _ (List.mem_cons_of_mem _ ro))))
 have KF:=hide (pX (X:=X) ((ah L1).sub ah1) hA (List.mem_cons_of_mem _ (List.mem_cons_of_mem _ ht)) (List.mem_cons_of_mem _ (List.mem_cons_of_mem _ ha)) h0 (List.mem_cons_of_mem _ (List.mem_cons_of_mem _ rf)) (List.mem_cons_of_mem _ (List.mem_cons_of_mem _ r0)) (List.mem_cons_of_mem _ (List.mem_cons_of_mem _ r1)) (List.mem_cons_of_mem _ (List.mem_cons_of_mem _ r2)) hx (fun y hy=>by
   rcases List.mem_cons.1 hy with e | e
   ·subst e;exact hfx
   ·rcases List.mem_cons.1 e with e | e
    ·subst e
     have:=h.lt (x:=(xg,.cells (Ic X) 65)) (by simp)
     simp only at this ⊢
     omega
    ·exact hne y e) e1 e2 e3 hfit hb hk hn hlt2 hi)
 clear h hB B2 L0 hwf h0 hfg hlt hA ht ha rt ro hn hlt2 hx hne e1 e2 e3 hfit hb hk rf r0 r1 r2 hfx hi
 generalize (fun q=>if q=bk then put ((fun j=>if j=bb then setB (V' bb) nb true else V' j) bk) at0 (aZ 32 (dP (nI X kx (nb:Int)))) else (fun j=>if j=bb then setB (V' bb) nb true else V' j) q)=VX at *
 generalize nI X kx (nb:Int)=X2 at *
 generalize (nb:Int)=ni at *
 go_enter Tryz.func179,Tryz.ntmps179
 go_upto_region 1 with fail
 change Code.wp _ _ _ _ (u.alloc (.cells #[.int .i64 0,.bool true,.func (.func 146) #[] #[.pointer (some ⟨fc,0,none⟩),.pointer (some ⟨m0,0,none⟩),.pointer (some ⟨m1,0,none⟩),.pointer (some ⟨m2,0,none⟩),.pointer (some ⟨xg,0,none⟩)]] 172))
 generalize (u.alloc (.cells #[.int .i64 0,.bool true,.func (.func 146) #[] #[.pointer (some ⟨fc,0,none⟩),.pointer (some ⟨m0,0,none⟩),.pointer (some ⟨m1,0,none⟩),.pointer (some ⟨m2,0,none⟩),.pointer (some ⟨xg,0,none⟩)]] 172))=w0 at *
 generalize u.heap.size=m at *
 go_upto_region 2 with fail
 have bl1:Bl (w0.setCell ⟨fg,0,none⟩ (.bool true)) m #[.int .i64 0,.bool true,.func (.func 146) #[] #[.pointer (some ⟨fc,0,none⟩),.pointer (some ⟨m0,0,none⟩),.pointer (some ⟨m1,0,none⟩),.pointer (some ⟨m2,0,none⟩),.pointer (some ⟨xg,0,none⟩)]] 172:=(ah L1).row (x:=(m,(.cells #[.int .i64 0,.bool true,.func (.func 146) #[] #[.pointer (some ⟨fc,0,none⟩),.pointer (some ⟨m0,0,none⟩),.pointer (some ⟨m1,0,none⟩),.pointer (some ⟨m2,0,none⟩),.pointer (some ⟨xg,0,none⟩)]] 172))) (by simp)
 have bl2:Bl (w0.setCell ⟨fg,0,none⟩ (.bool true)) fg #[.bool true] 4:=(ah L1).row (x:=(fg,zB true)) (by simp)
 generalize w0.setCell ⟨fg,0,none⟩ (.bool true)=w1 at *
 have d0:=bl1.cell 0 _ rfl
 have d1:=bl1.cell 1 _ rfl
 have d2:=bl1.cell 2 _ rfl
 have d3:=bl2.cell 0 _ rfl
 clear bl1 bl2 b0 b1 b2 g0 g1 L1
 go_wp2_with fail
 go_at_call 180
 refine(ah KF).mono ?_
 rintro e w2 ⟨rfl,Z⟩
 clear KF t0 t1 d0 d1 d2 d3
 go_wp2_with fail
 go_ret2
 exact⟨rfl,hide ((ah Z).sub ah2)⟩
def Ir (B:Nat) (ks:List (Nat×Obj)) (da:Option Addr) (dl dc:Nat) (ds:List Int) (R:List (Nat×Obj)):Prop :=
 ds.length=dl/\dl<=dc/\dc<=maxLen/\((da=none/\dl=0/\dc=0/\R=[])\/∃ q cur,da=some ⟨q,0,none⟩/\B<=q/\R=[(q,.cells cur 3)]/\cur.size=dc/\cur.toList.take dl=ds.map (Value.int .i64)/\∀ y∈ks,y.1≠q)
structure amC (B:Nat) (rows:List (Nat×Obj)) (dg pg:Nat) (ds ps:List Int) (da:Option Addr) (dc:Nat) (Rd:List (Nat×Obj)) (pa:Option Addr) (pc:Nat) (Rp:List (Nat×Obj)):Prop where
 d:Ir B ((dg,.cells #[.slice da ds.length dc] 102)::(Rp++((pg,.cells #[.slice pa ps.length pc] 102)::rows))) da ds.length dc ds Rd
 p:Ir B ((pg,.cells #[.slice pa ps.length pc] 102)::(Rd++((dg,.cells #[.slice da ds.length dc] 102)::rows))) pa ps.length pc ps Rp
 dp:dg≠pg
 rd:∀ y∈rows,y.1≠dg
 rp:∀ y∈rows,y.1≠pg
 bd:B<=dg
 bp:B<=pg
def Two (w:World) (P:Nat->Int) (G:Geo) (E:Nat->Bool) (g o:Nat) (rows:List (Nat×Obj)) (i:Nat) (V:Nat->List Int) (F:Nat->Bool) (V':Nat->List Int) (K:Nat->Bool) (dg pg:Nat) (ds ps:List Int) (u:World):Prop :=
 ∃ da dc Rd pa pc Rp,amC w.heap.size rows dg pg ds ps da dc Rd pa pc Rp/\Lp w P G E g o (Rd++((dg,.cells #[.slice da ds.length dc] 102)::(Rp++((pg,.cells #[.slice pa ps.length pc] 102)::rows)))) i V F V' K u
end Go.Proofs.YtefdkpbmeoakgaaGreatDoor
