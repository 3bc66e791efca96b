/- Joined: IBase, IGet, IPut, IName, IFill, IMk. -/
import Derived.Test.YtbofhdfhhbgdgaaGreatDoorIaJ39
import Derived.Test.YtbofhdfhhbgdgaaGreatDoorIaJ24
import Derived.Test.YtbofhdfhhbgdgaaGreatDoorIaINoM
import Derived.Test.YtbofhdfhhbgdgaaGreatDoorIaPSteps
import Derived.Deep.DeepCutAuto
/- amn beside a group that turns; a table of adD in memory; what it reads. -/
namespace Go.Proofs.YtbofhdfhhbgdgaaGreatDoor
set_option maxRecDepth 100000
set_option maxHeartbeats 8000000
open Go.RowKit Go.Shelf Go.Maps
set_option linter.unusedVariables false
theorem Lst.swap {w P G E g}{rows:List (Nat×Obj)}{i V F cg lg dg X C L D}{u u':World}{S}{k:Nat}{ob ob':Obj}(h:Lst w P G E g ((k,ob)::rows) i V F cg lg dg X C L D u S)(hk:w.heap.size<=k)(h0:0<w.heap.size)(hn:∀ x∈rows,x.1≠k)(kept:∀ q,q≠k->u'.heap[q]?=u.heap[q]?)(bb:Below w.heap.size u u')(ho:u'.heap[k]?=some ob'):Lst w P G E g ((k,ob')::rows) i V F cg lg dg X C L D u' S:=by
 have hS:=(h.hl.ro (k,ob) (by simp)).2
 obtain⟨Sg,Sc,Sl,Sd,m,mk,ml,az⟩:=h.hl.gv
 refine⟨⟨(az.jf (fun q hq=>kept q (fun e=>hS (by rw[← e];exact hq))) (kept 0 (by omega)) bb.size).gv,h.hl.ge,h.hl.bel.trans bb,h.hl.sz,fun x hx=>?_⟩,h.gs,h.sq,h.vl,h.fl,h.vb,h.eb,h.eu,h.ed⟩
 rcases List.mem_cons.1 hx with e | e
 ·subst e;exact⟨ho,hS⟩
 ·have:=h.hl.ro x (List.mem_cons_of_mem _ e)
  exact⟨(kept x.1 (hn x e)).trans this.1,this.2⟩
theorem Lp.swap {w P G E g o}{rows:List (Nat×Obj)}{i V F V' K u}{u':World}{k:Nat}{ob ob':Obj}(h:Lp w P G E g o ((k,ob)::rows) i V F V' K u)(hk:w.heap.size<=k)(h0:0<w.heap.size)(hn:∀ x∈rows,x.1≠k)(kept:∀ q,q≠k->u'.heap[q]?=u.heap[q]?)(bb:Below w.heap.size u u')(ho:u'.heap[k]?=some ob'):Lp w P G E g o ((k,ob')::rows) i V F V' K u':=by
 obtain⟨E0,cg,lg,dg,X,C,L,D,S,N,h,r⟩:=h
 exact⟨E0,cg,lg,dg,X,C,L,D,S,N,h.swap hk h0 hn kept bb ho,r⟩
theorem Lp.aI {w:World}{P:Nat->Int}{G:Geo}{E:Nat->Bool}{g o:Nat}{rows:List (Nat×Obj)}{i:Nat}{V:Nat->List Int}{F:Nat->Bool}{V':Nat->List Int}{K:Nat->Bool}{k:Nat}{t:TypeId}(hk:w.heap.size<=k)(h0:0<w.heap.size)(hn:∀ x∈rows,x.1≠k):∀ (vs:List Value) (j:Nat) (cs:Array Value) (u:World),Lp w P G E g o ((k,.cells cs t)::rows) i V F V' K u->Lp w P G E g o rows i V F V' K (Go.Proofs.YtbofhdfhhbgdgaaGreatDoor.aI u k j vs)
 | [],j,cs,u,h=>h.pop
 | v::vs,j,cs,u,h=>by
  have hb:Bl u k cs t:=h.row (x:=(k,.cells cs t)) (by simp)
  have h2:=h.swap hk h0 hn (u':=u.setCell ⟨k,j,none⟩ v) (fun q hq=>Below.heap_setCell _ _ _ _ hq) ((Below.refl _ _).setCell (p:=⟨k,j,none⟩) hk _) (hb.set j v)
  exact Lp.aI hk h0 hn vs (j+1) _ _ h2
theorem Lp.ne {w P G E g o rows i V F V' K u}(h:Lp w P G E g o rows i V F V' K u):∀ x∈rows,x.1≠u.heap.size:=fun x hx e=>by
 have:=h.lt hx
 omega
theorem ai2 {w:World}{g c n at0 m:Nat}{zs ys:List Int}{ob}(hd:Dr c n zs ob)(hg:w.heap[g]?=some ob){a2:Option Addr}(h:Has w a2 m ys)(hm0:0<m)(c2:Nat)(hfit:at0+m<=n) :
  ∃ w2 ob2,(∀ ty,(Builtin.copy_ #[62,62] ty #[.slice (cutAt (some ⟨g,0,none⟩) c at0) (n - at0) (c - at0),.slice a2 m c2]).run Tryz.prog w=.ok (goInt m) w2)/\Dr c n (put zs at0 ys) ob2/\w2.heap[g]?=some ob2/\(∀ q,q≠g->w2.heap[q]?=w.heap[q]?)/\∀ B,B<=g->Below B w w2:=by
 obtain⟨cur,rfl,h1,h2,h3,h4,h5⟩:=hd
 have hlen:=h.1
 obtain⟨b,off,rfl,hc⟩:=h.2 hm0
 have hcut:cutAt (some ⟨g,0,none⟩) c at0=some ⟨g,at0,none⟩:=by
  unfold cutAt
  rw[if_neg (by omega),Option.map_some,Nat.mul_one,World.aF,Nat.zero_add]
 have hs:∀ (j:Nat) v,(ys.map (Value.int .u8))[j]?=some v->w.cell? ((⟨b,off,none⟩:Addr).add j)=some v:=by
  intro j v hv
  have hj:j<ys.length:=by
   have:=(List.getElem?_eq_some_iff.1 hv).1
   simpa using this
  rw[World.aF,hc j (by omega)]
  rw[List.getElem?_map,List.getElem?_eq_getElem hj] at hv
  rw[List.getElem?_eq_getElem hj]
  simpa using hv
 have hm:(ys.map (Value.int .u8)).length=Nat.min m (n - at0):=by rw[List.length_map,hlen];exact(Nat.min_eq_left (by omega)).symm
 have hl:(ys.map (Value.int .u8)).length=m:=by rw[List.length_map,hlen]
 have hcl:cur.toList.length=c:=by rw[Array.length_toList,h1]
 refine⟨w.setRow g (cur.toList.take at0++ys.map (Value.int .u8)++cur.toList.drop (at0+(ys.map (Value.int .u8)).length)).toArray,_,fun ty=>?_,⟨_,rfl,?_,?_,h3,h4,?_⟩,setRow_heap w g _ _ 5 _ hg,fun q hq=>setRow_other w g q _ hq,fun B hBg=>below_setRow (Below.refl _ _) hBg _⟩
 ·have hr:=run_copy_row (P:=Tryz.prog) w 62 62 ty 5 g at0 (n - at0) (c - at0) ⟨b,off,none⟩ m c2 cur 5 (ys.map (Value.int .u8)) Tryz.underlying62 rP hg hm hs (by rw[hl,h1];omega) (dw ys)
  rw[hcut]
  rw[hr,hl]
 ·simp only[List.size_toArray,List.length_append,List.length_take,List.length_drop,hl,hcl]
  omega
 ·rw[gY _ _ _ (by rw[hlen,h2];exact hfit),h2]
 ·rw[List.toList_toArray,hl]
  have e1:cur.toList.take at0=(zs.map (Value.int .u8)).take at0:=by rw[← h5,List.take_take,Nat.min_eq_left (by omega)]
  have e2:(cur.toList.drop (at0+m)).take (n - (at0+m))=(zs.map (Value.int .u8)).drop (at0+m):=by rw[← h5,List.drop_take]
  have e3:(cur.toList.take at0++ys.map (Value.int .u8)).length=at0+m:=by
   rw[List.length_append,List.length_take,hl,hcl];omega
  rw[List.take_append,e3,List.take_of_length_le (by rw[e3];omega),e2,e1]
  simp[put,List.map_take,List.map_drop,hlen]
abbrev xL (X:Nat->Int):List Value:=[.int .i64 (X 0),.int .i64 (X 1),.int .i64 (X 2),.int .i64 (X 3),.int .i64 (X 4),.int .i64 (X 5),.int .i64 (X 6),.int .i64 (X 7),.int .i64 (X 8),.int .i64 (X 9),.int .i64 (X 10),.int .i64 (X 11),.int .i64 (X 12)]
abbrev zL:List Value:=[.int .i64 0,.int .i64 0,.int .i64 0,.int .i64 0,.int .i64 0,.int .i64 0,.int .i64 0,.int .i64 0,.int .i64 0,.int .i64 0,.int .i64 0,.int .i64 0,.int .i64 0]
def tbA (a:Nat) (P:Nat->Int):Array Value:=#[.pointer (some ⟨a,0,none⟩),.int .i64 (P 0),.int .i64 (P 1),.int .i64 (P 2),.int .i64 (P 3),.int .i64 (P 4),.int .i64 (P 5),.int .i64 (P 6),.int .i64 (P 7),.int .i64 (P 8),.int .i64 (P 9),.int .i64 (P 10),.int .i64 (P 11)]
def tbO (a:Nat) (P:Nat->Int):Obj:=.cells (tbA a P) 123 (0,0)
theorem aS {u:World}{tb a:Nat}{P:Nat->Int}(h:u.heap[tb]?=some (tbO a P)):u.cell? ⟨tb,1,none⟩=some (.int .i64 (P 0))/\u.cell? ⟨tb,2,none⟩=some (.int .i64 (P 1))/\u.cell? ⟨tb,3,none⟩=some (.int .i64 (P 2))/\u.cell? ⟨tb,4,none⟩=some (.int .i64 (P 3))/\u.cell? ⟨tb,5,none⟩=some (.int .i64 (P 4))/\u.cell? ⟨tb,6,none⟩=some (.int .i64 (P 5))/\u.cell? ⟨tb,7,none⟩=some (.int .i64 (P 6))/\u.cell? ⟨tb,8,none⟩=some (.int .i64 (P 7))/\u.cell? ⟨tb,9,none⟩=some (.int .i64 (P 8))/\u.cell? ⟨tb,10,none⟩=some (.int .i64 (P 9))/\u.cell? ⟨tb,11,none⟩=some (.int .i64 (P 10))/\u.cell? ⟨tb,12,none⟩=some (.int .i64 (P 11)):=by
 have hb:Bl u tb (tbA a P) 123:=h
 exact⟨hb.cell 1 _ rfl,hb.cell 2 _ rfl,hb.cell 3 _ rfl,hb.cell 4 _ rfl,hb.cell 5 _ rfl,hb.cell 6 _ rfl,hb.cell 7 _ rfl,hb.cell 8 _ rfl,hb.cell 9 _ rfl,hb.cell 10 _ rfl,hb.cell 11 _ rfl,hb.cell 12 _ rfl⟩
theorem Dr.row {c n zs ob}(h:Dr c n zs ob){u:World}{k:Nat}(hk:u.heap[k]?=some ob)(hn:n<=140737488351232)(hby:∀ z∈zs,0<=z/\z<=255):Row u.heap.size u (some ⟨k,0,none⟩) n c zs:=by
 have hh:=h.has hk
 obtain⟨cur,rfl,h1,h2,h3,h4,h5⟩:=h
 refine⟨h2,h3,⟨hn,by unfold maxLen at h4;omega⟩,hby,fun hp=>?_⟩
 obtain⟨b,off,e,hc⟩:=hh.2 hp
 exact⟨b,off,e,aH (hc 0 hp),hc⟩
theorem jy {w P G E g o rows i V F V' K u}(h:Lp w P G E g o rows i V F V' K u){a tb b:Nat}(ht:(tb,tbO a P)∈rows)(hb:E b=true) :
  Calls Tryz.prog 57 #[.pointer (some ⟨tb,0,none⟩),.pointer (some ⟨o,0,none⟩),.int .i64 (b:Int)] u fun e u1=>∃ k c,e=.returned (.tuple #[.slice (some ⟨k,0,none⟩) G.blk c,.int .i64 0])/\Hid (∃ ob,Dr c G.blk (V' b) ob/\u.heap.size<=k/\Lp w P G E g o ((k,ob)::rows) i V F V' K u1):=by
 have hp0:=h.ok.p0
 have K1:=hide (adN h hb)
 have C1:Hid (∀ k ob u1,Lp w P G E g o ((k,ob)::rows) i V F V' K u1->u1.cell? ⟨tb,1,none⟩=some (.int .i64 (G.blk:Int))):=fun k ob u1 hl=>by
  have:=(aS (hl.row (List.mem_cons_of_mem _ ht))).1
  rwa [hp0] at this
 clear h ht hb hp0
 generalize (b:Int)=bi at *
 go_enter Tryz.func57,Tryz.ntmps57
 go_wp2_with fail
 go_at_call 118
 refine(ah K1).mono ?_
 rintro e w1 ⟨k,c,rfl,Y⟩
 have c1:w1.cell? ⟨tb,1,none⟩=some (.int .i64 (G.blk:Int)):=by
  obtain⟨ob,_,_,hl⟩:=ah Y
  exact ah C1 _ _ _ hl
 clear K1 C1
 go_wp2_with fail
 go_ret2
 exact⟨k,c,rfl,Y⟩
theorem jA (a:Option Addr)(len cap:Nat)(zs:List Int)(s:Int)(w:World)(hr:Row w.heap.size w a len cap zs)(hs:0<=s/\s<=4096) :
  Calls Tryz.prog 109 #[.slice a len cap,.int .i64 s] w fun e w'=>e=.returned (.int .i64 (ak zs (s*2) 2))/\Below w.heap.size w w':=by
 have KG:=hide (get_any a len cap zs (s*2) 2 w hr (by omega))
 obtain⟨h1,h2⟩:=hs
 clear hr
 generalize ak zs (s*2) 2=vv at *
 generalize cZ len (s*2) 2=ee at *
 go_enter Tryz.func109,Tryz.ntmps109
 go_wp2_with fail
 go_at_call 173
 refine(ah KG).mono ?_
 rintro e w1 ⟨rfl,hb⟩
 have HB:=hide hb
 clear KG hb
 go_wp2_with fail
 go_ret
 exact⟨rfl,ah HB⟩
theorem ahy (P:Nat->Int)(a:Nat)(u:World)(hc:bD P=0) :
  Calls Tryz.prog 41 #[.pointer (some ⟨a,0,none⟩),Pv P] u fun e u'=>∃ t,e=.returned (.tuple #[.pointer (some ⟨t,0,none⟩),.int .i64 0])/\Hid (Below u.heap.size u u'/\u.heap.size<=t/\u'.heap[t]?=some (tbO a P)):=by
 have HK:=hide (Kp.start u P)
 have K1:Hid (∀ w,Calls Tryz.prog 100 #[Pv P] w fun e w'=>e=.returned (.int .i64 0)/\Below w.heap.size w w'):=fun w=>by
  have:=check_any P w
  rwa [hc] at this
 have KL:Hid (∀ w1,Below u.heap.size u w1->Below u.heap.size u (w1.alloc (.cells #[.pointer (some ⟨a,0,none⟩),.int .i64 (P 0),.int .i64 (P 1),.int .i64 (P 2),.int .i64 (P 3),.int .i64 (P 4),.int .i64 (P 5),.int .i64 (P 6),.int .i64 (P 7),.int .i64 (P 8),.int .i64 (P 9),.int .i64 (P 10),.int .i64 (P 11)] 123))/\u.heap.size<=w1.heap.size/\(w1.alloc (.cells #[.pointer (some ⟨a,0,none⟩),.int .i64 (P 0),.int .i64 (P 1),.int .i64 (P 2),.int .i64 (P 3),.int .i64 (P 4),.int .i64 (P 5),.int .i64 (P 6),.int .i64 (P 7),.int .i64 (P 8),.int .i64 (P 9),.int .i64 (P 10),.int .i64 (P 11)] 123)).heap[w1.heap.size]?=some (tbO a P)):=fun w1 hb =>
  ⟨hb.alloc hb.size _,hb.size,World.alloc_heap_new w1 _⟩
 clear hc
 obtain⟨f0,f1,f2,f3,f4,f5,f6,f7,f8,f9,f10,f11⟩:=(ah HK).cells
 go_enter Tryz.func41,Tryz.ntmps41
 go_wp2_with fail
 go_at_call 100
 refine(ah K1 _).mono ?_
 rintro e w1 ⟨rfl,hb⟩
 replace HK:=hide ((ah HK).call hb)
 clear f0 f1 f2 f3 f4 f5 f6 f7 f8 f9 f10 f11 K1 hb
 obtain⟨f0,f1,f2,f3,f4,f5,f6,f7,f8,f9,f10,f11⟩:=(ah HK).cells
 have Z:=hide (ah KL w1 (ah HK).2)
 clear KL HK
 go_wp2_with fail
 go_ret2
 exact⟨_,rfl,ah Z⟩
theorem Has.row {w a}{len cap:Nat}{zs}(h:Has w a len zs)(hc:len<=cap)(hl:len<=140737488351232)(hm:cap<=9223372036854775807)(hb:∀ z∈zs,0<=z/\z<=255):Row w.heap.size w a len cap zs :=
 ⟨h.1,hc,⟨hl,hm⟩,hb,fun hp=>by
  obtain⟨b,off,e,hcs⟩:=h.2 hp
  exact⟨b,off,e,aH (hcs 0 hp),hcs⟩⟩
theorem Has.same {w w':World}{k n:Nat}{zs}(h:Has w (some ⟨k,0,none⟩) n zs)(e:w'.heap[k]?=w.heap[k]?):Has w' (some ⟨k,0,none⟩) n zs :=
 ⟨h.1,fun hp=>by
  obtain⟨b,off,e1,hcs⟩:=h.2 hp
  have e2:=Option.some.inj e1
  obtain rfl:k=b:=congrArg Addr.block e2
  obtain rfl:0=off:=congrArg Addr.off e2
  refine⟨k,0,rfl,fun j hj=>?_⟩
  have:=hcs j hj
  unfold World.cell? at this ⊢
  rw[e]
  exact this⟩
theorem aey {zs:List Int}(h:∀ z∈zs,0<=z/\z<=255)(a n:Nat):∀ z∈(zs.drop a).take n,0<=z/\z<=255:=fun z hz=>h z (List.mem_of_mem_drop (List.mem_of_mem_take hz))
theorem dJ {w P G E g o rows i V F V' K u}(h:Lp w P G E g o rows i V F V' K u){a tb bk at0:Nat}(X:Nat->Int)(j:Int)(ht:(tb,tbO a P)∈rows)(h0:0<w.heap.size)(e1:gU P j=0)(e2:jE P j=(bk:Int))(e3:jF P j=(at0:Int))(hfit:at0+32<=G.blk)(hb:E bk=true)(hi:iQ (((V' bk).drop at0).take 32))(hX:Iv (bG (((V' bk).drop at0).take 32))=Iv X) :
  Calls Tryz.prog 19 #[.pointer (some ⟨tb,0,none⟩),.pointer (some ⟨o,0,none⟩),.int .i64 j] u fun e u'=>e=.returned (.tuple #[Iv X,.int .i64 0])/\Hid (Lp w P G E g o rows i V F V' K u'):=by
 have hbk:=h.ok.ok.blk
 have hm:w.heap.size<=u.heap.size:=h.bel.size
 have hne:=h.ne
 have hvb:=h.vb hb
 have KP:Hid (∀ v,Calls Tryz.prog 55 #[Pv P,.int .i64 j] v fun e w'=>e=.returned (.tuple #[.int .i64 (bk:Int),.int .i64 (at0:Int),.int .i64 0])/\Below v.heap.size v w'):=fun v=>by
  have:=uZ P j v
  rwa [e1,e2,e3] at this
 have H0:=hide (h.new (.cells Iz 50))
 have KR:Hid (∀ v,Lp w P G E g o ((u.heap.size,.cells Iz 50)::rows) i V F V' K v->Calls Tryz.prog 57 #[.pointer (some ⟨tb,0,none⟩),.pointer (some ⟨o,0,none⟩),.int .i64 (bk:Int)] v fun e u1=>∃ k c,e=.returned (.tuple #[.slice (some ⟨k,0,none⟩) G.blk c,.int .i64 0])/\Hid (∃ ob,Dr c G.blk (V' bk) ob/\v.heap.size<=k/\Lp w P G E g o ((k,ob)::(u.heap.size,.cells Iz 50)::rows) i V F V' K u1)):=fun v hv=>jy hv (List.mem_cons_of_mem _ ht) hb
 have KU:Hid (∀ v k c ob,Dr c G.blk (V' bk) ob->Lp w P G E g o ((k,ob)::(u.heap.size,.cells Iz 50)::rows) i V F V' K v->∃ a1 c1,(∀ w,(Instr.slice 62 (.slice (some ⟨k,0,none⟩) G.blk c) (some (.int .i64 (at0:Int))) (some (.int .i64 ((at0:Int)+32))) none).run Tryz.prog w=.ok (.slice a1 32 c1) w)/\Hid (Calls Tryz.prog 63 #[.slice a1 32 c1] v fun e w'=>e=.returned (.tuple #[Iv X,.int .i64 0])/\Hid (Lp w P G E g o ((u.heap.size,.cells Iz 50)::rows) i V F V' K w'))):=fun v k c ob hd hl=>by
  have hrow:v.heap[k]?=some ob:=hl.row (x:=(k,ob)) (by simp)
  have hcap:G.blk<=c/\c<=maxLen:=by obtain⟨cur,_,_,_,h3,h4,_⟩:=hd;exact⟨h3,h4⟩
  have hmx:maxLen<=9223372036854775807:=by unfold maxLen;omega
  refine⟨_,_,fun w=>aaW (some ⟨k,0,none⟩) G.blk c at0 32 (by omega) w,?_⟩
  have hr:=((hd.has hrow).cut (cap:=c) (l:=at0) (k:=32) (by omega) (by omega)).row (cap:=c - at0) (by omega) (by omega) (by omega) (aey hvb.2 _ _)
  have:=xB _ _ _ _ v hr hi
  rw[hX] at this
  refine this.mono ?_
  rintro e w' ⟨rfl,b1⟩
  exact⟨rfl,(hl.later b1).pop⟩
 have HF:Hid (∀ v,Lp w P G E g o ((u.heap.size,.cells Iz 50)::rows) i V F V' K v->Lp w P G E g o rows i V F V' K (aI v u.heap.size 0 (xL X))):=fun v hv=>Lp.aI hm h0 hne _ 0 _ _ hv
 have HT:Hid (∀ v,Lp w P G E g o ((u.heap.size,.cells Iz 50)::rows) i V F V' K v->v.heap[tb]?=some (tbO a P)/\Bl v u.heap.size Iz 50):=fun v hv=>⟨hv.row (List.mem_cons_of_mem _ ht),hv.row (x:=(u.heap.size,.cells Iz 50)) (by simp)⟩
 have A1:=hide (show (0:Int)<=(at0:Int)/\(at0:Int)<=4096 by omega)
 clear h ht h0 e1 e2 e3 hfit hb hi hX hbk hm hne hvb
 go_enter Tryz.func19,Tryz.ntmps19
 go_upto_region 1 with fail
 change Code.wp _ _ _ _ (u.alloc (.cells Iz 50))
 generalize u.alloc (.cells Iz 50)=w0 at *
 generalize u.heap.size=m at *
 obtain⟨f0,f1,f2,f3,f4,f5,f6,f7,f8,f9,f10,f11⟩:=aS (ah HT _ (ah H0)).1
 go_wp2_with fail
 go_at_call 55
 refine(ah KP _).mono ?_
 rintro e w1 ⟨rfl,hb1⟩
 have K2:=hide (ah KR w1 ((ah H0).later hb1))
 clear KP KR H0 hb1 f0 f1 f2 f3 f4 f5 f6 f7 f8 f9 f10 f11
 obtain⟨a1,a2⟩:=ah A1
 generalize (at0:Int)=ai at *
 go_wp2_with fail
 go_at_call 57
 refine(ah K2).mono ?_
 rintro e w2 ⟨k,c,rfl,Y⟩
 obtain⟨ob,hd,_,hl⟩:=ah Y
 obtain⟨p1,c1,hs,K3⟩:=ah KU w2 k c ob hd hl
 clear K2 KU Y hd hl
 go_wp2_with fail
 go_at_call 63
 refine(ah K3).mono ?_
 rintro e w3 ⟨rfl,L3⟩
 have L4:=hide ((ah L3).later ((Below.refl _ _).alloc (Nat.le_refl _) (.cells (Ic X) 50)))
 have bx:=Bl.new w3 (Ic X) 50
 clear K3 hs L3 A1 a1 a2
 go_upto_region 10 with fail
 change Code.wp _ _ _ _ (w3.alloc (.cells (Ic X) 50))
 generalize w3.alloc (.cells (Ic X) 50)=w4 at *
 generalize w3.heap.size=m3 at *
 have bz:=(ah HT _ (ah L4)).2
 have x0:=bx.cell 0 (.int .i64 (X 0)) rfl
 have x1:=bx.cell 1 (.int .i64 (X 1)) rfl
 have x2:=bx.cell 2 (.int .i64 (X 2)) rfl
 have x3:=bx.cell 3 (.int .i64 (X 3)) rfl
 have x4:=bx.cell 4 (.int .i64 (X 4)) rfl
 have x5:=bx.cell 5 (.int .i64 (X 5)) rfl
 have x6:=bx.cell 6 (.int .i64 (X 6)) rfl
 have x7:=bx.cell 7 (.int .i64 (X 7)) rfl
 have x8:=bx.cell 8 (.int .i64 (X 8)) rfl
 have x9:=bx.cell 9 (.int .i64 (X 9)) rfl
 have x10:=bx.cell 10 (.int .i64 (X 10)) rfl
 have x11:=bx.cell 11 (.int .i64 (X 11)) rfl
 have x12:=bx.cell 12 (.int .i64 (X 12)) rfl
 have z0:=bz.cell 0 (.int .i64 0) rfl
 have z1:=bz.cell 1 (.int .i64 0) rfl
 have z2:=bz.cell 2 (.int .i64 0) rfl
 have z3:=bz.cell 3 (.int .i64 0) rfl
 have z4:=bz.cell 4 (.int .i64 0) rfl
 have z5:=bz.cell 5 (.int .i64 0) rfl
 have z6:=bz.cell 6 (.int .i64 0) rfl
 have z7:=bz.cell 7 (.int .i64 0) rfl
 have z8:=bz.cell 8 (.int .i64 0) rfl
 have z9:=bz.cell 9 (.int .i64 0) rfl
 have z10:=bz.cell 10 (.int .i64 0) rfl
 have z11:=bz.cell 11 (.int .i64 0) rfl
 have z12:=bz.cell 12 (.int .i64 0) rfl
 have fz:=bz.free
 have Z:=hide (ah HF _ (ah L4))
 have hA:Bl (aI w4 m 0 (xL X)) m (Ic X) 50:=aU (xL X) _ _ bz rfl
 clear HF HT L4 bx bz
 go_wp2_with fail
 change bodyPost _ _ _ _ _ (aI w4 m 0 (xL X))
 generalize aI w4 m 0 (xL X)=wf at *
 refine bodyPost_ret (v:=.tuple #[Iv X,.int .i64 0]) ?_ rfl ⟨rfl,Z⟩
 simp[results,Tryz.results19,go_sem,hA.cell 0 _ rfl,hA.cell 1 _ rfl,hA.cell 2 _ rfl,hA.cell 3 _ rfl,hA.cell 4 _ rfl,hA.cell 5 _ rfl,hA.cell 6 _ rfl,hA.cell 7 _ rfl,hA.cell 8 _ rfl,hA.cell 9 _ rfl,hA.cell 10 _ rfl,hA.cell 11 _ rfl,hA.cell 12 _ rfl]
theorem xE {w P G E g o rows i V F V' K u}(h:Lp w P G E g o rows i V F V' K u){a tb bk at0:Nat}(X:Nat->Int)(j:Int)(ht:(tb,tbO a P)∈rows)(h0:0<w.heap.size)(e1:gU P j=0)(e2:jE P j=(bk:Int))(e3:jF P j=(at0:Int))(hfit:at0+32<=G.blk)(hb:E bk=true)(hi:bP X) :
  Calls Tryz.prog 17 #[.pointer (some ⟨tb,0,none⟩),.pointer (some ⟨o,0,none⟩),.int .i64 j,Iv X] u fun e u'=>e=.returned (.int .i64 0)/\Hid (Lp w P G E g o rows i V F (fun q=>if q=bk then put (V' bk) at0 (bW 32 (dG X)) else V' q) K u'):=by
 have hbk:=h.ok.ok.blk
 have hvb:=h.vb hb
 have hwu:w.heap.size<=u.heap.size:=h.bel.size
 have hf:=hi.2.2
 unfold adE at hf
 simp only[Bool.and_eq_true] at hf
 obtain⟨⟨h4,h2⟩,h8⟩:=hf
 have KP:Hid (∀ v,Calls Tryz.prog 55 #[Pv P,.int .i64 j] v fun e w'=>e=.returned (.tuple #[.int .i64 (bk:Int),.int .i64 (at0:Int),.int .i64 0])/\Below v.heap.size v w'):=fun v=>by
  have:=uZ P j v
  rwa [e1,e2,e3] at this
 have H0:=hide (h.new (.cells (Ic X) 50))
 have KI:Hid (∀ v,Lp w P G E g o ((u.heap.size,.cells (Ic X) 50)::rows) i V F V' K v->Calls Tryz.prog 56 #[Iv X] v fun e w'=>∃ k,e=.returned (.tuple #[.slice (some ⟨k,0,none⟩) 32 32,.int .i64 0])/\Hid (∃ ob1,v.heap.size<=k/\Has w' (some ⟨k,0,none⟩) 32 (bW 32 (dG X))/\Lp w P G E g o ((k,ob1)::(u.heap.size,.cells (Ic X) 50)::rows) i V F V' K w')):=fun v hv=>by
  refine(vU X v hi.1 hi.2.1 h4 h2 h8).mono ?_
  rintro e w' ⟨k,rfl,hh,b1⟩
  obtain⟨hh1,hh2⟩:=ah hh
  obtain⟨bb,off,ee,hc⟩:=hh1.2 (by omega)
  have hkb:k=bb:=congrArg Addr.block (Option.some.inj ee)
  have hlt:k<w'.heap.size:=by rw[hkb];exact aH (hc 0 (by omega))
  exact⟨k,rfl,w'.heap[k],hh2,hh1,hv.push b1 hh2 (Array.getElem?_eq_getElem hlt)⟩
 have KR:Hid (∀ v k ob1,Lp w P G E g o ((k,ob1)::(u.heap.size,.cells (Ic X) 50)::rows) i V F V' K v->Has v (some ⟨k,0,none⟩) 32 (bW 32 (dG X))->u.heap.size<k->Calls Tryz.prog 57 #[.pointer (some ⟨tb,0,none⟩),.pointer (some ⟨o,0,none⟩),.int .i64 (bk:Int)] v fun e u1=>∃ k2 c,e=.returned (.tuple #[.slice (some ⟨k2,0,none⟩) G.blk c,.int .i64 0])/\Hid (∃ w2 p1,(∀ w,(Instr.slice 62 (.slice (some ⟨k2,0,none⟩) G.blk c) (some (.int .i64 (at0:Int))) none none).run Tryz.prog w=.ok (.slice p1 (G.blk - at0) (c - at0)) w)/\(∀ ty,(Builtin.copy_ #[62,62] ty #[.slice p1 (G.blk - at0) (c - at0),.slice (some ⟨k,0,none⟩) 32 32]).run Tryz.prog u1=.ok (goInt 32) w2)/\Calls Tryz.prog 58 #[.pointer (some ⟨o,0,none⟩),.int .i64 (bk:Int),.slice (some ⟨k2,0,none⟩) G.blk c] w2 fun e u2=>e=.returned (.int .i64 0)/\Hid (Lp w P G E g o rows i V F (fun q=>if q=bk then put (V' bk) at0 (bW 32 (dG X)) else V' q) K u2))):=fun v k ob1 hv hh huk=>by
  refine(jy hv (List.mem_cons_of_mem _ (List.mem_cons_of_mem _ ht)) hb).mono ?_
  rintro e u1 ⟨k2,c,rfl,Y⟩
  obtain⟨ob,hd,hk2,hl⟩:=ah Y
  refine⟨k2,c,rfl,?_⟩
  have hvk:v.heap[k]?=some ob1:=hv.row (x:=(k,ob1)) (by simp)
  have amV:u1.heap[k]?=some ob1:=hl.row (x:=(k,ob1)) (by simp)
  have hk:k<v.heap.size:=hv.lt (x:=(k,ob1)) (by simp)
  have hrow:u1.heap[k2]?=some ob:=hl.row (x:=(k2,ob)) (by simp)
  have hcap:G.blk<=c/\c<=maxLen:=by obtain⟨cur,_,_,_,h3,h4,_⟩:=hd;exact⟨h3,h4⟩
  have hbs:∀ z∈bW 32 (dG X),0<=z/\z<=255:=akL X
  have hll:(bW 32 (dG X)).length=32:=eG (by rw[iH];omega)
  obtain⟨w2,ob2,r1,r2,r3,r4,r5⟩:=ai2 (at0:=at0) hd hrow (hh.same (amV.trans hvk.symm)) (by omega) 32 (by omega)
  have hwv:w.heap.size<=v.heap.size:=hv.bel.size
  have L2:=hl.swap (by omega) h0 (fun x hx=>by
   have:=hv.lt hx
   omega) r4 (r5 _ (by omega)) r3
  refine⟨w2,_,fun w=>uT (some ⟨k2,0,none⟩) G.blk c at0 (by omega) w,r1,?_⟩
  refine(yY L2 hb (some ⟨k2,0,none⟩) c (put (V' bk) at0 (bW 32 (dG X))) (r2.row r3 (by omega) (aad _ _ _ hvb.2 hbs))).mono ?_
  rintro e u2 ⟨rfl,Z⟩
  exact⟨rfl,(ah Z).pop.pop.pop⟩
 have HT:Hid (∀ v,Lp w P G E g o ((u.heap.size,.cells (Ic X) 50)::rows) i V F V' K v->v.heap[tb]?=some (tbO a P)/\Bl v u.heap.size (Ic X) 50/\u.heap.size<v.heap.size):=fun v hv=>⟨hv.row (List.mem_cons_of_mem _ ht),hv.row (x:=(u.heap.size,.cells (Ic X) 50)) (by simp),hv.lt (x:=(u.heap.size,.cells (Ic X) 50)) (by simp)⟩
 have A1:=hide (show (0:Int)<=(at0:Int)/\(at0:Int)<=4096 by omega)
 clear h ht h0 e1 e2 e3 hfit hb hi hbk hvb hwu h4 h2 h8
 go_enter Tryz.func17,Tryz.ntmps17
 go_upto_region 1 with fail
 change Code.wp _ _ _ _ (u.alloc (.cells (Ic X) 50))
 generalize u.alloc (.cells (Ic X) 50)=w0 at *
 generalize u.heap.size=m at *
 obtain⟨f0,f1,f2,f3,f4,f5,f6,f7,f8,f9,f10,f11⟩:=aS (ah HT _ (ah H0)).1
 go_wp2_with fail
 go_at_call 55
 refine(ah KP _).mono ?_
 rintro e w1 ⟨rfl,hb1⟩
 have L1:=hide ((ah H0).later hb1)
 have K2:=hide (ah KI w1 (ah L1))
 have bx:=(ah HT _ (ah L1)).2.1
 have HM:=hide (ah HT _ (ah L1)).2.2
 have x0:=bx.cell 0 (.int .i64 (X 0)) rfl
 have x1:=bx.cell 1 (.int .i64 (X 1)) rfl
 have x2:=bx.cell 2 (.int .i64 (X 2)) rfl
 have x3:=bx.cell 3 (.int .i64 (X 3)) rfl
 have x4:=bx.cell 4 (.int .i64 (X 4)) rfl
 have x5:=bx.cell 5 (.int .i64 (X 5)) rfl
 have x6:=bx.cell 6 (.int .i64 (X 6)) rfl
 have x7:=bx.cell 7 (.int .i64 (X 7)) rfl
 have x8:=bx.cell 8 (.int .i64 (X 8)) rfl
 have x9:=bx.cell 9 (.int .i64 (X 9)) rfl
 have x10:=bx.cell 10 (.int .i64 (X 10)) rfl
 have x11:=bx.cell 11 (.int .i64 (X 11)) rfl
 have x12:=bx.cell 12 (.int .i64 (X 12)) rfl
 clear KP KI H0 hb1 bx HT L1 f0 f1 f2 f3 f4 f5 f6 f7 f8 f9 f10 f11
 go_wp2_with fail
 go_at_call 56
 refine(ah K2).mono ?_
 rintro e w2 ⟨k,rfl,Y⟩
 obtain⟨ob1,hk1,hh1,hl1⟩:=ah Y
 have K3:=hide (ah KR w2 k ob1 hl1 hh1 (Nat.lt_of_lt_of_le (ah HM) hk1))
 clear K2 KR Y hk1 hh1 hl1 HM x0 x1 x2 x3 x4 x5 x6 x7 x8 x9 x10 x11 x12
 go_wp2_with fail
 go_at_call 57
 refine(ah K3).mono ?_
 rintro e w3 ⟨k2,c,rfl,Y⟩
 obtain⟨w4,p1,hs,hc,K4⟩:=ah Y
 have KW:=hide K4
 obtain⟨a1,a2⟩:=ah A1
 clear K3 Y K4 A1
 generalize (at0:Int)=ai at *
 generalize G.blk - at0=bl at *
 generalize c - at0=cl at *
 go_wp2_with fail
 go_at_call 58
 refine(ah KW).mono ?_
 rintro e w5 ⟨rfl,Z⟩
 clear KW hs hc
 go_wp2_with fail
 go_ret
 exact⟨rfl,Z⟩
theorem size_alloc (u:World)(x:Obj):(u.alloc x).heap.size=u.heap.size+1:=by simp
theorem Lp.new2 {w P G E g o rows i V F V' K u}(h:Lp w P G E g o rows i V F V' K u)(x y:Obj):Lp w P G E g o ((u.heap.size+1,y)::(u.heap.size,x)::rows) i V F V' K ((u.alloc x).alloc y):=by
 have:=(h.new x).new y
 rwa [size_alloc] at this
theorem Lp.yD {w P G E g o rows i V F V' K u}(h:Lp w P G E g o rows i V F V' K u)(x y z:Obj):Lp w P G E g o ((u.heap.size+2,z)::(u.heap.size+1,y)::(u.heap.size,x)::rows) i V F V' K (((u.alloc x).alloc y).alloc z):=by
 have:=(h.new2 x y).new z
 rwa [size_alloc,size_alloc] at this
theorem Lp.akH {w P G E g o rows i V F V' K u}(h:Lp w P G E g o rows i V F V' K u)(x y z q:Obj):Lp w P G E g o ((u.heap.size+3,q)::(u.heap.size+2,z)::(u.heap.size+1,y)::(u.heap.size,x)::rows) i V F V' K ((((u.alloc x).alloc y).alloc z).alloc q):=by
 have:=(h.yD x y z).new q
 rwa [size_alloc,size_alloc,size_alloc] at this
theorem aj {u:World}{k:Nat}{v:Value}{t:TypeId}(h:u.heap[k]?=some (.cells #[v] t)):u.cell? ⟨k,0,none⟩=some v:=by simp[World.cell?,h]
def ptZ (zs:List Int) (s:Nat) (n:Int):List Int:=put zs (2*s) (digits 2 n)
theorem afe {w P G E g o rows i V F V' K u}(h:Lp w P G E g o rows i V F V' K u){a tb b s:Nat}(n:Int)(ht:(tb,tbO a P)∈rows)(hb:E b=true)(hs:2*s+2<=G.blk)(hn:0<=n/\n<65536) :
  Calls Tryz.prog 171 #[.pointer (some ⟨tb,0,none⟩),.pointer (some ⟨o,0,none⟩),.int .i64 (b:Int),.int .i64 (s:Int),.int .i64 n] u fun e u'=>e=.returned (.int .i64 0)/\Hid (Lp w P G E g o rows i V F (fun q=>if q=b then ptZ (V' b) s n else V' q) K u'):=by
 have hbk:=h.ok.ok.blk
 have hvb:=h.vb hb
 have KR:=hide (jy h ht hb)
 have KP:Hid (∀ v k c ob,Dr c G.blk (V' b) ob->Lp w P G E g o ((k,ob)::rows) i V F V' K v->Calls Tryz.prog 177 #[.slice (some ⟨k,0,none⟩) G.blk c,.int .i64 ((s:Int)*2),.int .i64 2,.int .i64 n] v fun e w'=>∃ g2,e=.returned (.tuple #[.slice (some ⟨g2,0,none⟩) G.blk G.blk,.int .i64 0])/\Hid (Calls Tryz.prog 58 #[.pointer (some ⟨o,0,none⟩),.int .i64 (b:Int),.slice (some ⟨g2,0,none⟩) G.blk G.blk] w' fun e u2=>e=.returned (.int .i64 0)/\Hid (Lp w P G E g o rows i V F (fun q=>if q=b then ptZ (V' b) s n else V' q) K u2))):=fun v k c ob hd hl=>by
  have hr:=hd.row (hl.row (x:=(k,ob)) (by simp)) (by omega) hvb.2
  refine(put_any _ _ _ _ ((s:Int)*2) 2 n v hr (by omega)).mono ?_
  rintro e w' ⟨b1,x⟩
  have e0:fF G.blk ((s:Int)*2) 2 n=0:=by
   have:cZ G.blk ((s:Int)*2) 2=0:=by
    have:=gW (len:=G.blk) (at0:=2*s) (wd:=2) (by omega) (by omega)
    rwa [show ((2*s:Nat):Int)=(s:Int)*2 by omega] at this
   unfold fF
   rw[if_pos this,if_neg (by omega),if_pos (by show n<256 ^ 2;omega)]
  rcases x with x | ⟨_,g2,rfl,hg,hB⟩
  ·exact absurd e0 x.1
  ·refine⟨g2,rfl,?_⟩
   have e1:((s:Int)*2).toNat=2*s:=by omega
   rw[e1] at hB
   have hl2:(ptZ (V' b) s n).length=G.blk:=by
    unfold ptZ
    rw[gY _ _ _ (by rw[length_digits,hvb.1];omega),hvb.1]
   refine(yY ((hl.later b1).pop) hb (some ⟨g2,0,none⟩) G.blk (ptZ (V' b) s n) (Block.row (zs:=ptZ (V' b) s n) hB hl2 (by omega) (aad _ _ _ hvb.2 (jS 2 n)))).mono ?_
   rintro e u2 ⟨rfl,Z⟩
   exact⟨rfl,Z⟩
 have s0:(0:Int)<=(s:Int)/\(s:Int)<=4096:=by omega
 obtain⟨s1,s2⟩:=s0
 clear h ht hb hs hbk hvb hn
 generalize (fun q=>if q=b then ptZ (V' b) s n else V' q)=V2 at *
 generalize (b:Int)=bi at *
 generalize (s:Int)=si at *
 go_enter Tryz.func171,Tryz.ntmps171
 go_wp2_with fail
 go_at_call 57
 refine(ah KR).mono ?_
 rintro e w1 ⟨k,c,rfl,Y⟩
 obtain⟨ob,hd,_,hl⟩:=ah Y
 have K2:=hide (ah KP w1 k c ob hd hl)
 clear KR KP Y hd hl
 go_wp2_with fail
 go_at_call 177
 refine(ah K2).mono ?_
 rintro e w2 ⟨g2,rfl,K3⟩
 clear K2 s1 s2
 go_wp2_with fail
 go_at_call 58
 refine(ah K3).mono ?_
 rintro e w3 ⟨rfl,Z⟩
 clear K3
 go_wp2_with fail
 go_ret
 exact⟨rfl,Z⟩
theorem ac1 {w P G E g o rows i V F V' K u}(h:Lp w P G E g o rows i V F V' K u){a tb b s m0 m1 m2 m3:Nat}(n:Int)(ht:(tb,tbO a P)∈rows)(r0:(m0,zC tb 29)∈rows)(r1:(m1,zC o 32)∈rows)(r2:(m2,zI (b:Int))∈rows)(r3:(m3,zI (s:Int))∈rows)(hb:E b=true)(hs:2*s+2<=G.blk)(hn:0<=n/\n<65536) :
  Calls Tryz.prog 170 #[.int .i64 n,.pointer (some ⟨m0,0,none⟩),.pointer (some ⟨m1,0,none⟩),.pointer (some ⟨m2,0,none⟩),.pointer (some ⟨m3,0,none⟩)] u fun e u'=>e=.returned (.int .i64 0)/\Hid (Lp w P G E g o rows i V F (fun q=>if q=b then ptZ (V' b) s n else V' q) K u'):=by
 have K1:=hide (afe h n ht hb hs hn)
 have c0:=aj (h.row r0)
 have c1:=aj (h.row r1)
 have c2:=aj (h.row r2)
 have c3:=aj (h.row r3)
 clear h ht r0 r1 r2 r3 hb hs hn
 generalize (fun q=>if q=b then ptZ (V' b) s n else V' q)=V2 at *
 generalize (b:Int)=bi at *
 generalize (s:Int)=si at *
 go_enter Tryz.func170,Tryz.ntmps170
 go_wp2_with fail
 go_at_call 171
 refine(ah K1).mono ?_
 rintro e w1 ⟨rfl,Z⟩
 clear K1 c0 c1 c2 c3
 go_wp2_with fail
 go_ret
 exact⟨rfl,Z⟩
theorem zT {w P G E g o}{rows:List (Nat×Obj)}{i V F V' K u}{a tb bk at0 xg kx fc m0 m1 m2:Nat}{X:Nat->Int}(h:Lp w P G E g o ((xg,.cells (Ic X) 50)::rows) i V F V' K u)(j n:Int)(ht:(tb,tbO a P)∈rows)(rf:(fc,.cells #[.pointer (some ⟨xg,kx,none⟩)] 179)∈rows)(r0:(m0,zC tb 29)∈rows)(r1:(m1,zC o 32)∈rows)(r2:(m2,zI j)∈rows)(h0:0<w.heap.size)(hx:w.heap.size<=xg)(hne:∀ y∈rows,y.1≠xg)(e1:gU P j=0)(e2:jE P j=(bk:Int))(e3:jF P j=(at0:Int))(hfit:at0+32<=G.blk)(hb:E bk=true)(hk:kx<13)(hi:bP (bU X kx n)) :
  Calls Tryz.prog 104 #[.int .i64 n,.pointer (some ⟨fc,0,none⟩),.pointer (some ⟨m0,0,none⟩),.pointer (some ⟨m1,0,none⟩),.pointer (some ⟨m2,0,none⟩),.pointer (some ⟨xg,0,none⟩)] u fun e u'=>e=.returned (.int .i64 0)/\Hid (Lp w P G E g o ((xg,.cells (Ic (bU X kx n)) 50)::rows) i V F (fun q=>if q=bk then put (V' bk) at0 (bW 32 (dG (bU X kx n))) else V' q) K u'):=by
 have hB:Bl u xg (Ic X) 50:=h.row (x:=(xg,.cells (Ic X) 50)) (by simp)
 have hB2:Bl (u.setCell ⟨xg,kx,none⟩ (.int .i64 n)) xg (Ic (bU X kx n)) 50:=by
  have:=hB.set kx (.int .i64 n)
  rwa [ahf X kx n hk] at this
 have H1:=hide (h.swap hx h0 hne (fun q hq=>Below.heap_setCell _ _ _ _ hq) ((Below.refl _ _).setCell (p:=⟨xg,kx,none⟩) hx _) hB2)
 have cx:∃ v,u.cell? ⟨xg,kx,none⟩=some (.int .i64 v):=by
  have:kx=0\/kx=1\/kx=2\/kx=3\/kx=4\/kx=5\/kx=6\/kx=7\/kx=8\/kx=9\/kx=10\/kx=11\/kx=12:=by omega
  rcases this with rfl | rfl | rfl | rfl | rfl | rfl | rfl | rfl | rfl | rfl | rfl | rfl | rfl<;>exact⟨_,hB.cell _ _ rfl⟩
 obtain⟨vx,cx⟩:=cx
 have fx:=hB.free kx
 have c0:u.cell? ⟨fc,0,none⟩=some (.pointer (some ⟨xg,kx,none⟩)):=aj (h.row (List.mem_cons_of_mem _ rf))
 have KP:=hide (xE (ah H1) (bU X kx n) j (List.mem_cons_of_mem _ ht) h0 e1 e2 e3 hfit hb hi)
 have d0:=aj ((ah H1).row (List.mem_cons_of_mem _ r0))
 have d1:=aj ((ah H1).row (List.mem_cons_of_mem _ r1))
 have d2:=aj ((ah H1).row (List.mem_cons_of_mem _ r2))
 have HB2:=hide hB2
 clear h hB hB2 ht rf r0 r1 r2 h0 hx hne e1 e2 e3 hfit hb hk hi H1
 generalize (fun q=>if q=bk then put (V' bk) at0 (bW 32 (dG (bU X kx n))) else V' q)=V2 at *
 generalize bU X kx n=X2 at *
 go_enter Tryz.func104,Tryz.ntmps104
 go_upto_region 2 with fail
 generalize u.setCell ⟨xg,kx,none⟩ (.int .i64 n)=w1 at *
 have x0:=(ah HB2).cell 0 (.int .i64 (X2 0)) rfl
 have x1:=(ah HB2).cell 1 (.int .i64 (X2 1)) rfl
 have x2:=(ah HB2).cell 2 (.int .i64 (X2 2)) rfl
 have x3:=(ah HB2).cell 3 (.int .i64 (X2 3)) rfl
 have x4:=(ah HB2).cell 4 (.int .i64 (X2 4)) rfl
 have x5:=(ah HB2).cell 5 (.int .i64 (X2 5)) rfl
 have x6:=(ah HB2).cell 6 (.int .i64 (X2 6)) rfl
 have x7:=(ah HB2).cell 7 (.int .i64 (X2 7)) rfl
 have x8:=(ah HB2).cell 8 (.int .i64 (X2 8)) rfl
 have x9:=(ah HB2).cell 9 (.int .i64 (X2 9)) rfl
 have x10:=(ah HB2).cell 10 (.int .i64 (X2 10)) rfl
 have x11:=(ah HB2).cell 11 (.int .i64 (X2 11)) rfl
 have x12:=(ah HB2).cell 12 (.int .i64 (X2 12)) rfl
 clear HB2 cx fx c0
 go_wp2_with fail
 go_at_call 17
 refine(ah KP).mono ?_
 rintro e w2 ⟨rfl,Z⟩
 clear KP d0 d1 d2 x0 x1 x2 x3 x4 x5 x6 x7 x8 x9 x10 x11 x12
 go_wp2_with fail
 go_ret
 exact⟨rfl,Z⟩
def pof (s:Nat):Nat:=if s=8 then 11 else if s=9 then 12 else 3+s
theorem aO (xg s:Nat)(u:World)(hs:s<=9) :
  Calls Tryz.prog 103 #[.pointer (some ⟨xg,0,none⟩),.int .i64 (s:Int)] u fun e u'=>e=.returned (.pointer (some ⟨xg,pof s,none⟩))/\u=u':=by
 have:s=0\/s=1\/s=2\/s=3\/s=4\/s=5\/s=6\/s=7\/s=8\/s=9:=by omega
 rcases this with rfl | rfl | rfl | rfl | rfl | rfl | rfl | rfl | rfl | rfl
 all_goals
  go_enter Tryz.func103,Tryz.ntmps103
  go_wp2_with fail
  go_ret
  exact⟨rfl,rfl⟩
theorem jB {w P G E g o rows i V F V' K u}(h:Lp w P G E g o rows i V F V' K u){a:Nat}{bb da ni:Nat}(hA:Ab P G E bb da ni)(ha:(a,alO g P)∈rows)(h0:0<w.heap.size){nb:Nat}(hn:fG (V' bb) K da G.n=nb)(hlt:nb<G.n) :
  Calls Tryz.prog 106 #[.pointer (some ⟨a,0,none⟩),.pointer (some ⟨o,0,none⟩)] u fun e u'=>e=.returned (.tuple #[.int .i64 (nb:Int),.int .i64 0])/\Hid (Lp w P G E g o rows i V F (fun j=>if j=bb then setB (V' bb) nb true else V' j) K u'):=by
 have:=aa5 h hA ha h0
 unfold tkN tkE tkZ at this
 rw[hn,if_neg (by omega),if_neg (by omega),if_neg (by omega)] at this
 exact this
theorem nJ {w P G E g o rows i V F V' K u}(h:Lp w P G E g o rows i V F V' K u){a:Nat}{bb da ni:Nat}(hA:Ab P G E bb da ni)(ha:(a,alO g P)∈rows)(h0:0<w.heap.size)(hn:fG (V' bb) K da G.n=G.n) :
  Calls Tryz.prog 106 #[.pointer (some ⟨a,0,none⟩),.pointer (some ⟨o,0,none⟩)] u fun e u'=>e=.returned (.tuple #[.int .i64 0,.int .i64 10])/\Hid (Lp w P G E g o rows i V F V' K u'):=by
 have:=aa5 h hA ha h0
 unfold tkN tkE tkZ at this
 rw[hn,if_pos rfl,if_pos rfl,if_pos rfl] at this
 refine this.mono ?_
 rintro e u' ⟨rfl,Z⟩
 refine⟨rfl,?_⟩
 have e:(fun j=>if j=bb then V' bb else V' j)=V':=by
  funext j
  by_cases e:j=bb
  ·simp[e]
  ·simp[e]
 rw[e] at Z
 exact Z
theorem oQ {w P G E g o}{rows:List (Nat×Obj)}{i V F V' K u}{a tb bk at0 xg kx fc m0 m1 m2:Nat}{X:Nat->Int}{j:Int}(h:Lp w P G E g o ((xg,.cells (Ic X) 50)::rows) i V F V' K u){bb da ni:Nat}(hA:Ab P G E bb da ni)(la:Bool)(ht:(tb,tbO a P)∈rows)(ha:(a,alO g P)∈rows)(h0:0<w.heap.size)(hn:fG (V' bb) K da G.n=G.n) :
  Calls Tryz.prog 46 #[.pointer (some ⟨tb,0,none⟩),.pointer (some ⟨o,0,none⟩),.agg #[.int .i64 0,.bool la,.func (.func 104) #[] #[.pointer (some ⟨fc,0,none⟩),.pointer (some ⟨m0,0,none⟩),.pointer (some ⟨m1,0,none⟩),.pointer (some ⟨m2,0,none⟩),.pointer (some ⟨xg,0,none⟩)]]] u fun e u'=>e=.returned (.tuple #[.int .i64 0,.int .i64 10])/\Hid (Lp w P G E g o ((xg,.cells (Ic X) 50)::rows) i V F V' K u'):=by
 have L0:=hide (h.new (.cells #[.int .i64 0,.bool la,.func (.func 104) #[] #[.pointer (some ⟨fc,0,none⟩),.pointer (some ⟨m0,0,none⟩),.pointer (some ⟨m1,0,none⟩),.pointer (some ⟨m2,0,none⟩),.pointer (some ⟨xg,0,none⟩)]] 105))
 have KB:=hide (nJ (ah L0) hA (List.mem_cons_of_mem _ (List.mem_cons_of_mem _ ha)) h0 hn)
 have c0:(u.alloc (.cells #[.int .i64 0,.bool la,.func (.func 104) #[] #[.pointer (some ⟨fc,0,none⟩),.pointer (some ⟨m0,0,none⟩),.pointer (some ⟨m1,0,none⟩),.pointer (some ⟨m2,0,none⟩),.pointer (some ⟨xg,0,none⟩)]] 105)).cell? ⟨tb,0,none⟩=some (.pointer (some ⟨a,0,none⟩)):=by
  have hb:Bl _ tb (tbA a P) 123:=(ah L0).row (List.mem_cons_of_mem _ (List.mem_cons_of_mem _ ht))
  exact hb.cell 0 _ rfl
 clear h hA ht ha h0 hn L0
 go_enter Tryz.func46,Tryz.ntmps46
 go_upto_region 1 with fail
 change Code.wp _ _ _ _ (u.alloc (.cells #[.int .i64 0,.bool la,.func (.func 104) #[] #[.pointer (some ⟨fc,0,none⟩),.pointer (some ⟨m0,0,none⟩),.pointer (some ⟨m1,0,none⟩),.pointer (some ⟨m2,0,none⟩),.pointer (some ⟨xg,0,none⟩)]] 105))
 generalize u.alloc (.cells #[.int .i64 0,.bool la,.func (.func 104) #[] #[.pointer (some ⟨fc,0,none⟩),.pointer (some ⟨m0,0,none⟩),.pointer (some ⟨m1,0,none⟩),.pointer (some ⟨m2,0,none⟩),.pointer (some ⟨xg,0,none⟩)]] 105)=w0 at *
 generalize u.heap.size=m at *
 go_wp2_with fail
 go_at_call 106
 refine(ah KB).mono ?_
 rintro e w1 ⟨rfl,Z⟩
 clear KB c0
 go_wp2_with fail
 go_ret2
 exact⟨rfl,hide (ah Z).pop⟩
theorem oP {w P G E g o}{rows:List (Nat×Obj)}{i V F V' K u}{a tb bk at0 xg kx fc m0 m1 m2:Nat}{X:Nat->Int}{j:Int}(h:Lp w P G E g o ((xg,.cells (Ic X) 50)::rows) i V F V' K u){bb da ni:Nat}(hA:Ab P G E bb da ni)(ht:(tb,tbO a P)∈rows)(ha:(a,alO g P)∈rows)(h0:0<w.heap.size)(rf:(fc,.cells #[.pointer (some ⟨xg,kx,none⟩)] 179)∈rows)(r0:(m0,zC tb 29)∈rows)(r1:(m1,zC o 32)∈rows)(r2:(m2,zI j)∈rows)(hx:w.heap.size<=xg)(hne:∀ y∈rows,y.1≠xg)(e1:gU P j=0)(e2:jE P j=(bk:Int))(e3:jF P j=(at0:Int))(hfit:at0+32<=G.blk)(hb:E bk=true)(hk:kx<13){nb:Nat}(hn:fG (V' bb) K da G.n=nb)(hlt:nb<G.n)(hi:bP (bU X kx (nb:Int))) :
  Calls Tryz.prog 46 #[.pointer (some ⟨tb,0,none⟩),.pointer (some ⟨o,0,none⟩),.agg #[.int .i64 0,.bool true,.func (.func 104) #[] #[.pointer (some ⟨fc,0,none⟩),.pointer (some ⟨m0,0,none⟩),.pointer (some ⟨m1,0,none⟩),.pointer (some ⟨m2,0,none⟩),.pointer (some ⟨xg,0,none⟩)]]] u fun e u'=>e=.returned (.tuple #[.int .i64 (nb:Int),.int .i64 0])/\Hid (Lp w P G E g o ((xg,.cells (Ic (bU X kx (nb:Int))) 50)::rows) i V F (fun q=>if q=bk then put ((fun j=>if j=bb then setB (V' bb) nb true else V' j) bk) at0 (bW 32 (dG (bU X kx (nb:Int)))) else (fun j=>if j=bb then setB (V' bb) nb true else V' j) q) K u'):=by
 have hbk:=h.ok.ok.blk
 have hnm:G.n<=4096:=h.ok.ok.n2
 have hp0:=h.ok.p0
 have L0:=hide (h.new (.cells #[.int .i64 0,.bool true,.func (.func 104) #[] #[.pointer (some ⟨fc,0,none⟩),.pointer (some ⟨m0,0,none⟩),.pointer (some ⟨m1,0,none⟩),.pointer (some ⟨m2,0,none⟩),.pointer (some ⟨xg,0,none⟩)]] 105))
 have KB:=hide (jB (ah L0) hA (List.mem_cons_of_mem _ (List.mem_cons_of_mem _ ha)) h0 hn hlt)
 have KN:Hid (∀ v,Lp w P G E g o ((u.heap.size,(.cells #[.int .i64 0,.bool true,.func (.func 104) #[] #[.pointer (some ⟨fc,0,none⟩),.pointer (some ⟨m0,0,none⟩),.pointer (some ⟨m1,0,none⟩),.pointer (some ⟨m2,0,none⟩),.pointer (some ⟨xg,0,none⟩)]] 105))::((xg,.cells (Ic X) 50)::rows)) i V F (fun j=>if j=bb then setB (V' bb) nb true else V' j) K v->Calls Tryz.prog 104 #[.int .i64 (nb:Int),.pointer (some ⟨fc,0,none⟩),.pointer (some ⟨m0,0,none⟩),.pointer (some ⟨m1,0,none⟩),.pointer (some ⟨m2,0,none⟩),.pointer (some ⟨xg,0,none⟩)] v fun e u2=>e=.returned (.int .i64 0)/\Hid (Lp w P G E g o ((u.heap.size,(.cells #[.int .i64 0,.bool true,.func (.func 104) #[] #[.pointer (some ⟨fc,0,none⟩),.pointer (some ⟨m0,0,none⟩),.pointer (some ⟨m1,0,none⟩),.pointer (some ⟨m2,0,none⟩),.pointer (some ⟨xg,0,none⟩)]] 105))::((xg,.cells (Ic (bU X kx (nb:Int))) 50)::rows)) i V F (fun q=>if q=bk then put ((fun j=>if j=bb then setB (V' bb) nb true else V' j) bk) at0 (bW 32 (dG (bU X kx (nb:Int)))) else (fun j=>if j=bb then setB (V' bb) nb true else V' j) q) K u2)):=fun v hv=>by
  have h1:=zT (X:=X) (rows:=(u.heap.size,(.cells #[.int .i64 0,.bool true,.func (.func 104) #[] #[.pointer (some ⟨fc,0,none⟩),.pointer (some ⟨m0,0,none⟩),.pointer (some ⟨m1,0,none⟩),.pointer (some ⟨m2,0,none⟩),.pointer (some ⟨xg,0,none⟩)]] 105))::rows) (hv.sub aK) j (nb:Int) (List.mem_cons_of_mem _ ht) (List.mem_cons_of_mem _ rf) (List.mem_cons_of_mem _ r0) (List.mem_cons_of_mem _ r1) (List.mem_cons_of_mem _ r2) h0 hx (fun y hy=>by
   rcases List.mem_cons.1 hy with e | e
   ·subst e
    have:=h.lt (x:=(xg,.cells (Ic X) 50)) (by simp)
    simp only at this ⊢
    omega
   ·exact hne y e) e1 e2 e3 hfit hb hk hi
  refine h1.mono ?_
  rintro e u2 ⟨rfl,Z⟩
  exact⟨rfl,(ah Z).sub aK⟩
 have HT:Hid (∀ v,Lp w P G E g o ((u.heap.size,(.cells #[.int .i64 0,.bool true,.func (.func 104) #[] #[.pointer (some ⟨fc,0,none⟩),.pointer (some ⟨m0,0,none⟩),.pointer (some ⟨m1,0,none⟩),.pointer (some ⟨m2,0,none⟩),.pointer (some ⟨xg,0,none⟩)]] 105))::((xg,.cells (Ic X) 50)::rows)) i V F (fun j=>if j=bb then setB (V' bb) nb true else V' j) K v->Bl v u.heap.size #[.int .i64 0,.bool true,.func (.func 104) #[] #[.pointer (some ⟨fc,0,none⟩),.pointer (some ⟨m0,0,none⟩),.pointer (some ⟨m1,0,none⟩),.pointer (some ⟨m2,0,none⟩),.pointer (some ⟨xg,0,none⟩)]] 105):=fun v hv=>hv.row (x:=(u.heap.size,(.cells #[.int .i64 0,.bool true,.func (.func 104) #[] #[.pointer (some ⟨fc,0,none⟩),.pointer (some ⟨m0,0,none⟩),.pointer (some ⟨m1,0,none⟩),.pointer (some ⟨m2,0,none⟩),.pointer (some ⟨xg,0,none⟩)]] 105))) (by simp)
 have c0:(u.alloc (.cells #[.int .i64 0,.bool true,.func (.func 104) #[] #[.pointer (some ⟨fc,0,none⟩),.pointer (some ⟨m0,0,none⟩),.pointer (some ⟨m1,0,none⟩),.pointer (some ⟨m2,0,none⟩),.pointer (some ⟨xg,0,none⟩)]] 105)).cell? ⟨tb,0,none⟩=some (.pointer (some ⟨a,0,none⟩)):=by
  have hb:Bl _ tb (tbA a P) 123:=(ah L0).row (List.mem_cons_of_mem _ (List.mem_cons_of_mem _ ht))
  exact hb.cell 0 _ rfl
 have HT2:Hid (∀ v,Lp w P G E g o ((u.heap.size,(.cells #[.int .i64 0,.bool true,.func (.func 104) #[] #[.pointer (some ⟨fc,0,none⟩),.pointer (some ⟨m0,0,none⟩),.pointer (some ⟨m1,0,none⟩),.pointer (some ⟨m2,0,none⟩),.pointer (some ⟨xg,0,none⟩)]] 105))::((xg,.cells (Ic (bU X kx (nb:Int))) 50)::rows)) i V F (fun q=>if q=bk then put ((fun j=>if j=bb then setB (V' bb) nb true else V' j) bk) at0 (bW 32 (dG (bU X kx (nb:Int)))) else (fun j=>if j=bb then setB (V' bb) nb true else V' j) q) K v->Bl v u.heap.size #[.int .i64 0,.bool true,.func (.func 104) #[] #[.pointer (some ⟨fc,0,none⟩),.pointer (some ⟨m0,0,none⟩),.pointer (some ⟨m1,0,none⟩),.pointer (some ⟨m2,0,none⟩),.pointer (some ⟨xg,0,none⟩)]] 105/\v.cell? ⟨tb,1,none⟩=some (.int .i64 (G.blk:Int))):=fun v hv=>⟨hv.row (x:=(u.heap.size,(.cells #[.int .i64 0,.bool true,.func (.func 104) #[] #[.pointer (some ⟨fc,0,none⟩),.pointer (some ⟨m0,0,none⟩),.pointer (some ⟨m1,0,none⟩),.pointer (some ⟨m2,0,none⟩),.pointer (some ⟨xg,0,none⟩)]] 105))) (by simp),by
  have:=(aS (hv.row (List.mem_cons_of_mem _ (List.mem_cons_of_mem _ ht)))).1
  rwa [hp0] at this⟩
 clear h hA ht ha h0 hn hlt hbk hnm hp0 L0 hx hne e1 e2 e3 hfit hb hk rf r0 r1 r2 hi
 generalize (fun q=>if q=bk then put ((fun j=>if j=bb then setB (V' bb) nb true else V' j) bk) at0 (bW 32 (dG (bU X kx (nb:Int)))) else (fun j=>if j=bb then setB (V' bb) nb true else V' j) q)=VX at *
 generalize (fun j=>if j=bb then setB (V' bb) nb true else V' j)=VW at *
 generalize bU X kx (nb:Int)=X2 at *
 generalize (nb:Int)=ni at *
 go_enter Tryz.func46,Tryz.ntmps46
 go_upto_region 1 with fail
 change Code.wp _ _ _ _ (u.alloc (.cells #[.int .i64 0,.bool true,.func (.func 104) #[] #[.pointer (some ⟨fc,0,none⟩),.pointer (some ⟨m0,0,none⟩),.pointer (some ⟨m1,0,none⟩),.pointer (some ⟨m2,0,none⟩),.pointer (some ⟨xg,0,none⟩)]] 105))
 generalize u.alloc (.cells #[.int .i64 0,.bool true,.func (.func 104) #[] #[.pointer (some ⟨fc,0,none⟩),.pointer (some ⟨m0,0,none⟩),.pointer (some ⟨m1,0,none⟩),.pointer (some ⟨m2,0,none⟩),.pointer (some ⟨xg,0,none⟩)]] 105)=w0 at *
 generalize u.heap.size=m at *
 go_wp2_with fail
 go_at_call 106
 refine(ah KB).mono ?_
 rintro e w1 ⟨rfl,Z⟩
 have K2:=hide (ah KN w1 (ah Z))
 have bl:=ah HT w1 (ah Z)
 have y0:=bl.cell 0 _ rfl
 have y1:=bl.cell 1 _ rfl
 have y2:=bl.cell 2 _ rfl
 clear KB KN HT Z bl c0
 go_wp2_with fail
 go_at_call 104
 refine(ah K2).mono ?_
 rintro e w2 ⟨rfl,Z⟩
 have bl:=(ah HT2 w2 (ah Z)).1
 have z1:=bl.cell 1 _ rfl
 have z2:=(ah HT2 w2 (ah Z)).2
 clear K2 HT2 bl y0 y1 y2
 go_wp2_with fail
 go_ret2
 exact⟨rfl,hide (ah Z).pop⟩
theorem oO {w P G E g o}{rows:List (Nat×Obj)}{i V F V' K u}{a tb bk at0 xg kx fc m0 m1 m2:Nat}{X:Nat->Int}{j:Int}(h:Lp w P G E g o ((xg,.cells (Ic X) 50)::rows) i V F V' K u){bb da ni:Nat}(hA:Ab P G E bb da ni)(ht:(tb,tbO a P)∈rows)(ha:(a,alO g P)∈rows)(h0:0<w.heap.size)(rf:(fc,.cells #[.pointer (some ⟨xg,kx,none⟩)] 179)∈rows)(r0:(m0,zC tb 29)∈rows)(r1:(m1,zC o 32)∈rows)(r2:(m2,zI j)∈rows)(hx:w.heap.size<=xg)(hne:∀ y∈rows,y.1≠xg)(e1:gU P j=0)(e2:jE P j=(bk:Int))(e3:jF P j=(at0:Int))(hfit:at0+32<=G.blk)(hb:E bk=true)(hk:kx<13){nb:Nat}(hn:fG (V' bb) K da G.n=nb)(hlt:nb<G.n)(hd:da<=nb)(hi:bP (bU X kx (nb:Int))) :
  Calls Tryz.prog 46 #[.pointer (some ⟨tb,0,none⟩),.pointer (some ⟨o,0,none⟩),.agg #[.int .i64 0,.bool false,.func (.func 104) #[] #[.pointer (some ⟨fc,0,none⟩),.pointer (some ⟨m0,0,none⟩),.pointer (some ⟨m1,0,none⟩),.pointer (some ⟨m2,0,none⟩),.pointer (some ⟨xg,0,none⟩)]]] u fun e u'=>e=.returned (.tuple #[.int .i64 (nb:Int),.int .i64 0])/\Hid (Lp w P G (fun j=>if j=nb then true else E j) g o ((xg,.cells (Ic (bU X kx (nb:Int))) 50)::rows) i V F (fun q=>if q=nb then (List.replicate G.blk 0) else (fun q=>if q=bk then put ((fun j=>if j=bb then setB (V' bb) nb true else V' j) bk) at0 (bW 32 (dG (bU X kx (nb:Int)))) else (fun j=>if j=bb then setB (V' bb) nb true else V' j) q) q) K u'):=by
 have hbk:=h.ok.ok.blk
 have hnm:G.n<=4096:=h.ok.ok.n2
 have hp0:=h.ok.p0
 have L0:=hide (h.new (.cells #[.int .i64 0,.bool false,.func (.func 104) #[] #[.pointer (some ⟨fc,0,none⟩),.pointer (some ⟨m0,0,none⟩),.pointer (some ⟨m1,0,none⟩),.pointer (some ⟨m2,0,none⟩),.pointer (some ⟨xg,0,none⟩)]] 105))
 have KB:=hide (jB (ah L0) hA (List.mem_cons_of_mem _ (List.mem_cons_of_mem _ ha)) h0 hn hlt)
 have KN:Hid (∀ v,Lp w P G E g o ((u.heap.size,(.cells #[.int .i64 0,.bool false,.func (.func 104) #[] #[.pointer (some ⟨fc,0,none⟩),.pointer (some ⟨m0,0,none⟩),.pointer (some ⟨m1,0,none⟩),.pointer (some ⟨m2,0,none⟩),.pointer (some ⟨xg,0,none⟩)]] 105))::((xg,.cells (Ic X) 50)::rows)) i V F (fun j=>if j=bb then setB (V' bb) nb true else V' j) K v->Calls Tryz.prog 104 #[.int .i64 (nb:Int),.pointer (some ⟨fc,0,none⟩),.pointer (some ⟨m0,0,none⟩),.pointer (some ⟨m1,0,none⟩),.pointer (some ⟨m2,0,none⟩),.pointer (some ⟨xg,0,none⟩)] v fun e u2=>e=.returned (.int .i64 0)/\Hid (Lp w P G E g o ((u.heap.size,(.cells #[.int .i64 0,.bool false,.func (.func 104) #[] #[.pointer (some ⟨fc,0,none⟩),.pointer (some ⟨m0,0,none⟩),.pointer (some ⟨m1,0,none⟩),.pointer (some ⟨m2,0,none⟩),.pointer (some ⟨xg,0,none⟩)]] 105))::((xg,.cells (Ic (bU X kx (nb:Int))) 50)::rows)) i V F (fun q=>if q=bk then put ((fun j=>if j=bb then setB (V' bb) nb true else V' j) bk) at0 (bW 32 (dG (bU X kx (nb:Int)))) else (fun j=>if j=bb then setB (V' bb) nb true else V' j) q) K u2)):=fun v hv=>by
  have h1:=zT (X:=X) (rows:=(u.heap.size,(.cells #[.int .i64 0,.bool false,.func (.func 104) #[] #[.pointer (some ⟨fc,0,none⟩),.pointer (some ⟨m0,0,none⟩),.pointer (some ⟨m1,0,none⟩),.pointer (some ⟨m2,0,none⟩),.pointer (some ⟨xg,0,none⟩)]] 105))::rows) (hv.sub aK) j (nb:Int) (List.mem_cons_of_mem _ ht) (List.mem_cons_of_mem _ rf) (List.mem_cons_of_mem _ r0) (List.mem_cons_of_mem _ r1) (List.mem_cons_of_mem _ r2) h0 hx (fun y hy=>by
   rcases List.mem_cons.1 hy with e | e
   ·subst e
    have:=h.lt (x:=(xg,.cells (Ic X) 50)) (by simp)
    simp only at this ⊢
    omega
   ·exact hne y e) e1 e2 e3 hfit hb hk hi
  refine h1.mono ?_
  rintro e u2 ⟨rfl,Z⟩
  exact⟨rfl,(ah Z).sub aK⟩
 have HT:Hid (∀ v,Lp w P G E g o ((u.heap.size,(.cells #[.int .i64 0,.bool false,.func (.func 104) #[] #[.pointer (some ⟨fc,0,none⟩),.pointer (some ⟨m0,0,none⟩),.pointer (some ⟨m1,0,none⟩),.pointer (some ⟨m2,0,none⟩),.pointer (some ⟨xg,0,none⟩)]] 105))::((xg,.cells (Ic X) 50)::rows)) i V F (fun j=>if j=bb then setB (V' bb) nb true else V' j) K v->Bl v u.heap.size #[.int .i64 0,.bool false,.func (.func 104) #[] #[.pointer (some ⟨fc,0,none⟩),.pointer (some ⟨m0,0,none⟩),.pointer (some ⟨m1,0,none⟩),.pointer (some ⟨m2,0,none⟩),.pointer (some ⟨xg,0,none⟩)]] 105):=fun v hv=>hv.row (x:=(u.heap.size,(.cells #[.int .i64 0,.bool false,.func (.func 104) #[] #[.pointer (some ⟨fc,0,none⟩),.pointer (some ⟨m0,0,none⟩),.pointer (some ⟨m1,0,none⟩),.pointer (some ⟨m2,0,none⟩),.pointer (some ⟨xg,0,none⟩)]] 105))) (by simp)
 have c0:(u.alloc (.cells #[.int .i64 0,.bool false,.func (.func 104) #[] #[.pointer (some ⟨fc,0,none⟩),.pointer (some ⟨m0,0,none⟩),.pointer (some ⟨m1,0,none⟩),.pointer (some ⟨m2,0,none⟩),.pointer (some ⟨xg,0,none⟩)]] 105)).cell? ⟨tb,0,none⟩=some (.pointer (some ⟨a,0,none⟩)):=by
  have hb:Bl _ tb (tbA a P) 123:=(ah L0).row (List.mem_cons_of_mem _ (List.mem_cons_of_mem _ ht))
  exact hb.cell 0 _ rfl
 have HT2:Hid (∀ v,Lp w P G E g o ((u.heap.size,(.cells #[.int .i64 0,.bool false,.func (.func 104) #[] #[.pointer (some ⟨fc,0,none⟩),.pointer (some ⟨m0,0,none⟩),.pointer (some ⟨m1,0,none⟩),.pointer (some ⟨m2,0,none⟩),.pointer (some ⟨xg,0,none⟩)]] 105))::((xg,.cells (Ic (bU X kx (nb:Int))) 50)::rows)) i V F (fun q=>if q=bk then put ((fun j=>if j=bb then setB (V' bb) nb true else V' j) bk) at0 (bW 32 (dG (bU X kx (nb:Int)))) else (fun j=>if j=bb then setB (V' bb) nb true else V' j) q) K v->Bl v u.heap.size #[.int .i64 0,.bool false,.func (.func 104) #[] #[.pointer (some ⟨fc,0,none⟩),.pointer (some ⟨m0,0,none⟩),.pointer (some ⟨m1,0,none⟩),.pointer (some ⟨m2,0,none⟩),.pointer (some ⟨xg,0,none⟩)]] 105/\v.cell? ⟨tb,1,none⟩=some (.int .i64 (G.blk:Int))):=fun v hv=>⟨hv.row (x:=(u.heap.size,(.cells #[.int .i64 0,.bool false,.func (.func 104) #[] #[.pointer (some ⟨fc,0,none⟩),.pointer (some ⟨m0,0,none⟩),.pointer (some ⟨m1,0,none⟩),.pointer (some ⟨m2,0,none⟩),.pointer (some ⟨xg,0,none⟩)]] 105))) (by simp),by
  have:=(aS (hv.row (List.mem_cons_of_mem _ (List.mem_cons_of_mem _ ht)))).1
  rwa [hp0] at this⟩
 have hKn:K nb=false:=((tq (V' bb) K (f:=da) (t:=G.n) hA.dn).2.2 (by omega) |> fun x=>by rw[hn] at x;exact x.2)
 have ajI:=hA.p11
 have KW:Hid (∀ v,Lp w P G E g o ((u.heap.size,(.cells #[.int .i64 0,.bool false,.func (.func 104) #[] #[.pointer (some ⟨fc,0,none⟩),.pointer (some ⟨m0,0,none⟩),.pointer (some ⟨m1,0,none⟩),.pointer (some ⟨m2,0,none⟩),.pointer (some ⟨xg,0,none⟩)]] 105))::((xg,.cells (Ic (bU X kx (nb:Int))) 50)::rows)) i V F (fun q=>if q=bk then put ((fun j=>if j=bb then setB (V' bb) nb true else V' j) bk) at0 (bW 32 (dG (bU X kx (nb:Int)))) else (fun j=>if j=bb then setB (V' bb) nb true else V' j) q) K v->Calls Tryz.prog 58 #[.pointer (some ⟨o,0,none⟩),.int .i64 (nb:Int),.slice (some ⟨v.heap.size,0,none⟩) G.blk G.blk] (v.alloc (.cells (madeCells #[.int .u8 0] G.blk) 5)) fun e u2=>e=.returned (.int .i64 0)/\Hid (Lp w P G (fun j=>if j=nb then true else E j) g o ((xg,.cells (Ic (bU X kx (nb:Int))) 50)::rows) i V F (fun q=>if q=nb then (List.replicate G.blk 0) else (fun q=>if q=bk then put ((fun j=>if j=bb then setB (V' bb) nb true else V' j) bk) at0 (bW 32 (dG (bU X kx (nb:Int)))) else (fun j=>if j=bb then setB (V' bb) nb true else V' j) q) q) K u2)):=fun v hv=>by
  have hB:=iF v G.blk
  refine(tu (hv.later ((Below.refl _ _).alloc (Nat.le_refl _) (.cells (madeCells #[.int .u8 0] G.blk) 5))) (.inr ⟨by rw[ajI];omega,hlt,hKn⟩) (some ⟨v.heap.size,0,none⟩) G.blk (List.replicate G.blk 0) (hB.row (by simp) (by omega) (fun z hz=>by have:=List.eq_of_mem_replicate hz;omega))).mono ?_
  rintro e u2 ⟨rfl,Z⟩
  exact⟨rfl,(ah Z).pop⟩
 have hmk:=run_make_row' (P:=Tryz.prog) 62 5 (.int .u8 0) 1 Tryz.underlying62 info5 rfl .i64 .i64 G.blk (by omega) (by omega)
 clear h hA ht ha h0 hn hlt hbk hnm hp0 L0 hx hne e1 e2 e3 hfit hb hk rf r0 r1 r2 hi hd hKn ajI
 generalize (fun q=>if q=nb then (List.replicate G.blk 0) else (fun q=>if q=bk then put ((fun j=>if j=bb then setB (V' bb) nb true else V' j) bk) at0 (bW 32 (dG (bU X kx (nb:Int)))) else (fun j=>if j=bb then setB (V' bb) nb true else V' j) q) q)=VX at *
 generalize (fun q=>if q=bk then put ((fun j=>if j=bb then setB (V' bb) nb true else V' j) bk) at0 (bW 32 (dG (bU X kx (nb:Int)))) else (fun j=>if j=bb then setB (V' bb) nb true else V' j) q)=VY at *
 generalize (fun j=>if j=bb then setB (V' bb) nb true else V' j)=VW at *
 generalize bU X kx (nb:Int)=X2 at *
 generalize (nb:Int)=ni at *
 go_enter Tryz.func46,Tryz.ntmps46
 go_upto_region 1 with fail
 change Code.wp _ _ _ _ (u.alloc (.cells #[.int .i64 0,.bool false,.func (.func 104) #[] #[.pointer (some ⟨fc,0,none⟩),.pointer (some ⟨m0,0,none⟩),.pointer (some ⟨m1,0,none⟩),.pointer (some ⟨m2,0,none⟩),.pointer (some ⟨xg,0,none⟩)]] 105))
 generalize u.alloc (.cells #[.int .i64 0,.bool false,.func (.func 104) #[] #[.pointer (some ⟨fc,0,none⟩),.pointer (some ⟨m0,0,none⟩),.pointer (some ⟨m1,0,none⟩),.pointer (some ⟨m2,0,none⟩),.pointer (some ⟨xg,0,none⟩)]] 105)=w0 at *
 generalize u.heap.size=m at *
 go_wp2_with fail
 go_at_call 106
 refine(ah KB).mono ?_
 rintro e w1 ⟨rfl,Z⟩
 have K2:=hide (ah KN w1 (ah Z))
 have bl:=ah HT w1 (ah Z)
 have y0:=bl.cell 0 _ rfl
 have y1:=bl.cell 1 _ rfl
 have y2:=bl.cell 2 _ rfl
 clear KB KN HT Z bl c0
 go_wp2_with fail
 go_at_call 104
 refine(ah K2).mono ?_
 rintro e w2 ⟨rfl,Z⟩
 have bl:=(ah HT2 w2 (ah Z)).1
 have z1:=bl.cell 1 _ rfl
 have z2:=(ah HT2 w2 (ah Z)).2
 have K3:=hide (ah KW w2 (ah Z))
 clear K2 HT2 KW bl y0 y1 y2 Z
 go_wp2_with fail
 go_at_call 58
 refine(ah K3).mono ?_
 rintro e w3 ⟨rfl,Z⟩
 clear K3 z1 z2 hmk
 go_wp2_with fail
 go_ret2
 exact⟨rfl,Z⟩
theorem oW {w P G E g o rows i V F V' K u}{a tb b s m0 m1 m2 m3:Nat}(h:Lp w P G E g o rows i V F V' K u){bb da ni:Nat}(hA:Ab P G E bb da ni)(la:Bool)(ht:(tb,tbO a P)∈rows)(ha:(a,alO g P)∈rows)(h0:0<w.heap.size)(hn:fG (V' bb) K da G.n=G.n) :
  Calls Tryz.prog 46 #[.pointer (some ⟨tb,0,none⟩),.pointer (some ⟨o,0,none⟩),.agg #[.int .i64 0,.bool la,.func (.func 170) #[] #[.pointer (some ⟨m0,0,none⟩),.pointer (some ⟨m1,0,none⟩),.pointer (some ⟨m2,0,none⟩),.pointer (some ⟨m3,0,none⟩)]]] u fun e u'=>e=.returned (.tuple #[.int .i64 0,.int .i64 10])/\Hid (Lp w P G E g o rows i V F V' K u'):=by
 have L0:=hide (h.new (.cells #[.int .i64 0,.bool la,.func (.func 170) #[] #[.pointer (some ⟨m0,0,none⟩),.pointer (some ⟨m1,0,none⟩),.pointer (some ⟨m2,0,none⟩),.pointer (some ⟨m3,0,none⟩)]] 105))
 have KB:=hide (nJ (ah L0) hA (List.mem_cons_of_mem _ ha) h0 hn)
 have c0:(u.alloc (.cells #[.int .i64 0,.bool la,.func (.func 170) #[] #[.pointer (some ⟨m0,0,none⟩),.pointer (some ⟨m1,0,none⟩),.pointer (some ⟨m2,0,none⟩),.pointer (some ⟨m3,0,none⟩)]] 105)).cell? ⟨tb,0,none⟩=some (.pointer (some ⟨a,0,none⟩)):=by
  have hb:Bl _ tb (tbA a P) 123:=(ah L0).row (List.mem_cons_of_mem _ ht)
  exact hb.cell 0 _ rfl
 clear h hA ht ha h0 hn L0
 go_enter Tryz.func46,Tryz.ntmps46
 go_upto_region 1 with fail
 change Code.wp _ _ _ _ (u.alloc (.cells #[.int .i64 0,.bool la,.func (.func 170) #[] #[.pointer (some ⟨m0,0,none⟩),.pointer (some ⟨m1,0,none⟩),.pointer (some ⟨m2,0,none⟩),.pointer (some ⟨m3,0,none⟩)]] 105))
 generalize u.alloc (.cells #[.int .i64 0,.bool la,.func (.func 170) #[] #[.pointer (some ⟨m0,0,none⟩),.pointer (some ⟨m1,0,none⟩),.pointer (some ⟨m2,0,none⟩),.pointer (some ⟨m3,0,none⟩)]] 105)=w0 at *
 generalize u.heap.size=m at *
 go_wp2_with fail
 go_at_call 106
 refine(ah KB).mono ?_
 rintro e w1 ⟨rfl,Z⟩
 clear KB c0
 go_wp2_with fail
 go_ret2
 exact⟨rfl,hide (ah Z).pop⟩
theorem oV {w P G E g o rows i V F V' K u}{a tb b s m0 m1 m2 m3:Nat}(h:Lp w P G E g o rows i V F V' K u){bb da ni:Nat}(hA:Ab P G E bb da ni)(ht:(tb,tbO a P)∈rows)(ha:(a,alO g P)∈rows)(h0:0<w.heap.size)(r0:(m0,zC tb 29)∈rows)(r1:(m1,zC o 32)∈rows)(r2:(m2,zI (b:Int))∈rows)(r3:(m3,zI (s:Int))∈rows)(hb:E b=true)(hs:2*s+2<=G.blk){nb:Nat}(hn:fG (V' bb) K da G.n=nb)(hlt:nb<G.n) :
  Calls Tryz.prog 46 #[.pointer (some ⟨tb,0,none⟩),.pointer (some ⟨o,0,none⟩),.agg #[.int .i64 0,.bool true,.func (.func 170) #[] #[.pointer (some ⟨m0,0,none⟩),.pointer (some ⟨m1,0,none⟩),.pointer (some ⟨m2,0,none⟩),.pointer (some ⟨m3,0,none⟩)]]] u fun e u'=>e=.returned (.tuple #[.int .i64 (nb:Int),.int .i64 0])/\Hid (Lp w P G E g o rows i V F (fun q=>if q=b then ptZ ((fun j=>if j=bb then setB (V' bb) nb true else V' j) b) s (nb:Int) else (fun j=>if j=bb then setB (V' bb) nb true else V' j) q) K u'):=by
 have hbk:=h.ok.ok.blk
 have hnm:G.n<=4096:=h.ok.ok.n2
 have hp0:=h.ok.p0
 have L0:=hide (h.new (.cells #[.int .i64 0,.bool true,.func (.func 170) #[] #[.pointer (some ⟨m0,0,none⟩),.pointer (some ⟨m1,0,none⟩),.pointer (some ⟨m2,0,none⟩),.pointer (some ⟨m3,0,none⟩)]] 105))
 have KB:=hide (jB (ah L0) hA (List.mem_cons_of_mem _ ha) h0 hn hlt)
 have KN:Hid (∀ v,Lp w P G E g o ((u.heap.size,(.cells #[.int .i64 0,.bool true,.func (.func 170) #[] #[.pointer (some ⟨m0,0,none⟩),.pointer (some ⟨m1,0,none⟩),.pointer (some ⟨m2,0,none⟩),.pointer (some ⟨m3,0,none⟩)]] 105))::rows) i V F (fun j=>if j=bb then setB (V' bb) nb true else V' j) K v->Calls Tryz.prog 170 #[.int .i64 (nb:Int),.pointer (some ⟨m0,0,none⟩),.pointer (some ⟨m1,0,none⟩),.pointer (some ⟨m2,0,none⟩),.pointer (some ⟨m3,0,none⟩)] v fun e u2=>e=.returned (.int .i64 0)/\Hid (Lp w P G E g o ((u.heap.size,(.cells #[.int .i64 0,.bool true,.func (.func 170) #[] #[.pointer (some ⟨m0,0,none⟩),.pointer (some ⟨m1,0,none⟩),.pointer (some ⟨m2,0,none⟩),.pointer (some ⟨m3,0,none⟩)]] 105))::rows) i V F (fun q=>if q=b then ptZ ((fun j=>if j=bb then setB (V' bb) nb true else V' j) b) s (nb:Int) else (fun j=>if j=bb then setB (V' bb) nb true else V' j) q) K u2)):=fun v hv=>by
  have h1:=ac1 hv (nb:Int) (List.mem_cons_of_mem _ ht) (List.mem_cons_of_mem _ r0) (List.mem_cons_of_mem _ r1) (List.mem_cons_of_mem _ r2) (List.mem_cons_of_mem _ r3) hb hs (by omega)
  exact h1
 have HT:Hid (∀ v,Lp w P G E g o ((u.heap.size,(.cells #[.int .i64 0,.bool true,.func (.func 170) #[] #[.pointer (some ⟨m0,0,none⟩),.pointer (some ⟨m1,0,none⟩),.pointer (some ⟨m2,0,none⟩),.pointer (some ⟨m3,0,none⟩)]] 105))::rows) i V F (fun j=>if j=bb then setB (V' bb) nb true else V' j) K v->Bl v u.heap.size #[.int .i64 0,.bool true,.func (.func 170) #[] #[.pointer (some ⟨m0,0,none⟩),.pointer (some ⟨m1,0,none⟩),.pointer (some ⟨m2,0,none⟩),.pointer (some ⟨m3,0,none⟩)]] 105):=fun v hv=>hv.row (x:=(u.heap.size,(.cells #[.int .i64 0,.bool true,.func (.func 170) #[] #[.pointer (some ⟨m0,0,none⟩),.pointer (some ⟨m1,0,none⟩),.pointer (some ⟨m2,0,none⟩),.pointer (some ⟨m3,0,none⟩)]] 105))) (by simp)
 have c0:(u.alloc (.cells #[.int .i64 0,.bool true,.func (.func 170) #[] #[.pointer (some ⟨m0,0,none⟩),.pointer (some ⟨m1,0,none⟩),.pointer (some ⟨m2,0,none⟩),.pointer (some ⟨m3,0,none⟩)]] 105)).cell? ⟨tb,0,none⟩=some (.pointer (some ⟨a,0,none⟩)):=by
  have hb:Bl _ tb (tbA a P) 123:=(ah L0).row (List.mem_cons_of_mem _ ht)
  exact hb.cell 0 _ rfl
 have HT2:Hid (∀ v,Lp w P G E g o ((u.heap.size,(.cells #[.int .i64 0,.bool true,.func (.func 170) #[] #[.pointer (some ⟨m0,0,none⟩),.pointer (some ⟨m1,0,none⟩),.pointer (some ⟨m2,0,none⟩),.pointer (some ⟨m3,0,none⟩)]] 105))::rows) i V F (fun q=>if q=b then ptZ ((fun j=>if j=bb then setB (V' bb) nb true else V' j) b) s (nb:Int) else (fun j=>if j=bb then setB (V' bb) nb true else V' j) q) K v->Bl v u.heap.size #[.int .i64 0,.bool true,.func (.func 170) #[] #[.pointer (some ⟨m0,0,none⟩),.pointer (some ⟨m1,0,none⟩),.pointer (some ⟨m2,0,none⟩),.pointer (some ⟨m3,0,none⟩)]] 105/\v.cell? ⟨tb,1,none⟩=some (.int .i64 (G.blk:Int))):=fun v hv=>⟨hv.row (x:=(u.heap.size,(.cells #[.int .i64 0,.bool true,.func (.func 170) #[] #[.pointer (some ⟨m0,0,none⟩),.pointer (some ⟨m1,0,none⟩),.pointer (some ⟨m2,0,none⟩),.pointer (some ⟨m3,0,none⟩)]] 105))) (by simp),by
  have:=(aS (hv.row (List.mem_cons_of_mem _ ht))).1
  rwa [hp0] at this⟩
 clear h hA ht ha h0 hn hlt hbk hnm hp0 L0 hb hs r0 r1 r2 r3
 generalize (fun q=>if q=b then ptZ ((fun j=>if j=bb then setB (V' bb) nb true else V' j) b) s (nb:Int) else (fun j=>if j=bb then setB (V' bb) nb true else V' j) q)=VX at *
 generalize (fun j=>if j=bb then setB (V' bb) nb true else V' j)=VW at *
 generalize (nb:Int)=ni at *
 go_enter Tryz.func46,Tryz.ntmps46
 go_upto_region 1 with fail
 change Code.wp _ _ _ _ (u.alloc (.cells #[.int .i64 0,.bool true,.func (.func 170) #[] #[.pointer (some ⟨m0,0,none⟩),.pointer (some ⟨m1,0,none⟩),.pointer (some ⟨m2,0,none⟩),.pointer (some ⟨m3,0,none⟩)]] 105))
 generalize u.alloc (.cells #[.int .i64 0,.bool true,.func (.func 170) #[] #[.pointer (some ⟨m0,0,none⟩),.pointer (some ⟨m1,0,none⟩),.pointer (some ⟨m2,0,none⟩),.pointer (some ⟨m3,0,none⟩)]] 105)=w0 at *
 generalize u.heap.size=m at *
 go_wp2_with fail
 go_at_call 106
 refine(ah KB).mono ?_
 rintro e w1 ⟨rfl,Z⟩
 have K2:=hide (ah KN w1 (ah Z))
 have bl:=ah HT w1 (ah Z)
 have y0:=bl.cell 0 _ rfl
 have y1:=bl.cell 1 _ rfl
 have y2:=bl.cell 2 _ rfl
 clear KB KN HT Z bl c0
 go_wp2_with fail
 go_at_call 170
 refine(ah K2).mono ?_
 rintro e w2 ⟨rfl,Z⟩
 have bl:=(ah HT2 w2 (ah Z)).1
 have z1:=bl.cell 1 _ rfl
 have z2:=(ah HT2 w2 (ah Z)).2
 clear K2 HT2 bl y0 y1 y2
 go_wp2_with fail
 go_ret2
 exact⟨rfl,hide (ah Z).pop⟩
theorem oU {w P G E g o rows i V F V' K u}{a tb b s m0 m1 m2 m3:Nat}(h:Lp w P G E g o rows i V F V' K u){bb da ni:Nat}(hA:Ab P G E bb da ni)(ht:(tb,tbO a P)∈rows)(ha:(a,alO g P)∈rows)(h0:0<w.heap.size)(r0:(m0,zC tb 29)∈rows)(r1:(m1,zC o 32)∈rows)(r2:(m2,zI (b:Int))∈rows)(r3:(m3,zI (s:Int))∈rows)(hb:E b=true)(hs:2*s+2<=G.blk){nb:Nat}(hn:fG (V' bb) K da G.n=nb)(hlt:nb<G.n)(hd:da<=nb) :
  Calls Tryz.prog 46 #[.pointer (some ⟨tb,0,none⟩),.pointer (some ⟨o,0,none⟩),.agg #[.int .i64 0,.bool false,.func (.func 170) #[] #[.pointer (some ⟨m0,0,none⟩),.pointer (some ⟨m1,0,none⟩),.pointer (some ⟨m2,0,none⟩),.pointer (some ⟨m3,0,none⟩)]]] u fun e u'=>e=.returned (.tuple #[.int .i64 (nb:Int),.int .i64 0])/\Hid (Lp w P G (fun j=>if j=nb then true else E j) g o rows i V F (fun q=>if q=nb then (List.replicate G.blk 0) else (fun q=>if q=b then ptZ ((fun j=>if j=bb then setB (V' bb) nb true else V' j) b) s (nb:Int) else (fun j=>if j=bb then setB (V' bb) nb true else V' j) q) q) K u'):=by
 have hbk:=h.ok.ok.blk
 have hnm:G.n<=4096:=h.ok.ok.n2
 have hp0:=h.ok.p0
 have L0:=hide (h.new (.cells #[.int .i64 0,.bool false,.func (.func 170) #[] #[.pointer (some ⟨m0,0,none⟩),.pointer (some ⟨m1,0,none⟩),.pointer (some ⟨m2,0,none⟩),.pointer (some ⟨m3,0,none⟩)]] 105))
 have KB:=hide (jB (ah L0) hA (List.mem_cons_of_mem _ ha) h0 hn hlt)
 have KN:Hid (∀ v,Lp w P G E g o ((u.heap.size,(.cells #[.int .i64 0,.bool false,.func (.func 170) #[] #[.pointer (some ⟨m0,0,none⟩),.pointer (some ⟨m1,0,none⟩),.pointer (some ⟨m2,0,none⟩),.pointer (some ⟨m3,0,none⟩)]] 105))::rows) i V F (fun j=>if j=bb then setB (V' bb) nb true else V' j) K v->Calls Tryz.prog 170 #[.int .i64 (nb:Int),.pointer (some ⟨m0,0,none⟩),.pointer (some ⟨m1,0,none⟩),.pointer (some ⟨m2,0,none⟩),.pointer (some ⟨m3,0,none⟩)] v fun e u2=>e=.returned (.int .i64 0)/\Hid (Lp w P G E g o ((u.heap.size,(.cells #[.int .i64 0,.bool false,.func (.func 170) #[] #[.pointer (some ⟨m0,0,none⟩),.pointer (some ⟨m1,0,none⟩),.pointer (some ⟨m2,0,none⟩),.pointer (some ⟨m3,0,none⟩)]] 105))::rows) i V F (fun q=>if q=b then ptZ ((fun j=>if j=bb then setB (V' bb) nb true else V' j) b) s (nb:Int) else (fun j=>if j=bb then setB (V' bb) nb true else V' j) q) K u2)):=fun v hv=>by
  have h1:=ac1 hv (nb:Int) (List.mem_cons_of_mem _ ht) (List.mem_cons_of_mem _ r0) (List.mem_cons_of_mem _ r1) (List.mem_cons_of_mem _ r2) (List.mem_cons_of_mem _ r3) hb hs (by omega)
  exact h1
 have HT:Hid (∀ v,Lp w P G E g o ((u.heap.size,(.cells #[.int .i64 0,.bool false,.func (.func 170) #[] #[.pointer (some ⟨m0,0,none⟩),.pointer (some ⟨m1,0,none⟩),.pointer (some ⟨m2,0,none⟩),.pointer (some ⟨m3,0,none⟩)]] 105))::rows) i V F (fun j=>if j=bb then setB (V' bb) nb true else V' j) K v->Bl v u.heap.size #[.int .i64 0,.bool false,.func (.func 170) #[] #[.pointer (some ⟨m0,0,none⟩),.pointer (some ⟨m1,0,none⟩),.pointer (some ⟨m2,0,none⟩),.pointer (some ⟨m3,0,none⟩)]] 105):=fun v hv=>hv.row (x:=(u.heap.size,(.cells #[.int .i64 0,.bool false,.func (.func 170) #[] #[.pointer (some ⟨m0,0,none⟩),.pointer (some ⟨m1,0,none⟩),.pointer (some ⟨m2,0,none⟩),.pointer (some ⟨m3,0,none⟩)]] 105))) (by simp)
 have c0:(u.alloc (.cells #[.int .i64 0,.bool false,.func (.func 170) #[] #[.pointer (some ⟨m0,0,none⟩),.pointer (some ⟨m1,0,none⟩),.pointer (some ⟨m2,0,none⟩),.pointer (some ⟨m3,0,none⟩)]] 105)).cell? ⟨tb,0,none⟩=some (.pointer (some ⟨a,0,none⟩)):=by
  have hb:Bl _ tb (tbA a P) 123:=(ah L0).row (List.mem_cons_of_mem _ ht)
  exact hb.cell 0 _ rfl
 have HT2:Hid (∀ v,Lp w P G E g o ((u.heap.size,(.cells #[.int .i64 0,.bool false,.func (.func 170) #[] #[.pointer (some ⟨m0,0,none⟩),.pointer (some ⟨m1,0,none⟩),.pointer (some ⟨m2,0,none⟩),.pointer (some ⟨m3,0,none⟩)]] 105))::rows) i V F (fun q=>if q=b then ptZ ((fun j=>if j=bb then setB (V' bb) nb true else V' j) b) s (nb:Int) else (fun j=>if j=bb then setB (V' bb) nb true else V' j) q) K v->Bl v u.heap.size #[.int .i64 0,.bool false,.func (.func 170) #[] #[.pointer (some ⟨m0,0,none⟩),.pointer (some ⟨m1,0,none⟩),.pointer (some ⟨m2,0,none⟩),.pointer (some ⟨m3,0,none⟩)]] 105/\v.cell? ⟨tb,1,none⟩=some (.int .i64 (G.blk:Int))):=fun v hv=>⟨hv.row (x:=(u.heap.size,(.cells #[.int .i64 0,.bool false,.func (.func 170) #[] #[.pointer (some ⟨m0,0,none⟩),.pointer (some ⟨m1,0,none⟩),.pointer (some ⟨m2,0,none⟩),.pointer (some ⟨m3,0,none⟩)]] 105))) (by simp),by
  have:=(aS (hv.row (List.mem_cons_of_mem _ ht))).1
  rwa [hp0] at this⟩
 have hKn:K nb=false:=((tq (V' bb) K (f:=da) (t:=G.n) hA.dn).2.2 (by omega) |> fun x=>by rw[hn] at x;exact x.2)
 have ajI:=hA.p11
 have KW:Hid (∀ v,Lp w P G E g o ((u.heap.size,(.cells #[.int .i64 0,.bool false,.func (.func 170) #[] #[.pointer (some ⟨m0,0,none⟩),.pointer (some ⟨m1,0,none⟩),.pointer (some ⟨m2,0,none⟩),.pointer (some ⟨m3,0,none⟩)]] 105))::rows) i V F (fun q=>if q=b then ptZ ((fun j=>if j=bb then setB (V' bb) nb true else V' j) b) s (nb:Int) else (fun j=>if j=bb then setB (V' bb) nb true else V' j) q) K v->Calls Tryz.prog 58 #[.pointer (some ⟨o,0,none⟩),.int .i64 (nb:Int),.slice (some ⟨v.heap.size,0,none⟩) G.blk G.blk] (v.alloc (.cells (madeCells #[.int .u8 0] G.blk) 5)) fun e u2=>e=.returned (.int .i64 0)/\Hid (Lp w P G (fun j=>if j=nb then true else E j) g o rows i V F (fun q=>if q=nb then (List.replicate G.blk 0) else (fun q=>if q=b then ptZ ((fun j=>if j=bb then setB (V' bb) nb true else V' j) b) s (nb:Int) else (fun j=>if j=bb then setB (V' bb) nb true else V' j) q) q) K u2)):=fun v hv=>by
  have hB:=iF v G.blk
  refine(tu (hv.later ((Below.refl _ _).alloc (Nat.le_refl _) (.cells (madeCells #[.int .u8 0] G.blk) 5))) (.inr ⟨by rw[ajI];omega,hlt,hKn⟩) (some ⟨v.heap.size,0,none⟩) G.blk (List.replicate G.blk 0) (hB.row (by simp) (by omega) (fun z hz=>by have:=List.eq_of_mem_replicate hz;omega))).mono ?_
  rintro e u2 ⟨rfl,Z⟩
  exact⟨rfl,(ah Z).pop⟩
 have hmk:=run_make_row' (P:=Tryz.prog) 62 5 (.int .u8 0) 1 Tryz.underlying62 info5 rfl .i64 .i64 G.blk (by omega) (by omega)
 clear h hA ht ha h0 hn hlt hbk hnm hp0 L0 hb hs r0 r1 r2 r3 hd hKn ajI
 generalize (fun q=>if q=nb then (List.replicate G.blk 0) else (fun q=>if q=b then ptZ ((fun j=>if j=bb then setB (V' bb) nb true else V' j) b) s (nb:Int) else (fun j=>if j=bb then setB (V' bb) nb true else V' j) q) q)=VX at *
 generalize (fun q=>if q=b then ptZ ((fun j=>if j=bb then setB (V' bb) nb true else V' j) b) s (nb:Int) else (fun j=>if j=bb then setB (V' bb) nb true else V' j) q)=VY at *
 generalize (fun j=>if j=bb then setB (V' bb) nb true else V' j)=VW at *
 generalize (nb:Int)=ni at *
 go_enter Tryz.func46,Tryz.ntmps46
 go_upto_region 1 with fail
 change Code.wp _ _ _ _ (u.alloc (.cells #[.int .i64 0,.bool false,.func (.func 170) #[] #[.pointer (some ⟨m0,0,none⟩),.pointer (some ⟨m1,0,none⟩),.pointer (some ⟨m2,0,none⟩),.pointer (some ⟨m3,0,none⟩)]] 105))
 generalize u.alloc (.cells #[.int .i64 0,.bool false,.func (.func 170) #[] #[.pointer (some ⟨m0,0,none⟩),.pointer (some ⟨m1,0,none⟩),.pointer (some ⟨m2,0,none⟩),.pointer (some ⟨m3,0,none⟩)]] 105)=w0 at *
 generalize u.heap.size=m at *
 go_wp2_with fail
 go_at_call 106
 refine(ah KB).mono ?_
 rintro e w1 ⟨rfl,Z⟩
 have K2:=hide (ah KN w1 (ah Z))
 have bl:=ah HT w1 (ah Z)
 have y0:=bl.cell 0 _ rfl
 have y1:=bl.cell 1 _ rfl
 have y2:=bl.cell 2 _ rfl
 clear KB KN HT Z bl c0
 go_wp2_with fail
 go_at_call 170
 refine(ah K2).mono ?_
 rintro e w2 ⟨rfl,Z⟩
 have bl:=(ah HT2 w2 (ah Z)).1
 have z1:=bl.cell 1 _ rfl
 have z2:=(ah HT2 w2 (ah Z)).2
 have K3:=hide (ah KW w2 (ah Z))
 clear K2 HT2 KW bl y0 y1 y2 Z
 go_wp2_with fail
 go_at_call 58
 refine(ah K3).mono ?_
 rintro e w3 ⟨rfl,Z⟩
 clear K3 z1 z2 hmk
 go_wp2_with fail
 go_ret2
 exact⟨rfl,Z⟩
theorem yH {α:Type}{a b c:α}{l:List α}:∀ x∈c::a::b::l,x∈a::b::c::l:=fun x hx=>by
 simp only[List.mem_cons] at hx ⊢
 rcases hx with h | h | h | h<;>simp[h]
theorem yJ {α:Type}{a b c:α}{l:List α}:∀ x∈b::a::l,x∈a::b::c::l:=fun x hx=>by
 simp only[List.mem_cons] at hx ⊢
 rcases hx with h | h | h<;>simp[h]
theorem jd {α:Type}{a b:α}{l:List α}:∀ x∈a::l,x∈a::b::l:=fun x hx=>by
 simp only[List.mem_cons] at hx ⊢
 rcases hx with h | h<;>simp[h]
theorem vK {w P G E g o}{rows:List (Nat×Obj)}{i V F V' K u}{a tb bk at0 xg kx fc m0 m1 m2 fg tg og:Nat}{X:Nat->Int}{j:Int}{q:Bool}(h:Lp w P G E g o ((fg,zB q)::(xg,.cells (Ic X) 50)::rows) i V F V' K u)(pb:Int)(la:Bool)(hpb:pb≠0)(hwf:w.heap.size<=fg)(h0:0<w.heap.size)(hfg:∀ y∈((xg,.cells (Ic X) 50)::rows),y.1≠fg) :
  Calls Tryz.prog 45 #[.agg #[.int .i64 pb,.bool la,.func (.func 104) #[] #[.pointer (some ⟨fc,0,none⟩),.pointer (some ⟨m0,0,none⟩),.pointer (some ⟨m1,0,none⟩),.pointer (some ⟨m2,0,none⟩),.pointer (some ⟨xg,0,none⟩)]],.pointer (some ⟨fg,0,none⟩),.pointer (some ⟨tg,0,none⟩),.pointer (some ⟨og,0,none⟩)] u fun e u'=>e=.returned (.tuple #[.int .i64 pb,.int .i64 0])/\Hid (Lp w P G E g o ((fg,zB false)::(xg,.cells (Ic X) 50)::rows) i V F V' K u'):=by
 have hp1:(pb==0)=false:=by simpa using hpb
 have hlt:=h.lt (x:=(fg,zB q)) (by simp)
 have L0:=(h.new (.cells #[.int .i64 pb,.bool la,.func (.func 104) #[] #[.pointer (some ⟨fc,0,none⟩),.pointer (some ⟨m0,0,none⟩),.pointer (some ⟨m1,0,none⟩),.pointer (some ⟨m2,0,none⟩),.pointer (some ⟨xg,0,none⟩)]] 105)).sub aK
 have hB:Bl (u.alloc (.cells #[.int .i64 pb,.bool la,.func (.func 104) #[] #[.pointer (some ⟨fc,0,none⟩),.pointer (some ⟨m0,0,none⟩),.pointer (some ⟨m1,0,none⟩),.pointer (some ⟨m2,0,none⟩),.pointer (some ⟨xg,0,none⟩)]] 105)) fg #[.bool q] 4:=L0.row (x:=(fg,zB q)) (by simp)
 have B2:=Bl.new u #[.int .i64 pb,.bool la,.func (.func 104) #[] #[.pointer (some ⟨fc,0,none⟩),.pointer (some ⟨m0,0,none⟩),.pointer (some ⟨m1,0,none⟩),.pointer (some ⟨m2,0,none⟩),.pointer (some ⟨xg,0,none⟩)]] 105
 have L1:=hide (L0.swap hwf h0 (fun y hy=>by
  rcases List.mem_cons.1 hy with e | e
  ·subst e;simp only at hlt ⊢;omega
  ·exact hfg y e) (fun q hq=>Below.heap_setCell _ _ _ _ hq) ((Below.refl _ _).setCell (p:=⟨fg,0,none⟩) hwf _) (hB.set 0 (.bool false)))
 have g0:(u.alloc (.cells #[.int .i64 pb,.bool la,.func (.func 104) #[] #[.pointer (some ⟨fc,0,none⟩),.pointer (some ⟨m0,0,none⟩),.pointer (some ⟨m1,0,none⟩),.pointer (some ⟨m2,0,none⟩),.pointer (some ⟨xg,0,none⟩)]] 105)).cell? ⟨fg,0,none⟩=some (.bool q):=hB.cell 0 _ rfl
 have g1:=hB.free 0
 have b0:=B2.cell 0 _ rfl
 have b1:=B2.cell 1 _ rfl
 have b2:=B2.cell 2 _ rfl
 clear h hB B2 L0 hwf h0 hfg hpb hlt
 go_enter Tryz.func45,Tryz.ntmps45
 go_upto_region 1 with fail
 change Code.wp _ _ _ _ (u.alloc (.cells #[.int .i64 pb,.bool la,.func (.func 104) #[] #[.pointer (some ⟨fc,0,none⟩),.pointer (some ⟨m0,0,none⟩),.pointer (some ⟨m1,0,none⟩),.pointer (some ⟨m2,0,none⟩),.pointer (some ⟨xg,0,none⟩)]] 105))
 generalize (u.alloc (.cells #[.int .i64 pb,.bool la,.func (.func 104) #[] #[.pointer (some ⟨fc,0,none⟩),.pointer (some ⟨m0,0,none⟩),.pointer (some ⟨m1,0,none⟩),.pointer (some ⟨m2,0,none⟩),.pointer (some ⟨xg,0,none⟩)]] 105))=w0 at *
 generalize u.heap.size=m at *
 go_upto_region 2 with fail
 have bl1:Bl (w0.setCell ⟨fg,0,none⟩ (.bool false)) m #[.int .i64 pb,.bool la,.func (.func 104) #[] #[.pointer (some ⟨fc,0,none⟩),.pointer (some ⟨m0,0,none⟩),.pointer (some ⟨m1,0,none⟩),.pointer (some ⟨m2,0,none⟩),.pointer (some ⟨xg,0,none⟩)]] 105:=(ah L1).row (x:=(m,(.cells #[.int .i64 pb,.bool la,.func (.func 104) #[] #[.pointer (some ⟨fc,0,none⟩),.pointer (some ⟨m0,0,none⟩),.pointer (some ⟨m1,0,none⟩),.pointer (some ⟨m2,0,none⟩),.pointer (some ⟨xg,0,none⟩)]] 105))) (by simp)
 have bl2:Bl (w0.setCell ⟨fg,0,none⟩ (.bool false)) fg #[.bool false] 4:=(ah L1).row (x:=(fg,zB false)) (by simp)
 generalize w0.setCell ⟨fg,0,none⟩ (.bool false)=w1 at *
 have d0:=bl1.cell 0 _ rfl
 have d1:=bl2.cell 0 _ rfl
 clear bl1 bl2 b0 b1 b2 g0 g1
 go_wp2_with fail
 go_ret2
 exact⟨rfl,hide ((ah L1).sub jd)⟩
theorem sK {w P G E g o}{rows:List (Nat×Obj)}{i V F V' K u}{a tb bk at0 xg kx fc m0 m1 m2 fg tg og:Nat}{X:Nat->Int}{j:Int}{q:Bool}(h:Lp w P G E g o ((fg,zB q)::(xg,.cells (Ic X) 50)::rows) i V F V' K u){bb da ni:Nat}(hA:Ab P G E bb da ni)(ht:(tb,tbO a P)∈rows)(ha:(a,alO g P)∈rows)(rt:(tg,zC tb 29)∈rows)(ro:(og,zC o 32)∈rows)(hwf:w.heap.size<=fg)(h0:0<w.heap.size)(hfg:∀ y∈((xg,.cells (Ic X) 50)::rows),y.1≠fg)(la:Bool)(hn:fG (V' bb) K da G.n=G.n) :
  Calls Tryz.prog 45 #[.agg #[.int .i64 0,.bool la,.func (.func 104) #[] #[.pointer (some ⟨fc,0,none⟩),.pointer (some ⟨m0,0,none⟩),.pointer (some ⟨m1,0,none⟩),.pointer (some ⟨m2,0,none⟩),.pointer (some ⟨xg,0,none⟩)]],.pointer (some ⟨fg,0,none⟩),.pointer (some ⟨tg,0,none⟩),.pointer (some ⟨og,0,none⟩)] u fun e u'=>e=.returned (.tuple #[.int .i64 0,.int .i64 10])/\Hid (Lp w P G E g o ((fg,zB true)::(xg,.cells (Ic X) 50)::rows) i V F V' K u'):=by
 have hlt:=h.lt (x:=(fg,zB q)) (by simp)
 have L0:=(h.new (.cells #[.int .i64 0,.bool la,.func (.func 104) #[] #[.pointer (some ⟨fc,0,none⟩),.pointer (some ⟨m0,0,none⟩),.pointer (some ⟨m1,0,none⟩),.pointer (some ⟨m2,0,none⟩),.pointer (some ⟨xg,0,none⟩)]] 105)).sub aK
 have hB:Bl (u.alloc (.cells #[.int .i64 0,.bool la,.func (.func 104) #[] #[.pointer (some ⟨fc,0,none⟩),.pointer (some ⟨m0,0,none⟩),.pointer (some ⟨m1,0,none⟩),.pointer (some ⟨m2,0,none⟩),.pointer (some ⟨xg,0,none⟩)]] 105)) fg #[.bool q] 4:=L0.row (x:=(fg,zB q)) (by simp)
 have B2:=Bl.new u #[.int .i64 0,.bool la,.func (.func 104) #[] #[.pointer (some ⟨fc,0,none⟩),.pointer (some ⟨m0,0,none⟩),.pointer (some ⟨m1,0,none⟩),.pointer (some ⟨m2,0,none⟩),.pointer (some ⟨xg,0,none⟩)]] 105
 have L1:=hide (L0.swap hwf h0 (fun y hy=>by
  rcases List.mem_cons.1 hy with e | e
  ·subst e;simp only at hlt ⊢;omega
  ·exact hfg y e) (fun q hq=>Below.heap_setCell _ _ _ _ hq) ((Below.refl _ _).setCell (p:=⟨fg,0,none⟩) hwf _) (hB.set 0 (.bool true)))
 have g0:(u.alloc (.cells #[.int .i64 0,.bool la,.func (.func 104) #[] #[.pointer (some ⟨fc,0,none⟩),.pointer (some ⟨m0,0,none⟩),.pointer (some ⟨m1,0,none⟩),.pointer (some ⟨m2,0,none⟩),.pointer (some ⟨xg,0,none⟩)]] 105)).cell? ⟨fg,0,none⟩=some (.bool q):=hB.cell 0 _ rfl
 have g1:=hB.free 0
 have b0:=B2.cell 0 _ rfl
 have b1:=B2.cell 1 _ rfl
 have b2:=B2.cell 2 _ rfl
 have t0:=aj ((ah L1).row (List.mem_cons_of_mem _ (List.mem_cons_of_mem _ (List.mem_cons_of_mem _ rt))))
 have t1:=aj ((ah L1).row (List.mem_cons_of_mem _ (List.mem_cons_of_mem _ (List.mem_cons_of_mem _ ro))))
 have KF:=hide (oQ (X:=X) (bk:=bk) (at0:=at0) (kx:=kx) (j:=j) (fc:=fc) (m0:=m0) (m1:=m1) (m2:=m2) ((ah L1).sub yH) hA la (List.mem_cons_of_mem _ (List.mem_cons_of_mem _ ht)) (List.mem_cons_of_mem _ (List.mem_cons_of_mem _ ha)) h0 hn)
 clear h hB B2 L0 hwf h0 hfg hlt hA ht ha rt ro hn
 go_enter Tryz.func45,Tryz.ntmps45
 go_upto_region 1 with fail
 change Code.wp _ _ _ _ (u.alloc (.cells #[.int .i64 0,.bool la,.func (.func 104) #[] #[.pointer (some ⟨fc,0,none⟩),.pointer (some ⟨m0,0,none⟩),.pointer (some ⟨m1,0,none⟩),.pointer (some ⟨m2,0,none⟩),.pointer (some ⟨xg,0,none⟩)]] 105))
 generalize (u.alloc (.cells #[.int .i64 0,.bool la,.func (.func 104) #[] #[.pointer (some ⟨fc,0,none⟩),.pointer (some ⟨m0,0,none⟩),.pointer (some ⟨m1,0,none⟩),.pointer (some ⟨m2,0,none⟩),.pointer (some ⟨xg,0,none⟩)]] 105))=w0 at *
 generalize u.heap.size=m at *
 go_upto_region 2 with fail
 have bl1:Bl (w0.setCell ⟨fg,0,none⟩ (.bool true)) m #[.int .i64 0,.bool la,.func (.func 104) #[] #[.pointer (some ⟨fc,0,none⟩),.pointer (some ⟨m0,0,none⟩),.pointer (some ⟨m1,0,none⟩),.pointer (some ⟨m2,0,none⟩),.pointer (some ⟨xg,0,none⟩)]] 105:=(ah L1).row (x:=(m,(.cells #[.int .i64 0,.bool la,.func (.func 104) #[] #[.pointer (some ⟨fc,0,none⟩),.pointer (some ⟨m0,0,none⟩),.pointer (some ⟨m1,0,none⟩),.pointer (some ⟨m2,0,none⟩),.pointer (some ⟨xg,0,none⟩)]] 105))) (by simp)
 have bl2:Bl (w0.setCell ⟨fg,0,none⟩ (.bool true)) fg #[.bool true] 4:=(ah L1).row (x:=(fg,zB true)) (by simp)
 generalize w0.setCell ⟨fg,0,none⟩ (.bool true)=w1 at *
 have d0:=bl1.cell 0 _ rfl
 have d1:=bl1.cell 1 _ rfl
 have d2:=bl1.cell 2 _ rfl
 have d3:=bl2.cell 0 _ rfl
 clear bl1 bl2 b0 b1 b2 g0 g1 L1
 go_wp2_with fail
 go_at_call 46
 refine(ah KF).mono ?_
 rintro e w2 ⟨rfl,Z⟩
 clear KF t0 t1 d0 d1 d2 d3
 go_wp2_with fail
 go_ret2
 exact⟨rfl,hide ((ah Z).sub yJ)⟩
theorem kE {w P G E g o}{rows:List (Nat×Obj)}{i V F V' K u}{a tb bk at0 xg kx fc m0 m1 m2 fg tg og:Nat}{X:Nat->Int}{j:Int}{q:Bool}(h:Lp w P G E g o ((fg,zB q)::(xg,.cells (Ic X) 50)::rows) i V F V' K u){bb da ni:Nat}(hA:Ab P G E bb da ni)(ht:(tb,tbO a P)∈rows)(ha:(a,alO g P)∈rows)(rt:(tg,zC tb 29)∈rows)(ro:(og,zC o 32)∈rows)(hwf:w.heap.size<=fg)(h0:0<w.heap.size)(hfg:∀ y∈((xg,.cells (Ic X) 50)::rows),y.1≠fg)(rf:(fc,.cells #[.pointer (some ⟨xg,kx,none⟩)] 179)∈rows)(r0:(m0,zC tb 29)∈rows)(r1:(m1,zC o 32)∈rows)(r2:(m2,zI j)∈rows)(hx:w.heap.size<=xg)(hne:∀ y∈rows,y.1≠xg)(e1:gU P j=0)(e2:jE P j=(bk:Int))(e3:jF P j=(at0:Int))(hfit:at0+32<=G.blk)(hb:E bk=true)(hk:kx<13)(hfx:fg≠xg){nb:Nat}(hn:fG (V' bb) K da G.n=nb)(hlt2:nb<G.n)(hi:bP (bU X kx (nb:Int))) :
  Calls Tryz.prog 45 #[.agg #[.int .i64 0,.bool true,.func (.func 104) #[] #[.pointer (some ⟨fc,0,none⟩),.pointer (some ⟨m0,0,none⟩),.pointer (some ⟨m1,0,none⟩),.pointer (some ⟨m2,0,none⟩),.pointer (some ⟨xg,0,none⟩)]],.pointer (some ⟨fg,0,none⟩),.pointer (some ⟨tg,0,none⟩),.pointer (some ⟨og,0,none⟩)] u fun e u'=>e=.returned (.tuple #[.int .i64 (nb:Int),.int .i64 0])/\Hid (Lp w P G E g o ((fg,zB true)::(xg,.cells (Ic (bU X kx (nb:Int))) 50)::rows) i V F (fun q=>if q=bk then put ((fun j=>if j=bb then setB (V' bb) nb true else V' j) bk) at0 (bW 32 (dG (bU X kx (nb:Int)))) else (fun j=>if j=bb then setB (V' bb) nb true else V' j) q) K u'):=by
 have hlt:=h.lt (x:=(fg,zB q)) (by simp)
 have L0:=(h.new (.cells #[.int .i64 0,.bool true,.func (.func 104) #[] #[.pointer (some ⟨fc,0,none⟩),.pointer (some ⟨m0,0,none⟩),.pointer (some ⟨m1,0,none⟩),.pointer (some ⟨m2,0,none⟩),.pointer (some ⟨xg,0,none⟩)]] 105)).sub aK
 have hB:Bl (u.alloc (.cells #[.int .i64 0,.bool true,.func (.func 104) #[] #[.pointer (some ⟨fc,0,none⟩),.pointer (some ⟨m0,0,none⟩),.pointer (some ⟨m1,0,none⟩),.pointer (some ⟨m2,0,none⟩),.pointer (some ⟨xg,0,none⟩)]] 105)) fg #[.bool q] 4:=L0.row (x:=(fg,zB q)) (by simp)
 have B2:=Bl.new u #[.int .i64 0,.bool true,.func (.func 104) #[] #[.pointer (some ⟨fc,0,none⟩),.pointer (some ⟨m0,0,none⟩),.pointer (some ⟨m1,0,none⟩),.pointer (some ⟨m2,0,none⟩),.pointer (some ⟨xg,0,none⟩)]] 105
 have L1:=hide (L0.swap hwf h0 (fun y hy=>by
  rcases List.mem_cons.1 hy with e | e
  ·subst e;simp only at hlt ⊢;omega
  ·exact hfg y e) (fun q hq=>Below.heap_setCell _ _ _ _ hq) ((Below.refl _ _).setCell (p:=⟨fg,0,none⟩) hwf _) (hB.set 0 (.bool true)))
 have g0:(u.alloc (.cells #[.int .i64 0,.bool true,.func (.func 104) #[] #[.pointer (some ⟨fc,0,none⟩),.pointer (some ⟨m0,0,none⟩),.pointer (some ⟨m1,0,none⟩),.pointer (some ⟨m2,0,none⟩),.pointer (some ⟨xg,0,none⟩)]] 105)).cell? ⟨fg,0,none⟩=some (.bool q):=hB.cell 0 _ rfl
 have g1:=hB.free 0
 have b0:=B2.cell 0 _ rfl
 have b1:=B2.cell 1 _ rfl
 have b2:=B2.cell 2 _ rfl
 have t0:=aj ((ah L1).row (List.mem_cons_of_mem _ (List.mem_cons_of_mem _ (List.mem_cons_of_mem _ rt))))
 have t1:=aj ((ah L1).row (List.mem_cons_of_mem _ (List.mem_cons_of_mem _ (List.mem_cons_of_mem _ ro))))
 have KF:=hide (oP (X:=X) ((ah L1).sub yH) hA (List.mem_cons_of_mem _ (List.mem_cons_of_mem _ ht)) (List.mem_cons_of_mem _ (List.mem_cons_of_mem _ ha)) h0 (List.mem_cons_of_mem _ (List.mem_cons_of_mem _ rf)) (List.mem_cons_of_mem _ (List.mem_cons_of_mem _ r0)) (List.mem_cons_of_mem _ (List.mem_cons_of_mem _ r1)) (List.mem_cons_of_mem _ (List.mem_cons_of_mem _ r2)) hx (fun y hy=>by
   rcases List.mem_cons.1 hy with e | e
   ·subst e;exact hfx
   ·rcases List.mem_cons.1 e with e | e
    ·subst e
     have:=h.lt (x:=(xg,.cells (Ic X) 50)) (by simp)
     simp only at this ⊢
     omega
    ·exact hne y e) e1 e2 e3 hfit hb hk hn hlt2 hi)
 clear h hB B2 L0 hwf h0 hfg hlt hA ht ha rt ro hn hlt2 hx hne e1 e2 e3 hfit hb hk rf r0 r1 r2 hfx hi
 generalize (fun q=>if q=bk then put ((fun j=>if j=bb then setB (V' bb) nb true else V' j) bk) at0 (bW 32 (dG (bU X kx (nb:Int)))) else (fun j=>if j=bb then setB (V' bb) nb true else V' j) q)=VX at *
 generalize bU X kx (nb:Int)=X2 at *
 generalize (nb:Int)=ni at *
 go_enter Tryz.func45,Tryz.ntmps45
 go_upto_region 1 with fail
 change Code.wp _ _ _ _ (u.alloc (.cells #[.int .i64 0,.bool true,.func (.func 104) #[] #[.pointer (some ⟨fc,0,none⟩),.pointer (some ⟨m0,0,none⟩),.pointer (some ⟨m1,0,none⟩),.pointer (some ⟨m2,0,none⟩),.pointer (some ⟨xg,0,none⟩)]] 105))
 generalize (u.alloc (.cells #[.int .i64 0,.bool true,.func (.func 104) #[] #[.pointer (some ⟨fc,0,none⟩),.pointer (some ⟨m0,0,none⟩),.pointer (some ⟨m1,0,none⟩),.pointer (some ⟨m2,0,none⟩),.pointer (some ⟨xg,0,none⟩)]] 105))=w0 at *
 generalize u.heap.size=m at *
 go_upto_region 2 with fail
 have bl1:Bl (w0.setCell ⟨fg,0,none⟩ (.bool true)) m #[.int .i64 0,.bool true,.func (.func 104) #[] #[.pointer (some ⟨fc,0,none⟩),.pointer (some ⟨m0,0,none⟩),.pointer (some ⟨m1,0,none⟩),.pointer (some ⟨m2,0,none⟩),.pointer (some ⟨xg,0,none⟩)]] 105:=(ah L1).row (x:=(m,(.cells #[.int .i64 0,.bool true,.func (.func 104) #[] #[.pointer (some ⟨fc,0,none⟩),.pointer (some ⟨m0,0,none⟩),.pointer (some ⟨m1,0,none⟩),.pointer (some ⟨m2,0,none⟩),.pointer (some ⟨xg,0,none⟩)]] 105))) (by simp)
 have bl2:Bl (w0.setCell ⟨fg,0,none⟩ (.bool true)) fg #[.bool true] 4:=(ah L1).row (x:=(fg,zB true)) (by simp)
 generalize w0.setCell ⟨fg,0,none⟩ (.bool true)=w1 at *
 have d0:=bl1.cell 0 _ rfl
 have d1:=bl1.cell 1 _ rfl
 have d2:=bl1.cell 2 _ rfl
 have d3:=bl2.cell 0 _ rfl
 clear bl1 bl2 b0 b1 b2 g0 g1 L1
 go_wp2_with fail
 go_at_call 46
 refine(ah KF).mono ?_
 rintro e w2 ⟨rfl,Z⟩
 clear KF t0 t1 d0 d1 d2 d3
 go_wp2_with fail
 go_ret2
 exact⟨rfl,hide ((ah Z).sub yJ)⟩
theorem sJ {w P G E g o}{rows:List (Nat×Obj)}{i V F V' K u}{a tb bk at0 xg kx fc m0 m1 m2 fg tg og:Nat}{X:Nat->Int}{j:Int}{q:Bool}(h:Lp w P G E g o ((fg,zB q)::(xg,.cells (Ic X) 50)::rows) i V F V' K u){bb da ni:Nat}(hA:Ab P G E bb da ni)(ht:(tb,tbO a P)∈rows)(ha:(a,alO g P)∈rows)(rt:(tg,zC tb 29)∈rows)(ro:(og,zC o 32)∈rows)(hwf:w.heap.size<=fg)(h0:0<w.heap.size)(hfg:∀ y∈((xg,.cells (Ic X) 50)::rows),y.1≠fg)(rf:(fc,.cells #[.pointer (some ⟨xg,kx,none⟩)] 179)∈rows)(r0:(m0,zC tb 29)∈rows)(r1:(m1,zC o 32)∈rows)(r2:(m2,zI j)∈rows)(hx:w.heap.size<=xg)(hne:∀ y∈rows,y.1≠xg)(e1:gU P j=0)(e2:jE P j=(bk:Int))(e3:jF P j=(at0:Int))(hfit:at0+32<=G.blk)(hb:E bk=true)(hk:kx<13)(hfx:fg≠xg){nb:Nat}(hn:fG (V' bb) K da G.n=nb)(hlt2:nb<G.n)(hd:da<=nb)(hi:bP (bU X kx (nb:Int))) :
  Calls Tryz.prog 45 #[.agg #[.int .i64 0,.bool false,.func (.func 104) #[] #[.pointer (some ⟨fc,0,none⟩),.pointer (some ⟨m0,0,none⟩),.pointer (some ⟨m1,0,none⟩),.pointer (some ⟨m2,0,none⟩),.pointer (some ⟨xg,0,none⟩)]],.pointer (some ⟨fg,0,none⟩),.pointer (some ⟨tg,0,none⟩),.pointer (some ⟨og,0,none⟩)] u fun e u'=>e=.returned (.tuple #[.int .i64 (nb:Int),.int .i64 0])/\Hid (Lp w P G (fun j=>if j=nb then true else E j) g o ((fg,zB true)::(xg,.cells (Ic (bU X kx (nb:Int))) 50)::rows) i V F (fun q=>if q=nb then (List.replicate G.blk 0) else (fun q=>if q=bk then put ((fun j=>if j=bb then setB (V' bb) nb true else V' j) bk) at0 (bW 32 (dG (bU X kx (nb:Int)))) else (fun j=>if j=bb then setB (V' bb) nb true else V' j) q) q) K u'):=by
 have hlt:=h.lt (x:=(fg,zB q)) (by simp)
 have L0:=(h.new (.cells #[.int .i64 0,.bool false,.func (.func 104) #[] #[.pointer (some ⟨fc,0,none⟩),.pointer (some ⟨m0,0,none⟩),.pointer (some ⟨m1,0,none⟩),.pointer (some ⟨m2,0,none⟩),.pointer (some ⟨xg,0,none⟩)]] 105)).sub aK
 have hB:Bl (u.alloc (.cells #[.int .i64 0,.bool false,.func (.func 104) #[] #[.pointer (some ⟨fc,0,none⟩),.pointer (some ⟨m0,0,none⟩),.pointer (some ⟨m1,0,none⟩),.pointer (some ⟨m2,0,none⟩),.pointer (some ⟨xg,0,none⟩)]] 105)) fg #[.bool q] 4:=L0.row (x:=(fg,zB q)) (by simp)
 have B2:=Bl.new u #[.int .i64 0,.bool false,.func (.func 104) #[] #[.pointer (some ⟨fc,0,none⟩),.pointer (some ⟨m0,0,none⟩),.pointer (some ⟨m1,0,none⟩),.pointer (some ⟨m2,0,none⟩),.pointer (some ⟨xg,0,none⟩)]] 105
 have L1:=hide (L0.swap hwf h0 (fun y hy=>by
  rcases List.mem_cons.1 hy with e | e
  ·subst e;simp only at hlt ⊢;omega
  ·exact hfg y e) (fun q hq=>Below.heap_setCell _ _ _ _ hq) ((Below.refl _ _).setCell (p:=⟨fg,0,none⟩) hwf _) (hB.set 0 (.bool true)))
 have g0:(u.alloc (.cells #[.int .i64 0,.bool false,.func (.func 104) #[] #[.pointer (some ⟨fc,0,none⟩),.pointer (some ⟨m0,0,none⟩),.pointer (some ⟨m1,0,none⟩),.pointer (some ⟨m2,0,none⟩),.pointer (some ⟨xg,0,none⟩)]] 105)).cell? ⟨fg,0,none⟩=some (.bool q):=hB.cell 0 _ rfl
 have g1:=hB.free 0
 have b0:=B2.cell 0 _ rfl
 have b1:=B2.cell 1 _ rfl
 have b2:=B2.cell 2 _ rfl
 have t0:=aj ((ah L1).row (List.mem_cons_of_mem _ (List.mem_cons_of_mem _ (List.mem_cons_of_mem _ rt))))
 have t1:=aj ((ah L1).row (List.mem_cons_of_mem _ (List.mem_cons_of_mem _ (List.mem_cons_of_mem _ ro))))
 have KF:=hide (oO (X:=X) ((ah L1).sub yH) hA (List.mem_cons_of_mem _ (List.mem_cons_of_mem _ ht)) (List.mem_cons_of_mem _ (List.mem_cons_of_mem _ ha)) h0 (List.mem_cons_of_mem _ (List.mem_cons_of_mem _ rf)) (List.mem_cons_of_mem _ (List.mem_cons_of_mem _ r0)) (List.mem_cons_of_mem _ (List.mem_cons_of_mem _ r1)) (List.mem_cons_of_mem _ (List.mem_cons_of_mem _ r2)) hx (fun y hy=>by
   rcases List.mem_cons.1 hy with e | e
   ·subst e;exact hfx
   ·rcases List.mem_cons.1 e with e | e
    ·subst e
     have:=h.lt (x:=(xg,.cells (Ic X) 50)) (by simp)
     simp only at this ⊢
     omega
    ·exact hne y e) e1 e2 e3 hfit hb hk hn hlt2 hd hi)
 clear h hB B2 L0 hwf h0 hfg hlt hA ht ha rt ro hn hlt2 hx hne e1 e2 e3 hfit hb hk rf r0 r1 r2 hfx hi hd
 generalize (fun q=>if q=nb then (List.replicate G.blk 0) else (fun q=>if q=bk then put ((fun j=>if j=bb then setB (V' bb) nb true else V' j) bk) at0 (bW 32 (dG (bU X kx (nb:Int)))) else (fun j=>if j=bb then setB (V' bb) nb true else V' j) q) q)=VX at *
 generalize bU X kx (nb:Int)=X2 at *
 generalize (fun j=>if j=nb then true else E j)=EX at *
 generalize (nb:Int)=ni at *
 go_enter Tryz.func45,Tryz.ntmps45
 go_upto_region 1 with fail
 change Code.wp _ _ _ _ (u.alloc (.cells #[.int .i64 0,.bool false,.func (.func 104) #[] #[.pointer (some ⟨fc,0,none⟩),.pointer (some ⟨m0,0,none⟩),.pointer (some ⟨m1,0,none⟩),.pointer (some ⟨m2,0,none⟩),.pointer (some ⟨xg,0,none⟩)]] 105))
 generalize (u.alloc (.cells #[.int .i64 0,.bool false,.func (.func 104) #[] #[.pointer (some ⟨fc,0,none⟩),.pointer (some ⟨m0,0,none⟩),.pointer (some ⟨m1,0,none⟩),.pointer (some ⟨m2,0,none⟩),.pointer (some ⟨xg,0,none⟩)]] 105))=w0 at *
 generalize u.heap.size=m at *
 go_upto_region 2 with fail
 have bl1:Bl (w0.setCell ⟨fg,0,none⟩ (.bool true)) m #[.int .i64 0,.bool false,.func (.func 104) #[] #[.pointer (some ⟨fc,0,none⟩),.pointer (some ⟨m0,0,none⟩),.pointer (some ⟨m1,0,none⟩),.pointer (some ⟨m2,0,none⟩),.pointer (some ⟨xg,0,none⟩)]] 105:=(ah L1).row (x:=(m,(.cells #[.int .i64 0,.bool false,.func (.func 104) #[] #[.pointer (some ⟨fc,0,none⟩),.pointer (some ⟨m0,0,none⟩),.pointer (some ⟨m1,0,none⟩),.pointer (some ⟨m2,0,none⟩),.pointer (some ⟨xg,0,none⟩)]] 105))) (by simp)
 have bl2:Bl (w0.setCell ⟨fg,0,none⟩ (.bool true)) fg #[.bool true] 4:=(ah L1).row (x:=(fg,zB true)) (by simp)
 generalize w0.setCell ⟨fg,0,none⟩ (.bool true)=w1 at *
 have d0:=bl1.cell 0 _ rfl
 have d1:=bl1.cell 1 _ rfl
 have d2:=bl1.cell 2 _ rfl
 have d3:=bl2.cell 0 _ rfl
 clear bl1 bl2 b0 b1 b2 g0 g1 L1
 go_wp2_with fail
 go_at_call 46
 refine(ah KF).mono ?_
 rintro e w2 ⟨rfl,Z⟩
 clear KF t0 t1 d0 d1 d2 d3
 go_wp2_with fail
 go_ret2
 exact⟨rfl,hide ((ah Z).sub yJ)⟩
theorem vM {w P G E g o}{rows:List (Nat×Obj)}{i V F V' K u}{a tb b s m0 m1 m2 m3 fg tg og:Nat}{q:Bool}(h:Lp w P G E g o ((fg,zB q)::rows) i V F V' K u)(pb:Int)(la:Bool)(hpb:pb≠0)(hwf:w.heap.size<=fg)(h0:0<w.heap.size)(hfg:∀ y∈rows,y.1≠fg) :
  Calls Tryz.prog 45 #[.agg #[.int .i64 pb,.bool la,.func (.func 170) #[] #[.pointer (some ⟨m0,0,none⟩),.pointer (some ⟨m1,0,none⟩),.pointer (some ⟨m2,0,none⟩),.pointer (some ⟨m3,0,none⟩)]],.pointer (some ⟨fg,0,none⟩),.pointer (some ⟨tg,0,none⟩),.pointer (some ⟨og,0,none⟩)] u fun e u'=>e=.returned (.tuple #[.int .i64 pb,.int .i64 0])/\Hid (Lp w P G E g o ((fg,zB false)::rows) i V F V' K u'):=by
 have hp1:(pb==0)=false:=by simpa using hpb
 have hlt:=h.lt (x:=(fg,zB q)) (by simp)
 have L0:=(h.new (.cells #[.int .i64 pb,.bool la,.func (.func 170) #[] #[.pointer (some ⟨m0,0,none⟩),.pointer (some ⟨m1,0,none⟩),.pointer (some ⟨m2,0,none⟩),.pointer (some ⟨m3,0,none⟩)]] 105)).sub aK
 have hB:Bl (u.alloc (.cells #[.int .i64 pb,.bool la,.func (.func 170) #[] #[.pointer (some ⟨m0,0,none⟩),.pointer (some ⟨m1,0,none⟩),.pointer (some ⟨m2,0,none⟩),.pointer (some ⟨m3,0,none⟩)]] 105)) fg #[.bool q] 4:=L0.row (x:=(fg,zB q)) (by simp)
 have B2:=Bl.new u #[.int .i64 pb,.bool la,.func (.func 170) #[] #[.pointer (some ⟨m0,0,none⟩),.pointer (some ⟨m1,0,none⟩),.pointer (some ⟨m2,0,none⟩),.pointer (some ⟨m3,0,none⟩)]] 105
 have L1:=hide (L0.swap hwf h0 (fun y hy=>by
  rcases List.mem_cons.1 hy with e | e
  ·subst e;simp only at hlt ⊢;omega
  ·exact hfg y e) (fun q hq=>Below.heap_setCell _ _ _ _ hq) ((Below.refl _ _).setCell (p:=⟨fg,0,none⟩) hwf _) (hB.set 0 (.bool false)))
 have g0:(u.alloc (.cells #[.int .i64 pb,.bool la,.func (.func 170) #[] #[.pointer (some ⟨m0,0,none⟩),.pointer (some ⟨m1,0,none⟩),.pointer (some ⟨m2,0,none⟩),.pointer (some ⟨m3,0,none⟩)]] 105)).cell? ⟨fg,0,none⟩=some (.bool q):=hB.cell 0 _ rfl
 have g1:=hB.free 0
 have b0:=B2.cell 0 _ rfl
 have b1:=B2.cell 1 _ rfl
 have b2:=B2.cell 2 _ rfl
 clear h hB B2 L0 hwf h0 hfg hpb hlt
 go_enter Tryz.func45,Tryz.ntmps45
 go_upto_region 1 with fail
 change Code.wp _ _ _ _ (u.alloc (.cells #[.int .i64 pb,.bool la,.func (.func 170) #[] #[.pointer (some ⟨m0,0,none⟩),.pointer (some ⟨m1,0,none⟩),.pointer (some ⟨m2,0,none⟩),.pointer (some ⟨m3,0,none⟩)]] 105))
 generalize (u.alloc (.cells #[.int .i64 pb,.bool la,.func (.func 170) #[] #[.pointer (some ⟨m0,0,none⟩),.pointer (some ⟨m1,0,none⟩),.pointer (some ⟨m2,0,none⟩),.pointer (some ⟨m3,0,none⟩)]] 105))=w0 at *
 generalize u.heap.size=m at *
 go_upto_region 2 with fail
 have bl1:Bl (w0.setCell ⟨fg,0,none⟩ (.bool false)) m #[.int .i64 pb,.bool la,.func (.func 170) #[] #[.pointer (some ⟨m0,0,none⟩),.pointer (some ⟨m1,0,none⟩),.pointer (some ⟨m2,0,none⟩),.pointer (some ⟨m3,0,none⟩)]] 105:=(ah L1).row (x:=(m,(.cells #[.int .i64 pb,.bool la,.func (.func 170) #[] #[.pointer (some ⟨m0,0,none⟩),.pointer (some ⟨m1,0,none⟩),.pointer (some ⟨m2,0,none⟩),.pointer (some ⟨m3,0,none⟩)]] 105))) (by simp)
 have bl2:Bl (w0.setCell ⟨fg,0,none⟩ (.bool false)) fg #[.bool false] 4:=(ah L1).row (x:=(fg,zB false)) (by simp)
 generalize w0.setCell ⟨fg,0,none⟩ (.bool false)=w1 at *
 have d0:=bl1.cell 0 _ rfl
 have d1:=bl2.cell 0 _ rfl
 clear bl1 bl2 b0 b1 b2 g0 g1
 go_wp2_with fail
 go_ret2
 exact⟨rfl,hide ((ah L1).sub jd)⟩
theorem sQ {w P G E g o}{rows:List (Nat×Obj)}{i V F V' K u}{a tb b s m0 m1 m2 m3 fg tg og:Nat}{q:Bool}(h:Lp w P G E g o ((fg,zB q)::rows) i V F V' K u){bb da ni:Nat}(hA:Ab P G E bb da ni)(ht:(tb,tbO a P)∈rows)(ha:(a,alO g P)∈rows)(rt:(tg,zC tb 29)∈rows)(ro:(og,zC o 32)∈rows)(hwf:w.heap.size<=fg)(h0:0<w.heap.size)(hfg:∀ y∈rows,y.1≠fg)(la:Bool)(hn:fG (V' bb) K da G.n=G.n) :
  Calls Tryz.prog 45 #[.agg #[.int .i64 0,.bool la,.func (.func 170) #[] #[.pointer (some ⟨m0,0,none⟩),.pointer (some ⟨m1,0,none⟩),.pointer (some ⟨m2,0,none⟩),.pointer (some ⟨m3,0,none⟩)]],.pointer (some ⟨fg,0,none⟩),.pointer (some ⟨tg,0,none⟩),.pointer (some ⟨og,0,none⟩)] u fun e u'=>e=.returned (.tuple #[.int .i64 0,.int .i64 10])/\Hid (Lp w P G E g o ((fg,zB true)::rows) i V F V' K u'):=by
 have hlt:=h.lt (x:=(fg,zB q)) (by simp)
 have L0:=(h.new (.cells #[.int .i64 0,.bool la,.func (.func 170) #[] #[.pointer (some ⟨m0,0,none⟩),.pointer (some ⟨m1,0,none⟩),.pointer (some ⟨m2,0,none⟩),.pointer (some ⟨m3,0,none⟩)]] 105)).sub aK
 have hB:Bl (u.alloc (.cells #[.int .i64 0,.bool la,.func (.func 170) #[] #[.pointer (some ⟨m0,0,none⟩),.pointer (some ⟨m1,0,none⟩),.pointer (some ⟨m2,0,none⟩),.pointer (some ⟨m3,0,none⟩)]] 105)) fg #[.bool q] 4:=L0.row (x:=(fg,zB q)) (by simp)
 have B2:=Bl.new u #[.int .i64 0,.bool la,.func (.func 170) #[] #[.pointer (some ⟨m0,0,none⟩),.pointer (some ⟨m1,0,none⟩),.pointer (some ⟨m2,0,none⟩),.pointer (some ⟨m3,0,none⟩)]] 105
 have L1:=hide (L0.swap hwf h0 (fun y hy=>by
  rcases List.mem_cons.1 hy with e | e
  ·subst e;simp only at hlt ⊢;omega
  ·exact hfg y e) (fun q hq=>Below.heap_setCell _ _ _ _ hq) ((Below.refl _ _).setCell (p:=⟨fg,0,none⟩) hwf _) (hB.set 0 (.bool true)))
 have g0:(u.alloc (.cells #[.int .i64 0,.bool la,.func (.func 170) #[] #[.pointer (some ⟨m0,0,none⟩),.pointer (some ⟨m1,0,none⟩),.pointer (some ⟨m2,0,none⟩),.pointer (some ⟨m3,0,none⟩)]] 105)).cell? ⟨fg,0,none⟩=some (.bool q):=hB.cell 0 _ rfl
 have g1:=hB.free 0
 have b0:=B2.cell 0 _ rfl
 have b1:=B2.cell 1 _ rfl
 have b2:=B2.cell 2 _ rfl
 have t0:=aj ((ah L1).row (List.mem_cons_of_mem _ (List.mem_cons_of_mem _ rt)))
 have t1:=aj ((ah L1).row (List.mem_cons_of_mem _ (List.mem_cons_of_mem _ ro)))
 have KF:=hide (oW (b:=b) (s:=s) (m0:=m0) (m1:=m1) (m2:=m2) (m3:=m3) (ah L1) hA la (List.mem_cons_of_mem _ (List.mem_cons_of_mem _ ht)) (List.mem_cons_of_mem _ (List.mem_cons_of_mem _ ha)) h0 hn)
 clear h hB B2 L0 hwf h0 hfg hlt hA ht ha rt ro hn
 go_enter Tryz.func45,Tryz.ntmps45
 go_upto_region 1 with fail
 change Code.wp _ _ _ _ (u.alloc (.cells #[.int .i64 0,.bool la,.func (.func 170) #[] #[.pointer (some ⟨m0,0,none⟩),.pointer (some ⟨m1,0,none⟩),.pointer (some ⟨m2,0,none⟩),.pointer (some ⟨m3,0,none⟩)]] 105))
 generalize (u.alloc (.cells #[.int .i64 0,.bool la,.func (.func 170) #[] #[.pointer (some ⟨m0,0,none⟩),.pointer (some ⟨m1,0,none⟩),.pointer (some ⟨m2,0,none⟩),.pointer (some ⟨m3,0,none⟩)]] 105))=w0 at *
 generalize u.heap.size=m at *
 go_upto_region 2 with fail
 have bl1:Bl (w0.setCell ⟨fg,0,none⟩ (.bool true)) m #[.int .i64 0,.bool la,.func (.func 170) #[] #[.pointer (some ⟨m0,0,none⟩),.pointer (some ⟨m1,0,none⟩),.pointer (some ⟨m2,0,none⟩),.pointer (some ⟨m3,0,none⟩)]] 105:=(ah L1).row (x:=(m,(.cells #[.int .i64 0,.bool la,.func (.func 170) #[] #[.pointer (some ⟨m0,0,none⟩),.pointer (some ⟨m1,0,none⟩),.pointer (some ⟨m2,0,none⟩),.pointer (some ⟨m3,0,none⟩)]] 105))) (by simp)
 have bl2:Bl (w0.setCell ⟨fg,0,none⟩ (.bool true)) fg #[.bool true] 4:=(ah L1).row (x:=(fg,zB true)) (by simp)
 generalize w0.setCell ⟨fg,0,none⟩ (.bool true)=w1 at *
 have d0:=bl1.cell 0 _ rfl
 have d1:=bl1.cell 1 _ rfl
 have d2:=bl1.cell 2 _ rfl
 have d3:=bl2.cell 0 _ rfl
 clear bl1 bl2 b0 b1 b2 g0 g1 L1
 go_wp2_with fail
 go_at_call 46
 refine(ah KF).mono ?_
 rintro e w2 ⟨rfl,Z⟩
 clear KF t0 t1 d0 d1 d2 d3
 go_wp2_with fail
 go_ret2
 exact⟨rfl,hide ((ah Z).sub jd)⟩
theorem sO {w P G E g o}{rows:List (Nat×Obj)}{i V F V' K u}{a tb b s m0 m1 m2 m3 fg tg og:Nat}{q:Bool}(h:Lp w P G E g o ((fg,zB q)::rows) i V F V' K u){bb da ni:Nat}(hA:Ab P G E bb da ni)(ht:(tb,tbO a P)∈rows)(ha:(a,alO g P)∈rows)(rt:(tg,zC tb 29)∈rows)(ro:(og,zC o 32)∈rows)(hwf:w.heap.size<=fg)(h0:0<w.heap.size)(hfg:∀ y∈rows,y.1≠fg)(r0:(m0,zC tb 29)∈rows)(r1:(m1,zC o 32)∈rows)(r2:(m2,zI (b:Int))∈rows)(r3:(m3,zI (s:Int))∈rows)(hb:E b=true)(hs:2*s+2<=G.blk){nb:Nat}(hn:fG (V' bb) K da G.n=nb)(hlt2:nb<G.n) :
  Calls Tryz.prog 45 #[.agg #[.int .i64 0,.bool true,.func (.func 170) #[] #[.pointer (some ⟨m0,0,none⟩),.pointer (some ⟨m1,0,none⟩),.pointer (some ⟨m2,0,none⟩),.pointer (some ⟨m3,0,none⟩)]],.pointer (some ⟨fg,0,none⟩),.pointer (some ⟨tg,0,none⟩),.pointer (some ⟨og,0,none⟩)] u fun e u'=>e=.returned (.tuple #[.int .i64 (nb:Int),.int .i64 0])/\Hid (Lp w P G E g o ((fg,zB true)::rows) i V F (fun q=>if q=b then ptZ ((fun j=>if j=bb then setB (V' bb) nb true else V' j) b) s (nb:Int) else (fun j=>if j=bb then setB (V' bb) nb true else V' j) q) K u'):=by
 have hlt:=h.lt (x:=(fg,zB q)) (by simp)
 have L0:=(h.new (.cells #[.int .i64 0,.bool true,.func (.func 170) #[] #[.pointer (some ⟨m0,0,none⟩),.pointer (some ⟨m1,0,none⟩),.pointer (some ⟨m2,0,none⟩),.pointer (some ⟨m3,0,none⟩)]] 105)).sub aK
 have hB:Bl (u.alloc (.cells #[.int .i64 0,.bool true,.func (.func 170) #[] #[.pointer (some ⟨m0,0,none⟩),.pointer (some ⟨m1,0,none⟩),.pointer (some ⟨m2,0,none⟩),.pointer (some ⟨m3,0,none⟩)]] 105)) fg #[.bool q] 4:=L0.row (x:=(fg,zB q)) (by simp)
 have B2:=Bl.new u #[.int .i64 0,.bool true,.func (.func 170) #[] #[.pointer (some ⟨m0,0,none⟩),.pointer (some ⟨m1,0,none⟩),.pointer (some ⟨m2,0,none⟩),.pointer (some ⟨m3,0,none⟩)]] 105
 have L1:=hide (L0.swap hwf h0 (fun y hy=>by
  rcases List.mem_cons.1 hy with e | e
  ·subst e;simp only at hlt ⊢;omega
  ·exact hfg y e) (fun q hq=>Below.heap_setCell _ _ _ _ hq) ((Below.refl _ _).setCell (p:=⟨fg,0,none⟩) hwf _) (hB.set 0 (.bool true)))
 have g0:(u.alloc (.cells #[.int .i64 0,.bool true,.func (.func 170) #[] #[.pointer (some ⟨m0,0,none⟩),.pointer (some ⟨m1,0,none⟩),.pointer (some ⟨m2,0,none⟩),.pointer (some ⟨m3,0,none⟩)]] 105)).cell? ⟨fg,0,none⟩=some (.bool q):=hB.cell 0 _ rfl
 have g1:=hB.free 0
 have b0:=B2.cell 0 _ rfl
 have b1:=B2.cell 1 _ rfl
 have b2:=B2.cell 2 _ rfl
 have t0:=aj ((ah L1).row (List.mem_cons_of_mem _ (List.mem_cons_of_mem _ rt)))
 have t1:=aj ((ah L1).row (List.mem_cons_of_mem _ (List.mem_cons_of_mem _ ro)))
 have KF:=hide (oV (ah L1) hA (List.mem_cons_of_mem _ (List.mem_cons_of_mem _ ht)) (List.mem_cons_of_mem _ (List.mem_cons_of_mem _ ha)) h0 (List.mem_cons_of_mem _ (List.mem_cons_of_mem _ r0)) (List.mem_cons_of_mem _ (List.mem_cons_of_mem _ r1)) (List.mem_cons_of_mem _ (List.mem_cons_of_mem _ r2)) (List.mem_cons_of_mem _ (List.mem_cons_of_mem _ r3)) hb hs hn hlt2)
 clear h hB B2 L0 hwf h0 hfg hlt hA ht ha rt ro hn hlt2 hb hs r0 r1 r2 r3
 generalize (fun q=>if q=b then ptZ ((fun j=>if j=bb then setB (V' bb) nb true else V' j) b) s (nb:Int) else (fun j=>if j=bb then setB (V' bb) nb true else V' j) q)=VX at *
 generalize (nb:Int)=ni at *
 go_enter Tryz.func45,Tryz.ntmps45
 go_upto_region 1 with fail
 change Code.wp _ _ _ _ (u.alloc (.cells #[.int .i64 0,.bool true,.func (.func 170) #[] #[.pointer (some ⟨m0,0,none⟩),.pointer (some ⟨m1,0,none⟩),.pointer (some ⟨m2,0,none⟩),.pointer (some ⟨m3,0,none⟩)]] 105))
 generalize (u.alloc (.cells #[.int .i64 0,.bool true,.func (.func 170) #[] #[.pointer (some ⟨m0,0,none⟩),.pointer (some ⟨m1,0,none⟩),.pointer (some ⟨m2,0,none⟩),.pointer (some ⟨m3,0,none⟩)]] 105))=w0 at *
 generalize u.heap.size=m at *
 go_upto_region 2 with fail
 have bl1:Bl (w0.setCell ⟨fg,0,none⟩ (.bool true)) m #[.int .i64 0,.bool true,.func (.func 170) #[] #[.pointer (some ⟨m0,0,none⟩),.pointer (some ⟨m1,0,none⟩),.pointer (some ⟨m2,0,none⟩),.pointer (some ⟨m3,0,none⟩)]] 105:=(ah L1).row (x:=(m,(.cells #[.int .i64 0,.bool true,.func (.func 170) #[] #[.pointer (some ⟨m0,0,none⟩),.pointer (some ⟨m1,0,none⟩),.pointer (some ⟨m2,0,none⟩),.pointer (some ⟨m3,0,none⟩)]] 105))) (by simp)
 have bl2:Bl (w0.setCell ⟨fg,0,none⟩ (.bool true)) fg #[.bool true] 4:=(ah L1).row (x:=(fg,zB true)) (by simp)
 generalize w0.setCell ⟨fg,0,none⟩ (.bool true)=w1 at *
 have d0:=bl1.cell 0 _ rfl
 have d1:=bl1.cell 1 _ rfl
 have d2:=bl1.cell 2 _ rfl
 have d3:=bl2.cell 0 _ rfl
 clear bl1 bl2 b0 b1 b2 g0 g1 L1
 go_wp2_with fail
 go_at_call 46
 refine(ah KF).mono ?_
 rintro e w2 ⟨rfl,Z⟩
 clear KF t0 t1 d0 d1 d2 d3
 go_wp2_with fail
 go_ret2
 exact⟨rfl,hide ((ah Z).sub jd)⟩
theorem sN {w P G E g o}{rows:List (Nat×Obj)}{i V F V' K u}{a tb b s m0 m1 m2 m3 fg tg og:Nat}{q:Bool}(h:Lp w P G E g o ((fg,zB q)::rows) i V F V' K u){bb da ni:Nat}(hA:Ab P G E bb da ni)(ht:(tb,tbO a P)∈rows)(ha:(a,alO g P)∈rows)(rt:(tg,zC tb 29)∈rows)(ro:(og,zC o 32)∈rows)(hwf:w.heap.size<=fg)(h0:0<w.heap.size)(hfg:∀ y∈rows,y.1≠fg)(r0:(m0,zC tb 29)∈rows)(r1:(m1,zC o 32)∈rows)(r2:(m2,zI (b:Int))∈rows)(r3:(m3,zI (s:Int))∈rows)(hb:E b=true)(hs:2*s+2<=G.blk){nb:Nat}(hn:fG (V' bb) K da G.n=nb)(hlt2:nb<G.n)(hd:da<=nb) :
  Calls Tryz.prog 45 #[.agg #[.int .i64 0,.bool false,.func (.func 170) #[] #[.pointer (some ⟨m0,0,none⟩),.pointer (some ⟨m1,0,none⟩),.pointer (some ⟨m2,0,none⟩),.pointer (some ⟨m3,0,none⟩)]],.pointer (some ⟨fg,0,none⟩),.pointer (some ⟨tg,0,none⟩),.pointer (some ⟨og,0,none⟩)] u fun e u'=>e=.returned (.tuple #[.int .i64 (nb:Int),.int .i64 0])/\Hid (Lp w P G (fun j=>if j=nb then true else E j) g o ((fg,zB true)::rows) i V F (fun q=>if q=nb then (List.replicate G.blk 0) else (fun q=>if q=b then ptZ ((fun j=>if j=bb then setB (V' bb) nb true else V' j) b) s (nb:Int) else (fun j=>if j=bb then setB (V' bb) nb true else V' j) q) q) K u'):=by
 have hlt:=h.lt (x:=(fg,zB q)) (by simp)
 have L0:=(h.new (.cells #[.int .i64 0,.bool false,.func (.func 170) #[] #[.pointer (some ⟨m0,0,none⟩),.pointer (some ⟨m1,0,none⟩),.pointer (some ⟨m2,0,none⟩),.pointer (some ⟨m3,0,none⟩)]] 105)).sub aK
 have hB:Bl (u.alloc (.cells #[.int .i64 0,.bool false,.func (.func 170) #[] #[.pointer (some ⟨m0,0,none⟩),.pointer (some ⟨m1,0,none⟩),.pointer (some ⟨m2,0,none⟩),.pointer (some ⟨m3,0,none⟩)]] 105)) fg #[.bool q] 4:=L0.row (x:=(fg,zB q)) (by simp)
 have B2:=Bl.new u #[.int .i64 0,.bool false,.func (.func 170) #[] #[.pointer (some ⟨m0,0,none⟩),.pointer (some ⟨m1,0,none⟩),.pointer (some ⟨m2,0,none⟩),.pointer (some ⟨m3,0,none⟩)]] 105
 have L1:=hide (L0.swap hwf h0 (fun y hy=>by
  rcases List.mem_cons.1 hy with e | e
  ·subst e;simp only at hlt ⊢;omega
  ·exact hfg y e) (fun q hq=>Below.heap_setCell _ _ _ _ hq) ((Below.refl _ _).setCell (p:=⟨fg,0,none⟩) hwf _) (hB.set 0 (.bool true)))
 have g0:(u.alloc (.cells #[.int .i64 0,.bool false,.func (.func 170) #[] #[.pointer (some ⟨m0,0,none⟩),.pointer (some ⟨m1,0,none⟩),.pointer (some ⟨m2,0,none⟩),.pointer (some ⟨m3,0,none⟩)]] 105)).cell? ⟨fg,0,none⟩=some (.bool q):=hB.cell 0 _ rfl
 have g1:=hB.free 0
 have b0:=B2.cell 0 _ rfl
 have b1:=B2.cell 1 _ rfl
 have b2:=B2.cell 2 _ rfl
 have t0:=aj ((ah L1).row (List.mem_cons_of_mem _ (List.mem_cons_of_mem _ rt)))
 have t1:=aj ((ah L1).row (List.mem_cons_of_mem _ (List.mem_cons_of_mem _ ro)))
 have KF:=hide (oU (ah L1) hA (List.mem_cons_of_mem _ (List.mem_cons_of_mem _ ht)) (List.mem_cons_of_mem _ (List.mem_cons_of_mem _ ha)) h0 (List.mem_cons_of_mem _ (List.mem_cons_of_mem _ r0)) (List.mem_cons_of_mem _ (List.mem_cons_of_mem _ r1)) (List.mem_cons_of_mem _ (List.mem_cons_of_mem _ r2)) (List.mem_cons_of_mem _ (List.mem_cons_of_mem _ r3)) hb hs hn hlt2 hd)
 clear h hB B2 L0 hwf h0 hfg hlt hA ht ha rt ro hn hlt2 hb hs r0 r1 r2 r3 hd
 generalize (fun q=>if q=nb then (List.replicate G.blk 0) else (fun q=>if q=b then ptZ ((fun j=>if j=bb then setB (V' bb) nb true else V' j) b) s (nb:Int) else (fun j=>if j=bb then setB (V' bb) nb true else V' j) q) q)=VX at *
 generalize (fun j=>if j=nb then true else E j)=EX at *
 generalize (nb:Int)=ni at *
 go_enter Tryz.func45,Tryz.ntmps45
 go_upto_region 1 with fail
 change Code.wp _ _ _ _ (u.alloc (.cells #[.int .i64 0,.bool false,.func (.func 170) #[] #[.pointer (some ⟨m0,0,none⟩),.pointer (some ⟨m1,0,none⟩),.pointer (some ⟨m2,0,none⟩),.pointer (some ⟨m3,0,none⟩)]] 105))
 generalize (u.alloc (.cells #[.int .i64 0,.bool false,.func (.func 170) #[] #[.pointer (some ⟨m0,0,none⟩),.pointer (some ⟨m1,0,none⟩),.pointer (some ⟨m2,0,none⟩),.pointer (some ⟨m3,0,none⟩)]] 105))=w0 at *
 generalize u.heap.size=m at *
 go_upto_region 2 with fail
 have bl1:Bl (w0.setCell ⟨fg,0,none⟩ (.bool true)) m #[.int .i64 0,.bool false,.func (.func 170) #[] #[.pointer (some ⟨m0,0,none⟩),.pointer (some ⟨m1,0,none⟩),.pointer (some ⟨m2,0,none⟩),.pointer (some ⟨m3,0,none⟩)]] 105:=(ah L1).row (x:=(m,(.cells #[.int .i64 0,.bool false,.func (.func 170) #[] #[.pointer (some ⟨m0,0,none⟩),.pointer (some ⟨m1,0,none⟩),.pointer (some ⟨m2,0,none⟩),.pointer (some ⟨m3,0,none⟩)]] 105))) (by simp)
 have bl2:Bl (w0.setCell ⟨fg,0,none⟩ (.bool true)) fg #[.bool true] 4:=(ah L1).row (x:=(fg,zB true)) (by simp)
 generalize w0.setCell ⟨fg,0,none⟩ (.bool true)=w1 at *
 have d0:=bl1.cell 0 _ rfl
 have d1:=bl1.cell 1 _ rfl
 have d2:=bl1.cell 2 _ rfl
 have d3:=bl2.cell 0 _ rfl
 clear bl1 bl2 b0 b1 b2 g0 g1 L1
 go_wp2_with fail
 go_at_call 46
 refine(ah KF).mono ?_
 rintro e w2 ⟨rfl,Z⟩
 clear KF t0 t1 d0 d1 d2 d3
 go_wp2_with fail
 go_ret2
 exact⟨rfl,hide ((ah Z).sub jd)⟩
end Go.Proofs.YtbofhdfhhbgdgaaGreatDoor
