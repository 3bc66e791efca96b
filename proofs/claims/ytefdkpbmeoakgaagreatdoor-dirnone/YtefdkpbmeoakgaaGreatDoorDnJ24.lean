/- Joined: WPure, WParse, WRun, WInv, WCr2. -/
import Derived.Test.YtefdkpbmeoakgaaGreatDoorDnJ10
import Derived.Test.YtefdkpbmeoakgaaGreatDoorDnJ22
import Derived.Test.YtefdkpbmeoakgaaGreatDoorDnJ21
import Derived.Test.YtefdkpbmeoakgaaGreatDoorDnJ4
/- A log as plain data: its place, its header, what is pending, what its calls write. -/
namespace Go.Proofs.YtefdkpbmeoakgaaGreatDoor
set_option maxRecDepth 100000
set_option maxHeartbeats 8000000
open Go.RowKit Go.Shelf
set_option linter.unusedVariables false
structure Geo where
 blk:Nat
 n:Nat
 lg:Nat
structure Geo.Ok (G:Geo):Prop where
 size:isSize (G.blk:Int)
 l1:4<=G.lg
 l2:G.lg<=512
 n1:G.lg+3<=G.n
 n2:G.n<=4096
def Geo.ib (G:Geo):Nat:=2+G.lg
def Geo.most (G:Geo):Nat:=(G.blk - 10) / 2
def Geo.ring (G:Geo) (k:Nat):Nat:=2+k%G.lg
theorem Geo.Ok.blk {G:Geo}(h:G.Ok):64<=G.blk/\G.blk<=4096:=by
 have:=h.size
 unfold isSize at this
 omega
theorem Geo.Ok.ring {G:Geo}(h:G.Ok)(k:Nat):2<=G.ring k/\G.ring k<G.ib/\G.ring k<G.n:=by
 have h1:=h.l1
 have h2:=h.n1
 have:=Nat.mod_lt k (show G.lg > 0 by omega)
 unfold Geo.ring Geo.ib
 omega
theorem Geo.Ok.ibn {G:Geo}(h:G.Ok):6<=G.ib/\G.ib<G.n:=by
 have h1:=h.l1
 have h2:=h.n1
 unfold Geo.ib
 omega
structure PG (P:Nat->Int) (G:Geo):Prop where
 chk:bH P=0
 p0:P 0=(G.blk:Int)
 p1:P 1=(G.n:Int)
 p3:P 3=(G.lg:Int)
 p4:P 4=2
 p5:P 5=(G.ib:Int)
 ok:G.Ok
structure Hd where
 seq:Nat
 tail:Nat
 used:Nat
def Hd.fn (h:Hd):Nat->Int:=fun k=>if k=0 then (h.seq:Int) else if k=1 then (h.tail:Int) else (h.used:Int)
structure Hd.Ok (h:Hd) (G:Geo):Prop where
 seq:h.seq<=4294967295
 tail:h.tail<G.lg
 used:h.used<=G.lg
def hdB (G:Geo) (h:Hd):List Int:=uT G.blk (kG h.fn)
structure Lg where
 h:Hd
 Q:Nat->Option (List Int)
 dead:Bool
abbrev Wl:=List (Nat×List Int)
def Geo.parts (G:Geo) (n:Nat):Nat:=(n+G.most - 1) / G.most
def Geo.uses (G:Geo) (n:Nat):Nat:=n+G.parts n
def air (G:Geo):Nat->Wl->List Stp
 | _,[]=>[]
 | a,x::r=>.w (G.ring a) x.2::air G (a+1) r
def akr (G:Geo) (seq a:Nat) (W:Wl):List Stp:=.w (G.ring a) (aiq G.blk (seq:Int) (W.map (fun x=>(x.1:Int))))::air G (a+1) W
def ajf (G:Geo) (seq a:Nat):Wl->List Stp
 | []=>[]
 | x::r=>akr G seq a ((x::r).take G.most)++ajf G (seq+1) (a+1+min (x::r).length G.most) (r.drop (G.most - 1))
termination_by W=>W.length
decreasing_by simp;omega
def setW (Q:Nat->Option (List Int)):Wl->(Nat->Option (List Int))
 | []=>Q
 | x::r=>setW (fun j=>if j=x.1 then some x.2 else Q j) r
theorem yL (Q:Nat->Option (List Int))(A B:Wl):setW Q (A++B)=setW (setW Q A) B:=by
 induction A generalizing Q with
 | nil=>rfl
 | cons x r ih=>exact ih _
def gW (G:Geo) (Q:Nat->Option (List Int)):List Nat:=(List.range G.n).filter (fun b=>(Q b).isSome)
def kR (G:Geo) (Q:Nat->Option (List Int)):Wl:=(gW G Q).map (fun b=>(b,(Q b).getD []))
def akY (G:Geo) (ns:List Int):Int:=if ns.all (fun b=>decide ((G.ib:Int)<=b/\b<G.n))=true then (if ns.Nodup then 0 else 3) else 2
def dsL (zs:List Int):List Int:=ahj zs (dN zs)
def ak9 (G:Geo) (zs:List Int):Prop:=ajJ zs/\dsL zs≠[]/\akY G (dsL zs)=0
open Classical in
noncomputable def goP (G:Geo) (rd:Nat->List Int) (hs:Int) (t e:Nat):Nat->Nat->Int->(Nat->Option (List Int))->Option (Nat->Option (List Int))
 | 0,_,_,_=>none
 | k+1,a,nx,Q =>
  if a=e then (if nx=hs then some Q else none)
  else if ak9 G (rd (G.ring a))/\(t<a->ak (rd (G.ring a)) 4 4=nx)/\a+1+(dsL (rd (G.ring a))).length<=e then
   goP G rd hs t e k (a+1+(dsL (rd (G.ring a))).length) (ak (rd (G.ring a)) 4 4+1) (setW Q ((dsL (rd (G.ring a))).mapIdx (fun i b=>(b.toNat,rd (G.ring (a+1+i))))))
  else none
def adP (zs:List Int):Prop:=isSize (zs.length:Int)/\uT zs.length (kG (dw zs))=zs
def gu (zs:List Int):Hd:=⟨(dw zs 0).toNat,(dw zs 1).toNat,(dw zs 2).toNat⟩
open Classical in
noncomputable def parse (G:Geo) (rd:Nat->List Int):Option Lg :=
 if adP (rd 1)/\(gu (rd 1)).tail<G.lg/\(gu (rd 1)).used<=G.lg then
  (goP G rd ((gu (rd 1)).seq:Int) (gu (rd 1)).tail ((gu (rd 1)).tail+(gu (rd 1)).used) 600 (gu (rd 1)).tail ((gu (rd 1)).seq:Int) (fun _=>none)).map (fun Q=>⟨gu (rd 1),Q,false⟩)
 else none
structure Part (G:Geo) (q:Nat) (W:Wl):Prop where
 some':W≠[]
 len:W.length<=G.most
 blk:akY G (W.map (fun x=>(x.1:Int)))=0
 seq:q<4294967295
def Std (G:Geo) (rd:Nat->List Int):Nat->Nat->List Wl->Prop
 | _,_,[]=>True
 | a,q,W::r=>Part G q W/\rd (G.ring a)=aiq G.blk (q:Int) (W.map (fun x=>(x.1:Int)))/\(∀ i (h:i<W.length),rd (G.ring (a+1+i))=W[i].2)/\Std G rd (a+1+W.length) (q+1) r
def abb:List Wl->Nat
 | []=>0
 | W::r=>1+W.length+abb r
def rdS:List Stp->(Nat->List Int)->(Nat->List Int)
 | [],r=>r
 | .w i z::s,r=>rdS s (fun j=>if j=i then z else r j)
 | .f::s,r=>rdS s r
theorem abp (A B:List Stp)(r:Nat->List Int):rdS (A++B) r=rdS B (rdS A r):=by
 induction A generalizing r with
 | nil=>rfl
 | cons s t ih=>cases s<;>exact ih _
theorem akG {D:Dev}(h:D.wE=0)(s:Stp):(s.ap D).rd=rdS [s] D.rd:=by
 have hb:¬ (D.f=0\/D.dead=true):=fun hb=>by unfold Dev.wE at h;rw[if_pos hb] at h;omega
 funext j
 cases s with
 | w i z =>
  show (D.wD i z).rd j=if j=i then z else D.rd j
  unfold Dev.wD
  rw[if_neg hb]
  split
  ·by_cases e:j=i
   ·subst e;simp[Dev.rd,Dev.add,Dev.eU]
   ·simp[Dev.rd,Dev.add,Dev.eU,e]
  ·by_cases e:j=i
   ·subst e;simp[Dev.rd,Dev.add,Dev.eU,Dev.shift]
   ·simp[Dev.rd,Dev.add,Dev.eU,Dev.shift,e]
 | f =>
  show D.fD.rd j=D.rd j
  unfold Dev.fD
  rw[if_neg hb]
  show ((if j<D.n then [] else D.Y j):List (List Int)).getLast?.getD (if j<D.n then D.rd j else D.X j)=D.rd j
  split
  ·rfl
  ·rfl
theorem ag2:∀ (l:List Stp) (D:Dev),vN l D=0->(yc l D).rd=rdS l D.rd
 | [],D,h=>rfl
 | s::r,D,h=>by
  by_cases h0:D.wE=0
  ·rw[o9 h0] at h
   rw[oC h0,ag2 r _ h,akG h0,← abp]
   rfl
  ·rw[vN,if_neg h0] at h
   omega
theorem Std.kept {G:Geo}{rd rd':Nat->List Int}:∀ {Ps:List Wl} {a q:Nat},Std G rd a q Ps->(∀ i,i<abb Ps->rd' (G.ring (a+i))=rd (G.ring (a+i)))->Std G rd' a q Ps
 | [],a,q,h,hk=>trivial
 | W::r,a,q,⟨h1,h2,h3,h4⟩,hk=>by
  refine⟨h1,?_,fun i hi=>?_,h4.kept (fun i hi=>?_)⟩
  ·exact(hk 0 (by simp[abb];omega)).trans h2
  ·have:=hk (1+i) (by simp[abb];omega)
   rw[show a+(1+i)=a+1+i by omega] at this
   rw[this,h3 i hi]
  ·have:=hk (1+W.length+i) (by simp[abb];omega)
   rwa [show a+(1+W.length+i)=a+1+W.length+i by omega] at this
structure Inv (G:Geo) (rd:Nat->List Int) (L:Lg) (Ps:List Wl):Prop where
 hd:rd 1=hdB G L.h
 ok:L.h.Ok G
 sq:Ps.length<=L.h.seq
 std:Std G rd L.h.tail (L.h.seq - Ps.length) Ps
 sp:abb Ps=L.h.used
 q:L.Q=setW (fun _=>none) Ps.flatten
theorem Inv.congr {G:Geo}(hG:G.Ok){rd rd':Nat->List Int}{L:Lg}{Ps:List Wl}(h:Inv G rd L Ps)(h1:rd' 1=rd 1)(h2:∀ i,i<L.h.used->rd' (G.ring (L.h.tail+i))=rd (G.ring (L.h.tail+i))):Inv G rd' L Ps :=
 ⟨h1.trans h.hd,h.ok,h.sq,h.std.kept (fun i hi=>h2 i (by rw[← h.sp];exact hi)),h.sp,h.q⟩
end Go.Proofs.YtefdkpbmeoakgaaGreatDoor
