/- Joined: WPure, WParse, WRun, WInv, WCr2. -/
import Derived.Test.YtlpgfigbpjpdhaaGreatDoorFnJ10
import Derived.Test.YtlpgfigbpjpdhaaGreatDoorFnJ22
import Derived.Test.YtlpgfigbpjpdhaaGreatDoorFnJ21
import Derived.Test.YtlpgfigbpjpdhaaGreatDoorFnJ6
/- A log as plain data: its place, its header, what is pending, what its calls write. -/
namespace Go.Proofs.YtlpgfigbpjpdhaaGreatDoor
set_option maxRecDepth 100000
set_option maxHeartbeats 8000000
open Go.RowKit Go.Shelf
set_option linter.unusedVariables false
structure Geo where
 blk:Nat
 n:Nat
 lg:Nat
structure Geo.Ok (G:Geo):Prop where
 size:isSize (G.blk:Int)
 l1:4<=G.lg
 l2:G.lg<=512
 n1:G.lg+3<=G.n
 n2:G.n<=4096
def Geo.ib (G:Geo):Nat:=2+G.lg
def Geo.most (G:Geo):Nat:=(G.blk - 10) / 2
def Geo.ring (G:Geo) (k:Nat):Nat:=2+k%G.lg
theorem Geo.Ok.blk {G:Geo}(h:G.Ok):64<=G.blk/\G.blk<=4096:=by
 have:=h.size
 unfold isSize at this
 omega
theorem Geo.Ok.most {G:Geo}(h:G.Ok):27<=G.most/\G.most<=2043:=by
 have:=h.blk
 unfold Geo.most
 omega
theorem Geo.Ok.ring {G:Geo}(h:G.Ok)(k:Nat):2<=G.ring k/\G.ring k<G.ib/\G.ring k<G.n:=by
 have h1:=h.l1
 have h2:=h.n1
 have:=Nat.mod_lt k (show G.lg > 0 by omega)
 unfold Geo.ring Geo.ib
 omega
theorem Geo.Ok.ibn {G:Geo}(h:G.Ok):6<=G.ib/\G.ib<G.n:=by
 have h1:=h.l1
 have h2:=h.n1
 unfold Geo.ib
 omega
structure PG (P:Nat->Int) (G:Geo):Prop where
 chk:aW P=0
 p0:P 0=(G.blk:Int)
 p1:P 1=(G.n:Int)
 p3:P 3=(G.lg:Int)
 p4:P 4=2
 p5:P 5=(G.ib:Int)
 ok:G.Ok
structure Hd where
 seq:Nat
 tail:Nat
 used:Nat
def Hd.fn (h:Hd):Nat->Int:=fun k=>if k=0 then (h.seq:Int) else if k=1 then (h.tail:Int) else (h.used:Int)
structure Hd.Ok (h:Hd) (G:Geo):Prop where
 seq:h.seq<=4294967295
 tail:h.tail<G.lg
 used:h.used<=G.lg
def hdB (G:Geo) (h:Hd):List Int:=uQ G.blk (jX h.fn)
structure Lg where
 h:Hd
 Q:Nat->Option (List Int)
 dead:Bool
abbrev Wl:=List (Nat×List Int)
def Geo.parts (G:Geo) (n:Nat):Nat:=(n+G.most - 1) / G.most
def Geo.uses (G:Geo) (n:Nat):Nat:=n+G.parts n
theorem Geo.abj {G:Geo}(h:G.Ok):G.parts 0=0:=by
 have:=h.most
 unfold Geo.parts
 rw[Nat.div_eq_of_lt (by omega)]
theorem Geo.aao {G:Geo}(h:G.Ok)(n:Nat):G.parts n<=n:=by
 have hm:=h.most
 cases n with
 | zero=>rw[Geo.abj h];omega
 | succ n =>
  unfold Geo.parts
  refine Nat.div_le_of_le_mul ?_
  have h2:G.most*(n+1)=G.most*n+G.most:=by rw[Nat.mul_succ]
  have h3:n<=G.most*n:=Nat.le_mul_of_pos_left _ (by omega)
  omega
def ahV (G:Geo):Nat->Wl->List Stp
 | _,[]=>[]
 | a,x::r=>.w (G.ring a) x.2::ahV G (a+1) r
def ako (G:Geo) (seq a:Nat) (W:Wl):List Stp:=.w (G.ring a) (ahU G.blk (seq:Int) (W.map (fun x=>(x.1:Int))))::ahV G (a+1) W
def agA (G:Geo) (seq a:Nat):Wl->List Stp
 | []=>[]
 | x::r=>ako G seq a ((x::r).take G.most)++agA G (seq+1) (a+1+min (x::r).length G.most) (r.drop (G.most - 1))
termination_by W=>W.length
decreasing_by simp;omega
def Geo.after (G:Geo) (h:Hd) (n:Nat):Hd:=⟨h.seq+G.parts n,h.tail,h.used+G.uses n⟩
def alc (G:Geo) (h:Hd):List Stp:=[.f,.w 1 (hdB G h),.f]
def setW (Q:Nat->Option (List Int)):Wl->(Nat->Option (List Int))
 | []=>Q
 | x::r=>setW (fun j=>if j=x.1 then some x.2 else Q j) r
theorem yC (Q:Nat->Option (List Int))(A B:Wl):setW Q (A++B)=setW (setW Q A) B:=by
 induction A generalizing Q with
 | nil=>rfl
 | cons x r ih=>exact ih _
def bD (G:Geo) (Q:Nat->Option (List Int)):List Nat:=(List.range G.n).filter (fun b=>(Q b).isSome)
def ig (G:Geo) (Q:Nat->Option (List Int)):Wl:=(bD G Q).map (fun b=>(b,(Q b).getD []))
def ajm:Wl->List Stp
 | []=>[]
 | x::r=>.w x.1 x.2::ajm r
def Geo.freed (G:Geo) (h:Hd):Hd:=⟨h.seq,(h.tail+h.used)%G.lg,0⟩
def akD (G:Geo) (L:Lg):List Stp:=ajm (ig G L.Q)++alc G (G.freed L.h)
def apE (G:Geo) (L:Lg) (D:Dev):Int:=if L.h.used=0 then 0 else qJ (akD G L) D
def apD (G:Geo) (L:Lg) (D:Dev):Dev:=if L.h.used=0 then D else uS (akD G L) D
def apL (G:Geo) (L:Lg) (D:Dev):Lg:=if L.h.used=0 then L else if qJ (akD G L) D=0 then { L with h:=G.freed L.h,Q:=fun _=>none } else L
def akA (G:Geo) (L:Lg) (W:Wl):List Stp:=agA G L.h.seq (L.h.tail+L.h.used) W++alc G (G.after L.h W.length)
def alx (G:Geo) (L:Lg) (W:Wl) (D:Dev):Int:=qJ (akA G L W) D
def aly (G:Geo) (L:Lg) (W:Wl) (D:Dev):Dev:=uS (akA G L W) D
def alv (G:Geo) (L:Lg) (W:Wl) (D:Dev):Lg:=if qJ (akA G L W) D=0 then { L with h:=G.after L.h W.length,Q:=setW L.Q W } else L
def cmE (G:Geo) (L:Lg) (W:Wl) (D:Dev):Int:=if G.lg - L.h.used<G.uses W.length then (if apE G L D=0 then alx G (apL G L D) W (apD G L D) else apE G L D) else alx G L W D
def cmD (G:Geo) (L:Lg) (W:Wl) (D:Dev):Dev:=if G.lg - L.h.used<G.uses W.length then (if apE G L D=0 then aly G (apL G L D) W (apD G L D) else apD G L D) else aly G L W D
def cmL (G:Geo) (L:Lg) (W:Wl) (D:Dev):Lg:=if G.lg - L.h.used<G.uses W.length then (if apE G L D=0 then alv G (apL G L D) W (apD G L D) else apL G L D) else alv G L W D
def Lg.met (L:Lg) (e:Int):Lg:=if e=7 then { L with dead:=true } else L
def ajO (G:Geo) (ns:List Int):Int:=if ns.all (fun b=>decide ((G.ib:Int)<=b/\b<G.n))=true then (if ns.Nodup then 0 else 3) else 2
def ajJ (G:Geo) (seq:Nat) (V:List (Int×Nat)):Int :=
 if V.all (fun x=>decide (x.2=G.blk))=true then (if ajO G (V.map (·.1))=0 then (if G.lg<G.uses V.length then 5 else if 4294967295 - seq<G.parts V.length then 8 else 0) else ajO G (V.map (·.1))) else 1
def dsL (zs:List Int):List Int:=aha zs (dN zs)
def ak7 (G:Geo) (zs:List Int):Prop:=ajA zs/\dsL zs≠[]/\ajO G (dsL zs)=0
open Classical in
noncomputable def goP (G:Geo) (rd:Nat->List Int) (hs:Int) (t e:Nat):Nat->Nat->Int->(Nat->Option (List Int))->Option (Nat->Option (List Int))
 | 0,_,_,_=>none
 | k+1,a,nx,Q =>
  if a=e then (if nx=hs then some Q else none)
  else if ak7 G (rd (G.ring a))/\(t<a->ak (rd (G.ring a)) 4 4=nx)/\a+1+(dsL (rd (G.ring a))).length<=e then
   goP G rd hs t e k (a+1+(dsL (rd (G.ring a))).length) (ak (rd (G.ring a)) 4 4+1) (setW Q ((dsL (rd (G.ring a))).mapIdx (fun i b=>(b.toNat,rd (G.ring (a+1+i))))))
  else none
def adD (zs:List Int):Prop:=isSize (zs.length:Int)/\uQ zs.length (jX (dA zs))=zs
def gJ (zs:List Int):Hd:=⟨(dA zs 0).toNat,(dA zs 1).toNat,(dA zs 2).toNat⟩
open Classical in
noncomputable def parse (G:Geo) (rd:Nat->List Int):Option Lg :=
 if adD (rd 1)/\(gJ (rd 1)).tail<G.lg/\(gJ (rd 1)).used<=G.lg then
  (goP G rd ((gJ (rd 1)).seq:Int) (gJ (rd 1)).tail ((gJ (rd 1)).tail+(gJ (rd 1)).used) 600 (gJ (rd 1)).tail ((gJ (rd 1)).seq:Int) (fun _=>none)).map (fun Q=>⟨gJ (rd 1),Q,false⟩)
 else none
structure Part (G:Geo) (q:Nat) (W:Wl):Prop where
 some':W≠[]
 len:W.length<=G.most
 blk:ajO G (W.map (fun x=>(x.1:Int)))=0
 seq:q<4294967295
def Std (G:Geo) (rd:Nat->List Int):Nat->Nat->List Wl->Prop
 | _,_,[]=>True
 | a,q,W::r=>Part G q W/\rd (G.ring a)=ahU G.blk (q:Int) (W.map (fun x=>(x.1:Int)))/\(∀ i (h:i<W.length),rd (G.ring (a+1+i))=W[i].2)/\Std G rd (a+1+W.length) (q+1) r
def aaR:List Wl->Nat
 | []=>0
 | W::r=>1+W.length+aaR r
def rdS:List Stp->(Nat->List Int)->(Nat->List Int)
 | [],r=>r
 | .w i z::s,r=>rdS s (fun j=>if j=i then z else r j)
 | .f::s,r=>rdS s r
theorem abe (A B:List Stp)(r:Nat->List Int):rdS (A++B) r=rdS B (rdS A r):=by
 induction A generalizing r with
 | nil=>rfl
 | cons s t ih=>cases s<;>exact ih _
theorem akE {D:Dev}(h:D.wE=0)(s:Stp):(s.ap D).rd=rdS [s] D.rd:=by
 have hb:¬ (D.f=0\/D.dead=true):=fun hb=>by unfold Dev.wE at h;rw[if_pos hb] at h;omega
 funext j
 cases s with
 | w i z =>
  show (D.wD i z).rd j=if j=i then z else D.rd j
  unfold Dev.wD
  rw[if_neg hb]
  split
  ·by_cases e:j=i
   ·subst e;simp[Dev.rd,Dev.add,Dev.eP]
   ·simp[Dev.rd,Dev.add,Dev.eP,e]
  ·by_cases e:j=i
   ·subst e;simp[Dev.rd,Dev.add,Dev.eP,Dev.shift]
   ·simp[Dev.rd,Dev.add,Dev.eP,Dev.shift,e]
 | f =>
  show D.fD.rd j=D.rd j
  unfold Dev.fD
  rw[if_neg hb]
  show ((if j<D.n then [] else D.Y j):List (List Int)).getLast?.getD (if j<D.n then D.rd j else D.X j)=D.rd j
  split
  ·rfl
  ·rfl
theorem ag1:∀ (l:List Stp) (D:Dev),qJ l D=0->(uS l D).rd=rdS l D.rd
 | [],D,h=>rfl
 | s::r,D,h=>by
  by_cases h0:D.wE=0
  ·rw[oD h0] at h
   rw[oG h0,ag1 r _ h,akE h0,← abe]
   rfl
  ·rw[qJ,if_neg h0] at h
   omega
theorem Std.kept {G:Geo}{rd rd':Nat->List Int}:∀ {Ps:List Wl} {a q:Nat},Std G rd a q Ps->(∀ i,i<aaR Ps->rd' (G.ring (a+i))=rd (G.ring (a+i)))->Std G rd' a q Ps
 | [],a,q,h,hk=>trivial
 | W::r,a,q,⟨h1,h2,h3,h4⟩,hk=>by
  refine⟨h1,?_,fun i hi=>?_,h4.kept (fun i hi=>?_)⟩
  ·exact(hk 0 (by simp[aaR];omega)).trans h2
  ·have:=hk (1+i) (by simp[aaR];omega)
   rw[show a+(1+i)=a+1+i by omega] at this
   rw[this,h3 i hi]
  ·have:=hk (1+W.length+i) (by simp[aaR];omega)
   rwa [show a+(1+W.length+i)=a+1+W.length+i by omega] at this
structure Inv (G:Geo) (rd:Nat->List Int) (L:Lg) (Ps:List Wl):Prop where
 hd:rd 1=hdB G L.h
 ok:L.h.Ok G
 sq:Ps.length<=L.h.seq
 std:Std G rd L.h.tail (L.h.seq - Ps.length) Ps
 sp:aaR Ps=L.h.used
 q:L.Q=setW (fun _=>none) Ps.flatten
theorem Inv.congr {G:Geo}(hG:G.Ok){rd rd':Nat->List Int}{L:Lg}{Ps:List Wl}(h:Inv G rd L Ps)(h1:rd' 1=rd 1)(h2:∀ i,i<L.h.used->rd' (G.ring (L.h.tail+i))=rd (G.ring (L.h.tail+i))):Inv G rd' L Ps :=
 ⟨h1.trans h.hd,h.ok,h.sq,h.std.kept (fun i hi=>h2 i (by rw[← h.sp];exact hi)),h.sp,h.q⟩
end Go.Proofs.YtlpgfigbpjpdhaaGreatDoor
