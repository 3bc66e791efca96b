/- Joined: WPure, WParse, WRun, WInv, WCr, WCr2, WCr3. -/
import Derived.Test.YtdfanhjnkjdngaaGreatDoorArJ16
import Derived.Test.YtdfanhjnkjdngaaGreatDoorArCUnD
import Derived.Test.YtdfanhjnkjdngaaGreatDoorArJ30
import Derived.Test.YtdfanhjnkjdngaaGreatDoorArJ10
/- A log as plain data: its place, its header, what is pending, what its calls write. -/
namespace Go.Proofs.YtdfanhjnkjdngaaGreatDoor
set_option maxRecDepth 100000
set_option maxHeartbeats 8000000
open Go.RowKit Go.Shelf
set_option linter.unusedVariables false

structure Geo where
 blk:Nat
 n:Nat
 lg:Nat

structure Geo.Ok (G:Geo):Prop where
 size:isSize (G.blk:Int)
 l1:4 ≤ G.lg
 l2:G.lg ≤ 512
 n1:G.lg + 3 ≤ G.n
 n2:G.n ≤ 4096

def Geo.ib (G:Geo):Nat:=2 + G.lg

def Geo.most (G:Geo):Nat:=(G.blk - 10) / 2

def Geo.ring (G:Geo) (k:Nat):Nat:=2 + k % G.lg

theorem Geo.Ok.blk {G:Geo} (h:G.Ok):64 ≤ G.blk∧G.blk ≤ 4096:=by
 have:=h.size
 unfold isSize at this
 omega

theorem Geo.Ok.most {G:Geo} (h:G.Ok):27 ≤ G.most∧G.most ≤ 2043:=by
 have:=h.blk
 unfold Geo.most
 omega

theorem Geo.Ok.ring {G:Geo} (h:G.Ok) (k:Nat):2 ≤ G.ring k∧G.ring k < G.ib∧G.ring k < G.n:=by
 have h1:=h.l1
 have h2:=h.n1
 have:=Nat.mod_lt k (show G.lg > 0 by omega)
 unfold Geo.ring Geo.ib
 omega

theorem Geo.Ok.ibn {G:Geo} (h:G.Ok):6 ≤ G.ib∧G.ib < G.n:=by
 have h1:=h.l1
 have h2:=h.n1
 unfold Geo.ib
 omega

structure PG (P:Nat→Int) (G:Geo):Prop where
 chk:checkE P=0
 p0:P 0=(G.blk:Int)
 p1:P 1=(G.n:Int)
 p3:P 3=(G.lg:Int)
 p4:P 4=2
 p5:P 5=(G.ib:Int)
 ok:G.Ok

structure Hd where
 seq:Nat
 tail:Nat
 used:Nat

def Hd.fn (h:Hd):Nat→Int:=fun k=>if k=0 then (h.seq:Int) else if k=1 then (h.tail:Int) else (h.used:Int)

structure Hd.Ok (h:Hd) (G:Geo):Prop where
 seq:h.seq ≤ 4294967295
 tail:h.tail < G.lg
 used:h.used ≤ G.lg

def hdB (G:Geo) (h:Hd):List Int:=sumB G.blk (hdrH h.fn)

structure Lg where
 h:Hd
 Q:Nat→Option (List Int)
 dead:Bool

abbrev Wl:=List (Nat × List Int)

def Geo.parts (G:Geo) (n:Nat):Nat:=(n + G.most - 1) / G.most

def Geo.uses (G:Geo) (n:Nat):Nat:=n + G.parts n

theorem Geo.parts_zero {G:Geo} (h:G.Ok):G.parts 0=0:=by
 have:=h.most
 unfold Geo.parts
 rw [Nat.div_eq_of_lt (by omega)]

theorem Geo.parts_step {G:Geo} (h:G.Ok) {n:Nat} (hn:0 < n):G.parts n=1 + G.parts (n - min n G.most):=by
 have hm:=h.most
 unfold Geo.parts
 by_cases hl:n ≤ G.most
 ·rw [Nat.min_eq_left hl,Nat.sub_self,Nat.zero_add,Nat.div_eq_of_lt (show G.most - 1 < G.most by omega)]
  have:n + G.most - 1=(n - 1) + 1 * G.most:=by omega
  rw [this,Nat.add_mul_div_right _ _ (by omega),Nat.div_eq_of_lt (by omega)]
 ·rw [Nat.min_eq_right (by omega)]
  have:n + G.most - 1=(n - G.most + G.most - 1) + 1 * G.most:=by omega
  rw [this,Nat.add_mul_div_right _ _ (by omega),Nat.add_comm]

theorem Geo.parts_le {G:Geo} (h:G.Ok) (n:Nat):G.parts n ≤ n:=by
 have hm:=h.most
 cases n with
 | zero=>rw [Geo.parts_zero h]; omega
 | succ n =>
  unfold Geo.parts
  refine Nat.div_le_of_le_mul ?_
  have h2:G.most * (n + 1)=G.most * n + G.most:=by rw [Nat.mul_succ]
  have h3:n ≤ G.most * n:=Nat.le_mul_of_pos_left _ (by omega)
  omega

def dataS (G:Geo):Nat→Wl→List Stp
 | _,[]=>[]
 | a,x :: r=>.w (G.ring a) x.2 :: dataS G (a + 1) r

def partS (G:Geo) (seq a:Nat) (W:Wl):List Stp:=.w (G.ring a) (descB G.blk (seq:Int) (W.map (fun x=>(x.1:Int)))) :: dataS G (a + 1) W

def partsS (G:Geo) (seq a:Nat):Wl→List Stp
 | []=>[]
 | x :: r=>partS G seq a ((x :: r).take G.most) ++ partsS G (seq + 1) (a + 1 + min (x :: r).length G.most) (r.drop (G.most - 1))
termination_by W=>W.length
decreasing_by simp; omega

theorem partsS_nil (G:Geo) (seq a:Nat):partsS G seq a []=[]:=by rw [partsS]

theorem partsS_cons {G:Geo} (h:G.Ok) (seq a:Nat) {W:Wl} (hW:W ≠ []):partsS G seq a W=partS G seq a (W.take G.most) ++ partsS G (seq + 1) (a + 1 + min W.length G.most) (W.drop G.most):=by
 cases W with
 | nil=>exact absurd rfl hW
 | cons x r =>
  rw [partsS]
  have hm:=h.most
  obtain ⟨m,hm2⟩:∃ m,G.most=m + 1:=⟨G.most - 1,by omega⟩
  rw [hm2]
  simp

def Geo.after (G:Geo) (h:Hd) (n:Nat):Hd:=⟨h.seq + G.parts n,h.tail,h.used + G.uses n⟩

def stlS (G:Geo) (h:Hd):List Stp:=[.f,.w 1 (hdB G h),.f]

def setW (Q:Nat→Option (List Int)):Wl→(Nat→Option (List Int))
 | []=>Q
 | x :: r=>setW (fun j=>if j=x.1 then some x.2 else Q j) r

theorem setW_append (Q:Nat→Option (List Int)) (A B:Wl):setW Q (A ++ B)=setW (setW Q A) B:=by
 induction A generalizing Q with
 | nil=>rfl
 | cons x r ih=>exact ih _

def pendL (G:Geo) (Q:Nat→Option (List Int)):List Nat:=(List.range G.n).filter (fun b=>(Q b).isSome)

def pendW (G:Geo) (Q:Nat→Option (List Int)):Wl:=(pendL G Q).map (fun b=>(b,(Q b).getD []))

def homeS:Wl→List Stp
 | []=>[]
 | x :: r=>.w x.1 x.2 :: homeS r

def Geo.freed (G:Geo) (h:Hd):Hd:=⟨h.seq,(h.tail + h.used) % G.lg,0⟩

def aplS (G:Geo) (L:Lg):List Stp:=homeS (pendW G L.Q) ++ stlS G (G.freed L.h)

def apE (G:Geo) (L:Lg) (D:Dev):Int:=if L.h.used=0 then 0 else runE (aplS G L) D

def apD (G:Geo) (L:Lg) (D:Dev):Dev:=if L.h.used=0 then D else runD (aplS G L) D

def apL (G:Geo) (L:Lg) (D:Dev):Lg:=if L.h.used=0 then L else if runE (aplS G L) D=0 then { L with h:=G.freed L.h,Q:=fun _=>none } else L

def comS (G:Geo) (L:Lg) (W:Wl):List Stp:=partsS G L.h.seq (L.h.tail + L.h.used) W ++ stlS G (G.after L.h W.length)

def cmE0 (G:Geo) (L:Lg) (W:Wl) (D:Dev):Int:=runE (comS G L W) D

def cmD0 (G:Geo) (L:Lg) (W:Wl) (D:Dev):Dev:=runD (comS G L W) D

def cmL0 (G:Geo) (L:Lg) (W:Wl) (D:Dev):Lg:=if runE (comS G L W) D=0 then { L with h:=G.after L.h W.length,Q:=setW L.Q W } else L

def cmE (G:Geo) (L:Lg) (W:Wl) (D:Dev):Int:=if G.lg - L.h.used < G.uses W.length then (if apE G L D=0 then cmE0 G (apL G L D) W (apD G L D) else apE G L D) else cmE0 G L W D

def cmD (G:Geo) (L:Lg) (W:Wl) (D:Dev):Dev:=if G.lg - L.h.used < G.uses W.length then (if apE G L D=0 then cmD0 G (apL G L D) W (apD G L D) else apD G L D) else cmD0 G L W D

def cmL (G:Geo) (L:Lg) (W:Wl) (D:Dev):Lg:=if G.lg - L.h.used < G.uses W.length then (if apE G L D=0 then cmL0 G (apL G L D) W (apD G L D) else apL G L D) else cmL0 G L W D

def Lg.met (L:Lg) (e:Int):Lg:=if e=7 then { L with dead:=true } else L

def blkE (G:Geo) (ns:List Int):Int:=if ns.all (fun b=>decide ((G.ib:Int) ≤ b∧b < G.n))=true then (if ns.Nodup then 0 else 3) else 2

def lstE (G:Geo) (seq:Nat) (V:List (Int × Nat)):Int :=
 if V.all (fun x=>decide (x.2=G.blk))=true then (if blkE G (V.map (·.1))=0 then (if G.lg < G.uses V.length then 5 else if 4294967295 - seq < G.parts V.length then 8 else 0) else blkE G (V.map (·.1))) else 1

def dsL (zs:List Int):List Int:=takeL zs (dN zs)

def dscOk (G:Geo) (zs:List Int):Prop:=descIs zs∧dsL zs ≠ []∧blkE G (dsL zs)=0

open Classical in
noncomputable def goP (G:Geo) (rd:Nat→List Int) (hs:Int) (t e:Nat):Nat→Nat→Int→(Nat→Option (List Int))→Option (Nat→Option (List Int))
 | 0,_,_,_=>none
 | k + 1,a,nx,Q =>
  if a=e then (if nx=hs then some Q else none)
  else if dscOk G (rd (G.ring a))∧(t < a→getVal (rd (G.ring a)) 4 4=nx)∧a + 1 + (dsL (rd (G.ring a))).length ≤ e then
   goP G rd hs t e k (a + 1 + (dsL (rd (G.ring a))).length) (getVal (rd (G.ring a)) 4 4 + 1) (setW Q ((dsL (rd (G.ring a))).mapIdx (fun i b=>(b.toNat,rd (G.ring (a + 1 + i))))))
  else none

def hdIs (zs:List Int):Prop:=isSize (zs.length:Int)∧sumB zs.length (hdrH (hdrOf zs))=zs

def hdOf (zs:List Int):Hd:=⟨(hdrOf zs 0).toNat,(hdrOf zs 1).toNat,(hdrOf zs 2).toNat⟩

open Classical in
noncomputable def parse (G:Geo) (rd:Nat→List Int):Option Lg :=
 if hdIs (rd 1)∧(hdOf (rd 1)).tail < G.lg∧(hdOf (rd 1)).used ≤ G.lg then
  (goP G rd ((hdOf (rd 1)).seq:Int) (hdOf (rd 1)).tail ((hdOf (rd 1)).tail + (hdOf (rd 1)).used) 600 (hdOf (rd 1)).tail ((hdOf (rd 1)).seq:Int) (fun _=>none)).map (fun Q=>⟨hdOf (rd 1),Q,false⟩)
 else none

end Go.Proofs.YtdfanhjnkjdngaaGreatDoor

/- What a log has written is read again: descriptors, parts. -/
namespace Go.Proofs.YtdfanhjnkjdngaaGreatDoor
set_option maxRecDepth 100000
set_option maxHeartbeats 8000000
open Go.RowKit Go.Shelf
set_option linter.unusedVariables false

theorem encF_nums (wd:Nat) (ns:List Int):encF (ns.map (fun v=>(wd,v)))=numsB wd ns:=by
 induction ns with
 | nil=>rfl
 | cons v r ih=>simp [encF,numsB] at ih ⊢; rw [ih]

theorem offF_map (wd:Nat):∀ (ns:List Int) (k:Nat),k < ns.length→offF (ns.map (fun v=>(wd,v))) k=wd * k
 | [],k,h=>absurd h (by simp)
 | v :: r,0,h=>by simp [offF]
 | v :: r,k + 1,h=>by
  have:=offF_map wd r k (by simpa using h)
  simp only [List.map_cons,offF,this]
  rw [Nat.mul_succ]
  omega

theorem desc_get {b:Nat} {q:Int} {ns:List Int} (hq:0 ≤ q∧q < 4294967296) (hn:∀ v ∈ ns,0 ≤ v∧v < 65536) (hl:ns.length < 65536) :
  getVal (descB b q ns) 4 4=q∧getVal (descB b q ns) 8 2=(ns.length:Int)∧∀ i (h:i < ns.length),getVal (descB b q ns) (10 + 2 * (i:Int)) 2=ns[i]:=by
 obtain ⟨A,hA,R,hR⟩:∃ A:List Int,A.length=4∧∃ R,descB b q ns=A ++ (encF ((4,q) :: (2,(ns.length:Int)) :: ns.map (fun v=>(2,v))) ++ R):=by
  refine ⟨digits 4 ((sumS (descR b q ns):Nat):Int),length_digits _ _,?_⟩
  have e:descR b q ns=encF ((4,q) :: (2,(ns.length:Int)) :: ns.map (fun v=>(2,v))) ++ List.replicate (b - 4 - (numsB 4 [q] ++ (numsB 2 [(ns.length:Int)] ++ numsB 2 ns)).length) 0:=by
   unfold descR layB
   rw [numsB_one,numsB_one]
   simp only [encF,encF_nums,List.append_assoc]
  obtain ⟨Z,hZ⟩:∃ Z,descB b q ns=digits 4 ((sumS (descR b q ns):Nat):Int) ++ (descR b q ns ++ Z):=⟨_,by unfold descB layB; rw [List.append_assoc]⟩
  generalize digits 4 ((sumS (descR b q ns):Nat):Int)=dg at *
  rw [e,List.append_assoc] at hZ
  exact ⟨_,hZ⟩
 rw [hR]
 refine ⟨?_,?_,fun i h=>?_⟩
 ·have:=getVal_field ((4,q) :: (2,(ns.length:Int)) :: ns.map (fun v=>(2,v))) 0 4 q A R rfl (by omega) hq
  rw [hA] at this
  exact this
 ·have:=getVal_field ((4,q) :: (2,(ns.length:Int)) :: ns.map (fun v=>(2,v))) 1 2 (ns.length:Int) A R rfl (by omega) ⟨by omega,by omega⟩
  rw [hA] at this
  exact this
 ·have:=getVal_field ((4,q) :: (2,(ns.length:Int)) :: ns.map (fun v=>(2,v))) (i + 2) 2 ns[i] A R (by simp [List.getElem?_eq_getElem h]) (by omega) (hn _ (List.getElem_mem h))
  rw [hA] at this
  have e:((4 + offF ((4,q) :: (2,(ns.length:Int)) :: ns.map (fun v=>(2,v))) (i + 2):Nat):Int)=10 + 2 * (i:Int):=by
   simp only [offF,offF_map 2 ns i h]
   omega
  rw [e] at this
  exact this

theorem blkE_ok {G:Geo} {ns:List Int} (h:blkE G ns=0):(∀ b ∈ ns,(G.ib:Int) ≤ b∧b < G.n)∧ns.Nodup:=by
 unfold blkE at h
 by_cases h1:ns.all (fun b=>decide ((G.ib:Int) ≤ b∧b < G.n))=true
 ·rw [if_pos h1] at h
  by_cases h2:ns.Nodup
  ·exact ⟨fun b hb=>by simpa using List.all_eq_true.1 h1 b hb,h2⟩
  ·rw [if_neg h2] at h; omega
 ·rw [if_neg h1] at h; omega

structure Part (G:Geo) (q:Nat) (W:Wl):Prop where
 some':W ≠ []
 len:W.length ≤ G.most
 blk:blkE G (W.map (fun x=>(x.1:Int)))=0
 seq:q < 4294967295

theorem Part.back {G:Geo} (hG:G.Ok) {q:Nat} {W:Wl} (h:Part G q W) :
  dscOk G (descB G.blk (q:Int) (W.map (fun x=>(x.1:Int))))∧dsL (descB G.blk (q:Int) (W.map (fun x=>(x.1:Int))))=W.map (fun x=>(x.1:Int))∧getVal (descB G.blk (q:Int) (W.map (fun x=>(x.1:Int)))) 4 4=(q:Int):=by
 have hm:=hG.most
 have hbk:=hG.blk
 have hl:=h.len
 have hq:=h.seq
 have hn2:=hG.n2
 have hmm:10 + 2 * G.most ≤ G.blk:=by unfold Geo.most; omega
 have hblk:=h.blk
 have hsome:=h.some'
 obtain ⟨b1,b2⟩:=blkE_ok hblk
 generalize hns:W.map (fun x=>(x.1:Int))=ns at *
 have hnl:ns.length=W.length:=by rw [← hns]; simp
 obtain ⟨g1,g2,g3⟩:=desc_get (b:=G.blk) (q:=(q:Int)) (ns:=ns) ⟨by omega,by omega⟩ (fun v hv=>by have:=b1 v hv; omega) (by omega)
 have hlen:(descB G.blk (q:Int) ns).length=G.blk:=descB_length (by omega)
 have hd:dN (descB G.blk (q:Int) ns)=ns.length:=by
  unfold dN
  rw [hlen,g2,if_neg (by omega)]
  omega
 have ht:takeL (descB G.blk (q:Int) ns) ns.length=ns:=by
  unfold takeL
  refine List.ext_getElem (by simp) (fun i h1 h2=>?_)
  simp only [List.getElem_map,List.getElem_range]
  exact g3 i h2
 have hds:dsL (descB G.blk (q:Int) ns)=ns:=by unfold dsL; rw [hd,ht]
 refine ⟨⟨⟨?_,?_⟩,?_,?_⟩,hds,g1⟩
 ·rw [hlen,g1,hd,ht]
  unfold descE
  have hs:=hG.size
  unfold isSize at hs
  rw [if_pos hs,if_pos,if_neg (by omega)]
  unfold descF
  rw [Bool.and_eq_true,fitB_iff,fitB_iff]
  exact ⟨fun v hv=>by simp at hv; subst hv; omega,fun v hv=>by have:=b1 v hv; omega⟩
 ·rw [hlen,g1,hd,ht]
 ·rw [hds]
  intro e
  rw [e] at hnl
  exact hsome (List.length_eq_zero_iff.1 hnl.symm)
 ·rw [hds]; exact hblk

def Std (G:Geo) (rd:Nat→List Int):Nat→Nat→List Wl→Prop
 | _,_,[]=>True
 | a,q,W :: r=>Part G q W∧rd (G.ring a)=descB G.blk (q:Int) (W.map (fun x=>(x.1:Int)))∧(∀ i (h:i < W.length),rd (G.ring (a + 1 + i))=W[i].2)∧Std G rd (a + 1 + W.length) (q + 1) r

def spanP:List Wl→Nat
 | []=>0
 | W :: r=>1 + W.length + spanP r

theorem go_std {G:Geo} (hG:G.Ok) (rd:Nat→List Int) (hs:Int) (t e:Nat):∀ (Ps:List Wl) (k a q:Nat) (nx:Int) (Q:Nat→Option (List Int)),Std G rd a q Ps→Ps.length < k→e=a + spanP Ps→hs=((q + Ps.length:Nat):Int)→(Ps=[] ∨ t < a→nx=(q:Int))→t ≤ a →
  goP G rd hs t e k a nx Q=some (setW Q Ps.flatten)
 | [],0,a,q,nx,Q,h,hk,he,hh,hn,ht=>absurd hk (by simp)
 | [],k + 1,a,q,nx,Q,h,hk,he,hh,hn,ht=>by
  have e1:a=e:=by simpa [spanP] using he.symm
  have e2:nx=hs:=by rw [hn (.inl rfl),hh]; simp
  rw [goP,if_pos e1,if_pos e2]
  rfl
 | W :: r,0,a,q,nx,Q,h,hk,he,hh,hn,ht=>absurd hk (by simp)
 | W :: r,k + 1,a,q,nx,Q,h,hk,he,hh,hn,ht=>by
  obtain ⟨h1,h2,h3,h4⟩:=h
  obtain ⟨b1,b2,b3⟩:=h1.back hG
  have hne:¬ a=e:=by rw [he]; unfold spanP; omega
  rw [goP,if_neg hne,h2,b2,b3,List.length_map]
  have hc:dscOk G (descB G.blk (q:Int) (W.map (fun x=>(x.1:Int))))∧(t < a→(q:Int)=nx)∧a + 1 + W.length ≤ e:=by
   refine ⟨b1,fun h=>(hn (.inr h)).symm,?_⟩
   rw [he]
   simp [spanP]
   omega
  rw [if_pos hc]
  have ew:(W.map (fun x=>(x.1:Int))).mapIdx (fun i b=>(b.toNat,rd (G.ring (a + 1 + i))))=W:=by
   refine List.ext_getElem (by simp) (fun i i1 i2=>?_)
   simp only [List.getElem_mapIdx,List.getElem_map,h3 i i2]
   simp
  rw [ew]
  have ih:=go_std hG rd hs t e r k (a + 1 + W.length) (q + 1) ((q:Int) + 1) (setW Q W) h4 (by simpa using hk) (by rw [he]; simp [spanP]; omega) (by rw [hh]; simp; omega) (fun _=>by simp) (by omega)
  rw [ih,List.flatten_cons,setW_append]

end Go.Proofs.YtdfanhjnkjdngaaGreatDoor

/- What steps leave to be read; parts that were written stand in the ring. -/
namespace Go.Proofs.YtdfanhjnkjdngaaGreatDoor
set_option maxRecDepth 100000
set_option maxHeartbeats 8000000
open Go.RowKit Go.Shelf
set_option linter.unusedVariables false

def rdS:List Stp→(Nat→List Int)→(Nat→List Int)
 | [],r=>r
 | .w i z :: s,r=>rdS s (fun j=>if j=i then z else r j)
 | .f :: s,r=>rdS s r

theorem rdS_append (A B:List Stp) (r:Nat→List Int):rdS (A ++ B) r=rdS B (rdS A r):=by
 induction A generalizing r with
 | nil=>rfl
 | cons s t ih=>cases s <;> exact ih _

theorem ap_rd {D:Dev} (h:D.wE=0) (s:Stp):(s.ap D).rd=rdS [s] D.rd:=by
 have hb:¬ (D.f=0 ∨ D.dead=true):=fun hb=>by unfold Dev.wE at h; rw [if_pos hb] at h; omega
 funext j
 cases s with
 | w i z =>
  show (D.wD i z).rd j=if j=i then z else D.rd j
  unfold Dev.wD
  rw [if_neg hb]
  split
  ·by_cases e:j=i
   ·subst e; simp [Dev.rd,Dev.add,Dev.burn]
   ·simp [Dev.rd,Dev.add,Dev.burn,e]
  ·by_cases e:j=i
   ·subst e; simp [Dev.rd,Dev.add,Dev.burn,Dev.shift]
   ·simp [Dev.rd,Dev.add,Dev.burn,Dev.shift,e]
 | f =>
  show D.fD.rd j=D.rd j
  unfold Dev.fD
  rw [if_neg hb]
  show ((if j < D.n then [] else D.Y j):List (List Int)).getLast?.getD (if j < D.n then D.rd j else D.X j)=D.rd j
  split
  ·rfl
  ·rfl

theorem run_rd:∀ (l:List Stp) (D:Dev),runE l D=0→(runD l D).rd=rdS l D.rd
 | [],D,h=>rfl
 | s :: r,D,h=>by
  by_cases h0:D.wE=0
  ·rw [runE_ok h0] at h
   rw [runD_ok h0,run_rd r _ h,ap_rd h0,← rdS_append]
   rfl
  ·rw [runE,if_neg h0] at h
   omega

theorem ring_ne {G:Geo} (h:G.Ok) {i j:Nat} (h1:i < j) (h2:j < i + G.lg):G.ring i ≠ G.ring j:=by
 have hl:=h.l1
 unfold Geo.ring
 intro e
 have e':i % G.lg=j % G.lg:=by omega
 have h3:(j - i) % G.lg=0:=by
  have:=Nat.sub_mod_eq_zero_of_mod_eq e'.symm
  exact this
 rw [Nat.mod_eq_of_lt (by omega)] at h3
 omega

theorem data_out (G:Geo):∀ (W:Wl) (a:Nat) (r:Nat→List Int) (j:Nat),(∀ i,i < W.length→j ≠ G.ring (a + i))→rdS (dataS G a W) r j=r j
 | [],a,r,j,h=>rfl
 | x :: t,a,r,j,h=>by
  rw [dataS,rdS,data_out G t (a + 1) _ j (fun i hi=>by
   have:=h (i + 1) (by simp; omega)
   rwa [show a + (i + 1)=a + 1 + i by omega] at this)]
  rw [if_neg (by simpa using h 0 (by simp))]

theorem data_in {G:Geo} (hG:G.Ok):∀ (W:Wl) (a:Nat) (r:Nat→List Int) (i:Nat) (h:i < W.length),W.length ≤ G.lg→rdS (dataS G a W) r (G.ring (a + i))=W[i].2
 | [],a,r,i,h,hl=>absurd h (by simp)
 | x :: t,a,r,0,h,hl=>by
  rw [dataS,rdS,data_out G t (a + 1) _ _ (fun i hi=>?_)]
  ·simp
  ·simp at hl
   exact ring_ne hG (by omega) (by omega)
 | x :: t,a,r,i + 1,h,hl=>by
  rw [dataS,rdS,show a + (i + 1)=a + 1 + i by omega]
  simp at hl h
  rw [data_in hG t (a + 1) _ i (by omega) (by omega)]
  simp

theorem part_in {G:Geo} (hG:G.Ok) (q a:Nat) (W:Wl) (r:Nat→List Int) (hl:1 + W.length ≤ G.lg) :
  rdS (partS G q a W) r (G.ring a)=descB G.blk (q:Int) (W.map (fun x=>(x.1:Int)))∧(∀ i (h:i < W.length),rdS (partS G q a W) r (G.ring (a + 1 + i))=W[i].2)∧∀ j,(∀ i,i < 1 + W.length→j ≠ G.ring (a + i))→rdS (partS G q a W) r j=r j:=by
 refine ⟨?_,fun i h=>?_,fun j h=>?_⟩
 ·rw [partS,rdS,data_out G W (a + 1) _ _ (fun i hi=>ring_ne hG (by omega) (by omega))]
  simp
 ·rw [partS,rdS]
  exact data_in hG W (a + 1) _ i h (by omega)
 ·rw [partS,rdS,data_out G W (a + 1) _ _ (fun i hi=>by
   have:=h (i + 1) (by omega)
   rwa [show a + (i + 1)=a + 1 + i by omega] at this)]
  rw [if_neg (by simpa using h 0 (by omega))]

def cutP (G:Geo):Wl→List Wl
 | []=>[]
 | x :: r=>(x :: r).take G.most :: cutP G (r.drop (G.most - 1))
termination_by W=>W.length
decreasing_by simp; omega

theorem cutP_cons {G:Geo} (h:G.Ok) {W:Wl} (hW:W ≠ []):cutP G W=W.take G.most :: cutP G (W.drop G.most):=by
 cases W with
 | nil=>exact absurd rfl hW
 | cons x r =>
  rw [cutP]
  have hm:=h.most
  obtain ⟨m,hm2⟩:∃ m,G.most=m + 1:=⟨G.most - 1,by omega⟩
  rw [hm2]
  simp

theorem cutP_nil (G:Geo):cutP G []=[]:=by rw [cutP]

theorem cut_ind {G:Geo} (h:G.Ok) {P:Wl→Prop} (h0:P []) (h1:∀ W,W ≠ []→P (W.drop G.most)→P W) (W:Wl):P W:=by
 have hm:=h.most
 have:∀ n (W:Wl),W.length ≤ n→P W:=by
  intro n
  induction n with
  | zero=>intro W hl; rw [List.length_eq_zero_iff.1 (Nat.le_zero.1 hl)]; exact h0
  | succ n ih =>
   intro W hl
   by_cases e:W=[]
   ·rw [e]; exact h0
   ·refine h1 W e (ih _ ?_)
    rw [List.length_drop]
    omega
 exact this _ W (Nat.le_refl _)

theorem cut_flat {G:Geo} (h:G.Ok) (W:Wl):(cutP G W).flatten=W:=by
 refine cut_ind h (P:=fun W=>(cutP G W).flatten=W) (by rw [cutP_nil]; rfl) (fun W hW ih=>?_) W
 rw [cutP_cons h hW,List.flatten_cons,ih,List.take_append_drop]

theorem cut_len {G:Geo} (h:G.Ok) (W:Wl):(cutP G W).length=G.parts W.length∧spanP (cutP G W)=G.uses W.length:=by
 have hm:=h.most
 refine cut_ind h (P:=fun W=>(cutP G W).length=G.parts W.length∧spanP (cutP G W)=G.uses W.length) ?_ (fun W hW ih=>?_) W
 ·rw [cutP_nil]
  simp [spanP,Geo.uses,Geo.parts_zero h]
 ·have hl:0 < W.length:=List.length_pos_iff.2 hW
  rw [cutP_cons h hW]
  obtain ⟨i1,i2⟩:=ih
  rw [List.length_drop] at i1 i2
  have hp:=Geo.parts_step h hl
  have e:W.length - min W.length G.most=W.length - G.most:=by omega
  rw [e] at hp
  unfold Geo.uses at *
  simp only [List.length_cons,spanP,List.length_take]
  omega

end Go.Proofs.YtdfanhjnkjdngaaGreatDoor

/- A log on a device: what stands there behind each commit and each apply, and that it is read as it was. -/
namespace Go.Proofs.YtdfanhjnkjdngaaGreatDoor
set_option maxRecDepth 100000
set_option maxHeartbeats 8000000
open Go.RowKit Go.Shelf
set_option linter.unusedVariables false

theorem Std.kept {G:Geo} {rd rd':Nat→List Int}:∀ {Ps:List Wl} {a q:Nat},Std G rd a q Ps→(∀ i,i < spanP Ps→rd' (G.ring (a + i))=rd (G.ring (a + i)))→Std G rd' a q Ps
 | [],a,q,h,hk=>trivial
 | W :: r,a,q,⟨h1,h2,h3,h4⟩,hk=>by
  refine ⟨h1,?_,fun i hi=>?_,h4.kept (fun i hi=>?_)⟩
  ·exact (hk 0 (by simp [spanP]; omega)).trans h2
  ·have:=hk (1 + i) (by simp [spanP]; omega)
   rw [show a + (1 + i)=a + 1 + i by omega] at this
   rw [this,h3 i hi]
  ·have:=hk (1 + W.length + i) (by simp [spanP]; omega)
   rwa [show a + (1 + W.length + i)=a + 1 + W.length + i by omega] at this

theorem Std.append {G:Geo} {rd:Nat→List Int} {B:List Wl}:∀ {A:List Wl} {a q:Nat},Std G rd a q A→Std G rd (a + spanP A) (q + A.length) B→Std G rd a q (A ++ B)
 | [],a,q,_,h=>by simpa [spanP] using h
 | W :: r,a,q,⟨h1,h2,h3,h4⟩,h=>by
  refine ⟨h1,h2,h3,h4.append ?_⟩
  rw [show a + 1 + W.length + spanP r=a + spanP (W :: r) by simp [spanP]; omega,show q + 1 + r.length=q + (W :: r).length by simp; omega]
  exact h

theorem spanP_append (A B:List Wl):spanP (A ++ B)=spanP A + spanP B:=by
 induction A with
 | nil=>simp [spanP]
 | cons W r ih=>simp [spanP,ih]; omega

theorem spanP_len (A:List Wl):A.length ≤ spanP A:=by
 induction A with
 | nil=>simp
 | cons W r ih=>simp [spanP]; omega

theorem blkE_sub {G:Geo} {ns ms:List Int} (h:blkE G ns=0) (hs:ms.Sublist ns):blkE G ms=0:=by
 obtain ⟨h1,h2⟩:=blkE_ok h
 unfold blkE
 rw [if_pos (List.all_eq_true.2 (fun b hb=>by simpa using h1 b (hs.subset hb))),if_pos (h2.sublist hs)]

theorem parts_std {G:Geo} (hG:G.Ok) (W:Wl):∀ (q a:Nat) (r:Nat→List Int),blkE G (W.map (fun x=>(x.1:Int)))=0→q + G.parts W.length ≤ 4294967295→G.uses W.length ≤ G.lg →
  Std G (rdS (partsS G q a W) r) a q (cutP G W)∧∀ j,(∀ i,i < G.uses W.length→j ≠ G.ring (a + i))→rdS (partsS G q a W) r j=r j:=by
 have hm:=hG.most
 refine cut_ind hG (P:=fun W=>∀ (q a:Nat) (r:Nat→List Int),blkE G (W.map (fun x=>(x.1:Int)))=0→q + G.parts W.length ≤ 4294967295→G.uses W.length ≤ G.lg →
  Std G (rdS (partsS G q a W) r) a q (cutP G W)∧∀ j,(∀ i,i < G.uses W.length→j ≠ G.ring (a + i))→rdS (partsS G q a W) r j=r j) ?_ (fun W hW ih=>?_) W
 ·intro q a r _ _ _
  rw [partsS_nil,cutP_nil]
  exact ⟨trivial,fun j _=>rfl⟩
 ·intro q a r hb hq hu
  have hl:0 < W.length:=List.length_pos_iff.2 hW
  have hp:=Geo.parts_step hG hl
  have hmin:(W.take G.most).length=min W.length G.most:=by rw [List.length_take]; omega
  have hdl:(W.drop G.most).length=W.length - min W.length G.most:=by rw [List.length_drop]; omega
  unfold Geo.uses at hu
  rw [partsS_cons hG q a hW,cutP_cons hG hW,rdS_append]
  obtain ⟨p1,p2,p3⟩:=part_in hG q a (W.take G.most) r (by omega)
  obtain ⟨s1,s2⟩:=ih (q + 1) (a + 1 + min W.length G.most) (rdS (partS G q a (W.take G.most)) r) (blkE_sub hb (by rw [List.map_drop]; exact List.drop_sublist _ _)) (by rw [hdl]; omega) (by unfold Geo.uses; rw [hdl]; omega)
  unfold Geo.uses at s2
  rw [hdl] at s2
  have keep:∀ i,i < 1 + (W.take G.most).length→rdS (partsS G (q + 1) (a + 1 + min W.length G.most) (W.drop G.most)) (rdS (partS G q a (W.take G.most)) r) (G.ring (a + i))=rdS (partS G q a (W.take G.most)) r (G.ring (a + i)):=fun i hi=>s2 _ (fun i' hi'=>ring_ne hG (by omega) (by omega))
  refine ⟨⟨⟨?_,by omega,blkE_sub hb (by rw [List.map_take]; exact List.take_sublist _ _),by omega⟩,?_,fun i hi=>?_,?_⟩,fun j hj=>?_⟩
  ·intro e
   rw [e] at hmin
   simp at hmin
   omega
  ·exact (keep 0 (by omega)).trans p1
  ·have:=keep (1 + i) (by omega)
   rw [show a + (1 + i)=a + 1 + i by omega] at this
   rw [this,p2 i hi]
  ·rw [hmin]
   exact s1
  ·unfold Geo.uses at hj
   rw [s2 j (fun i hi=>?_),p3 j (fun i hi=>hj i (by omega))]
   have:=hj (1 + min W.length G.most + i) (by omega)
   rwa [show a + (1 + min W.length G.most + i)=a + 1 + min W.length G.most + i by omega] at this

structure Inv (G:Geo) (rd:Nat→List Int) (L:Lg) (Ps:List Wl):Prop where
 hd:rd 1=hdB G L.h
 ok:L.h.Ok G
 sq:Ps.length ≤ L.h.seq
 std:Std G rd L.h.tail (L.h.seq - Ps.length) Ps
 sp:spanP Ps=L.h.used
 q:L.Q=setW (fun _=>none) Ps.flatten

theorem Inv.parse {G:Geo} (hG:G.Ok) {rd:Nat→List Int} {L:Lg} {Ps:List Wl} (h:Inv G rd L Ps) (hb:hdIs (hdB G L.h)∧hdOf (hdB G L.h)=L.h):Go.Proofs.YtdfanhjnkjdngaaGreatDoor.parse G rd=some ⟨L.h,L.Q,false⟩:=by
 have h1:=h.ok.used
 have h2:=hG.l2
 have h3:=spanP_len Ps
 have h4:=h.sp
 have h5:=h.sq
 unfold Go.Proofs.YtdfanhjnkjdngaaGreatDoor.parse
 rw [h.hd,hb.2,if_pos ⟨hb.1,h.ok.tail,h1⟩,go_std hG rd _ _ _ Ps 600 L.h.tail (L.h.seq - Ps.length) _ _ h.std (by omega) (by omega) (by congr 1; omega) (fun e=>?_) (Nat.le_refl _),← h.q]
 ·rfl
 ·rcases e with e | e
  ·rw [e]; simp
  ·omega

theorem rdS_stl (G:Geo) (h:Hd) (r:Nat→List Int):rdS (stlS G h) r=fun j=>if j=1 then hdB G h else r j:=rfl

theorem Inv.commit {G:Geo} (hG:G.Ok) {rd:Nat→List Int} {L:Lg} {Ps:List Wl} (h:Inv G rd L Ps) (W:Wl) (hb:blkE G (W.map (fun x=>(x.1:Int)))=0) (hq:L.h.seq + G.parts W.length ≤ 4294967295) (hu:L.h.used + G.uses W.length ≤ G.lg) (d:Bool) :
  Inv G (rdS (comS G L W) rd) ⟨G.after L.h W.length,setW L.Q W,d⟩ (Ps ++ cutP G W):=by
 have h4:=h.sp
 have h5:=h.sq
 have ht:=h.ok.tail
 obtain ⟨s1,s2⟩:=parts_std hG W L.h.seq (L.h.tail + L.h.used) rd hb hq (by omega)
 obtain ⟨c1,c2⟩:=cut_len hG W
 have e:rdS (comS G L W) rd=fun j=>if j=1 then hdB G (G.after L.h W.length) else rdS (partsS G L.h.seq (L.h.tail + L.h.used) W) rd j:=by
  unfold comS
  rw [rdS_append,rdS_stl]
 have ering:∀ i,rdS (comS G L W) rd (G.ring i)=rdS (partsS G L.h.seq (L.h.tail + L.h.used) W) rd (G.ring i):=fun i=>by
  rw [e]
  have:=(hG.ring i).1
  exact if_neg (by omega)
 refine ⟨by rw [e]; exact if_pos rfl,⟨hq,ht,hu⟩,?_,?_,?_,?_⟩
 ·show (Ps ++ cutP G W).length ≤ L.h.seq + G.parts W.length
  rw [List.length_append]; omega
 ·show Std G _ L.h.tail (L.h.seq + G.parts W.length - (Ps ++ cutP G W).length) (Ps ++ cutP G W)
  rw [List.length_append,c1,show L.h.seq + G.parts W.length - (Ps.length + G.parts W.length)=L.h.seq - Ps.length by omega]
  refine (h.std.kept (fun i hi=>?_)).append ?_
  ·rw [ering]
   exact s2 _ (fun i' hi'=>ring_ne hG (by omega) (by omega))
  ·rw [show L.h.seq - Ps.length + Ps.length=L.h.seq by omega,h4]
   exact s1.kept (fun i hi=>ering _)
 ·show spanP (Ps ++ cutP G W)=L.h.used + G.uses W.length
  rw [spanP_append,c2,h4]
 ·show setW L.Q W=_
  rw [List.flatten_append,cut_flat hG,setW_append,← h.q]

theorem Inv.apply {G:Geo} (hG:G.Ok) {rd:Nat→List Int} {L:Lg} {Ps:List Wl} (h:Inv G rd L Ps) (d:Bool):Inv G (rdS (aplS G L) rd) ⟨G.freed L.h,fun _=>none,d⟩ []:=by
 have hl:=hG.l1
 refine ⟨?_,⟨h.ok.seq,Nat.mod_lt _ (by omega),Nat.zero_le _⟩,Nat.zero_le _,trivial,rfl,rfl⟩
 unfold aplS
 rw [rdS_append,rdS_stl]
 exact if_pos rfl

end Go.Proofs.YtdfanhjnkjdngaaGreatDoor

/- What a crash may leave of a log: the elder one, or the newer one. -/
namespace Go.Proofs.YtdfanhjnkjdngaaGreatDoor
set_option maxRecDepth 100000
set_option maxHeartbeats 8000000
open Go.RowKit Go.Shelf
set_option linter.unusedVariables false

theorem ap_n (D:Dev) (s:Stp):(s.ap D).n=D.n:=by
 cases s with
 | w i z=>exact (Dev.wD_n D i z).1
 | f =>
  show D.fD.n=D.n
  unfold Dev.fD
  split <;> rfl

end Go.Proofs.YtdfanhjnkjdngaaGreatDoor

/- A crash in the midst of a commit. -/
namespace Go.Proofs.YtdfanhjnkjdngaaGreatDoor
set_option maxRecDepth 100000
set_option maxHeartbeats 8000000
open Go.RowKit Go.Shelf
set_option linter.unusedVariables false

theorem Inv.congr {G:Geo} (hG:G.Ok) {rd rd':Nat→List Int} {L:Lg} {Ps:List Wl} (h:Inv G rd L Ps) (h1:rd' 1=rd 1) (h2:∀ i,i < L.h.used→rd' (G.ring (L.h.tail + i))=rd (G.ring (L.h.tail + i))):Inv G rd' L Ps :=
 ⟨h1.trans h.hd,h.ok,h.sq,h.std.kept (fun i hi=>h2 i (by rw [← h.sp]; exact hi)),h.sp,h.q⟩

end Go.Proofs.YtdfanhjnkjdngaaGreatDoor

/- A crash in the midst of an apply. -/
namespace Go.Proofs.YtdfanhjnkjdngaaGreatDoor
set_option maxRecDepth 100000
set_option maxHeartbeats 8000000
open Go.RowKit Go.Shelf
set_option linter.unusedVariables false

theorem home_rd (G:Geo) (Q:Nat→Option (List Int)) (r:Nat→List Int) (j:Nat) (hj:j < G.n):rdS (homeS (pendW G Q)) r j=(Q j).getD (r j):=by
 have:∀ (l:List Nat) (r:Nat→List Int),rdS (homeS (l.map (fun b=>(b,(Q b).getD [])))) r j=if j ∈ l then (Q j).getD [] else r j:=by
  intro l
  induction l with
  | nil=>intro r; simp [homeS,rdS]
  | cons b t ih =>
   intro r
   rw [List.map_cons,homeS,rdS,ih]
   by_cases h1:j ∈ t
   ·rw [if_pos h1,if_pos (List.mem_cons_of_mem _ h1)]
   ·rw [if_neg h1]
    by_cases h2:j=b
    ·subst h2; simp
    ·simp [h1,h2]
 show rdS (homeS ((pendL G Q).map (fun b=>(b,(Q b).getD [])))) r j=_
 rw [this]
 by_cases h:(Q j).isSome=true
 ·obtain ⟨z,hz⟩:=Option.isSome_iff_exists.1 h
  rw [if_pos (by simp [pendL,hj,h]),hz]
  rfl
 ·rw [if_neg (by simp [pendL,hj]; simpa using h)]
  have:Q j=none:=by simpa using h
  rw [this]
  rfl

end Go.Proofs.YtdfanhjnkjdngaaGreatDoor

