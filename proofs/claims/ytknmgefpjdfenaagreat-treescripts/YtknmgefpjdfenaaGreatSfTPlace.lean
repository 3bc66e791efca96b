/- named and place. -/
import Derived.Test.YtknmgefpjdfenaaGreatSfTFind
import Derived.Deep.WholeRow
namespace Go.Proofs.YtknmgefpjdfenaaGreat
set_option maxRecDepth 100000
set_option maxHeartbeats 8000000
open Go.RowKit Go.Shelf Go.Maps
set_option linter.unusedVariables false

def C2 (u:World) (m:Nat) (x y:Value):Prop:=u.heap[m]?=some (.cells #[x,y] 92 (0,0))

theorem C2.c0 {u:World} {m:Nat} {x y:Value} (h:C2 u m x y):u.cell? ⟨m,0,none⟩=some x:=by simp [World.cell?,show u.heap[m]?=_ from h]

theorem C2.c1 {u:World} {m:Nat} {x y:Value} (h:C2 u m x y):u.cell? ⟨m,1,none⟩=some y:=by simp [World.cell?,show u.heap[m]?=_ from h]

theorem C2.free {u:World} {m:Nat} {x y:Value} (h:C2 u m x y) (k:Nat):u.frozen? ⟨m,k,none⟩=false:=by simp [World.frozen?,show u.heap[m]?=_ from h]

theorem C2.new (u:World) (x y:Value):C2 (u.alloc (.cells #[x,y] 92)) u.heap.size x y:=World.alloc_heap_new _ _

theorem C2.lt {u:World} {m:Nat} {x y:Value} (h:C2 u m x y):m < u.heap.size:=(Array.getElem?_eq_some_iff.1 h).1

theorem C2.below {u u':World} {m n:Nat} {x y:Value} (h:C2 u m x y) (hb:Below n u u') (hm:m < n):C2 u' m x y:=(hb.block m hm).trans h

theorem C2.set2 {u:World} {m:Nat} {x y:Value} (h:C2 u m x y) (x' y':Value):C2 ((u.setCell ⟨m,0,none⟩ x').setCell ⟨m,1,none⟩ y') m x' y':=by
 have h1:(u.setCell ⟨m,0,none⟩ x').heap[m]?=some (.cells #[x',y] 92 (0,0)):=by
  rw [setCell_eq_setRow u m 0 _ 92 (0,0) _ h,setRow_heap u m _ _ 92 _ h]; rfl
 unfold C2
 rw [setCell_eq_setRow _ m 1 _ 92 (0,0) _ h1,setRow_heap _ m _ _ 92 _ h1]
 rfl

theorem below_set2 {u v:World} {n m:Nat} (h:Below n u v) (hm:n ≤ m) (x y:Value):Below n u ((v.setCell ⟨m,0,none⟩ x).setCell ⟨m,1,none⟩ y):=(h.setCell (p:=⟨m,0,none⟩) hm x).setCell (p:=⟨m,1,none⟩) hm y

theorem named_any {w:World} {S:Nat→Prop} {g b:Nat} {s:Tr} {t:Th} (h:TM w S g s) (ht:s.T b=some t) (hk:t.k=2) {x:List UInt8} (hx:x.length ≤ 200) :
  Calls Tryz.prog 57 #[.agg #[.pointer (some ⟨b,0,none⟩),.string (St x)]] w fun e w'=>e=.returned (ptrO (t.ns.lookup x))∧Below w.heap.size w w':=by
 have hC:=C2.new w (.pointer (some ⟨b,0,none⟩)) (.string (St x))
 have hb0:Below w.heap.size w (w.alloc (.cells #[.pointer (some ⟨b,0,none⟩),.string (St x)] 92)):=(Below.refl _ w).alloc (Nat.le_refl _) _
 have h1:=h.below hb0
 have tm:=h1.dir_map ht hk
 have hlk:∀ n,(Instr.lookup 67 (.map (some t.mp)) (.string (St x)) false).run Tryz.prog ((w.alloc (.cells #[.pointer (some ⟨b,0,none⟩),.string (St x)] 92)).drewN n)=.ok (ptrO (t.ns.lookup x)) ((w.alloc (.cells #[.pointer (some ⟨b,0,none⟩),.string (St x)] 92)).drewN n):=fun n=>MapS.look (u:=(w.alloc (.cells #[.pointer (some ⟨b,0,none⟩),.string (St x)] 92)).drewN n) (h1.map b t ht hk) hx
 have k0:=hC.c0
 have k1:=hC.c1
 have HB:=hide hb0
 clear h ht hk hx hC h1 hb0
 generalize St x=sx at *
 generalize ptrO (t.ns.lookup x)=pv at *
 generalize t.mp=mp at *
 go_enter Tryz.func57,Tryz.ntmps57
 go_wp2_with fail
 generalize hm:w.heap.size=m at *
 generalize hw:w.alloc (.cells #[.pointer (some ⟨b,0,none⟩),.string sx] 92)=w1 at *
 go_quiet (fail)
 go_wp2_with fail
 go_ret
 refine ⟨rfl,?_⟩
 rw [hm]
 exact ⟨HB.out.os,HB.out.tape,HB.out.output,HB.out.size,HB.out.block⟩

def plc (s:Tr) (ms:List (List UInt8)) (r:Nat):Int × Option Nat :=
 match (go s ms r).2 with
 | none=>((go s ms r).1,none)
 | some b=>match s.T b with
  | none=>(0,none)
  | some t=>if t.k=1 then (13,none) else (0,some b)

def plA (s:Tr) (ms:List (List UInt8)) (z:List UInt8) (r:Nat):Value:=match (plc s ms r).2 with
 | none=>.tuple #[.agg #[.pointer none,.string ⟨#[]⟩],.int .i64 (plc s ms r).1]
 | some b=>.tuple #[.agg #[.pointer (some ⟨b,0,none⟩),.string (St z)],.int .i64 0]

theorem place_any {w:World} {S:Nat→Prop} {g r:Nat} {s:Tr} (h:TM w S g s) (hk:Ok s r) {p z:List UInt8} {ms:List (List UInt8)} (hp:spl p=some (ms ++ [z])) :
  Calls Tryz.prog 56 #[.pointer (some ⟨g,0,none⟩),.string (St p)] w fun e w'=>e=.returned (plA s ms z r)∧Below w.heap.size w w':=by
 have okm:spl (jn ms)=some ms:=by
  have:=okN_take (spl_some hp).1 ms.length
  rw [List.take_left] at this
  exact spl_jn this
 have KP:Hid (∀ u,Calls Tryz.prog 95 #[.string (St p)] u fun e w'=>e=.returned (.tuple #[.string (St (jn ms)),.string (St z),.int .i64 0])∧Below u.heap.size u w'):=fun u=>parent_yes u hp
 have KF:Hid (∀ u,TM u S g s→Calls Tryz.prog 53 #[.pointer (some ⟨g,0,none⟩),.string (St (jn ms))] u fun e w'=>e=.returned (.tuple #[ptrO (go s ms r).2,.int .i64 (go s ms r).1])∧Below u.heap.size u w'):=fun u hu=>find_any hu hk okm
 have hdir:=hk.dir
 have hE:=go_ends hk ms r (by obtain ⟨t,ht,_⟩:=hdir; exact ⟨t,ht⟩)
 have HK:=hide hk
 have hC:=C2.new w (.pointer none) (.string ⟨#[]⟩)
 have hb0:Below w.heap.size w (w.alloc (.cells #[.pointer none,.string ⟨#[]⟩] 92)):=(Below.refl _ w).alloc (Nat.le_refl _) _
 have HT:=hide (h.below hb0)
 have HC:=hide hC
 have HB:=hide hb0
 have hmlt:w.heap.size < (w.alloc (.cells #[.pointer none,.string ⟨#[]⟩] 92)).heap.size:=by simp
 clear h hk hp okm hdir hC hb0
 generalize St p=sp at *
 generalize St (jn ms)=sm at *
 generalize hz:St z=sz at *
 go_enter Tryz.func56,Tryz.ntmps56
 go_wp2_with fail
 generalize hm:w.heap.size=m at *
 generalize w.alloc (.cells #[.pointer none,.string ⟨#[]⟩] 92)=w1 at *
 refine (unhide KP _).mono ?_
 rintro e w2 ⟨rfl,hb⟩
 have HT:=hide (HT.out.below hb)
 have HC:=hide (HC.out.below hb hmlt)
 have HB:=hide (HB.out.trans (hb.mono (Nat.le_of_lt hmlt)))
 have KF:=hide (KF.out w2 HT.out)
 clear KP hb hmlt
 go_wp2_with fail
 refine (unhide KF).mono ?_
 rintro e w3 ⟨rfl,hb⟩
 have hmlt:=HC.out.lt
 have HT:=hide (HT.out.below hb)
 have HC:=hide (HC.out.below hb hmlt)
 have HB:=hide (HB.out.trans (hb.mono (Nat.le_of_lt hmlt)))
 clear KF hb hmlt
 have k0:=HC.out.c0
 have k1:=HC.out.c1
 have kf:=HC.out.free
 rcases hE with ⟨h1,c,t,h2,ht⟩ | ⟨h1,h2⟩
 ·rw [h1,h2]
  simp only [ptrO,Option.map_some]
  obtain ⟨t0,_,_,_,_,_⟩:=HT.out.thing_cells ht
  rcases HK.out.kind c t ht with hq | hq
  ·rw [hq] at t0
   have HP:Hid (plA s ms z r=.tuple #[.agg #[.pointer none,.string ⟨#[]⟩],.int .i64 13]):=by
    unfold Hid plA plc; rw [h2]; simp [ht,hq]
   have HF:=hide (HC.out.set2 (.pointer none) (.string ⟨#[]⟩))
   have HG:=hide (below_set2 HB.out (Nat.le_refl _) (.pointer none) (.string ⟨#[]⟩))
   clear h1 h2 ht hq HT HK HC
   go_wp2_with fail
   change bodyPost _ _ _ _ _ ((w3.setCell ⟨m,0,none⟩ (.pointer none)).setCell ⟨m,1,none⟩ (.string ⟨#[]⟩))
   generalize (w3.setCell ⟨m,0,none⟩ (.pointer none)).setCell ⟨m,1,none⟩ (.string ⟨#[]⟩)=wf at *
   refine bodyPost_ret (v:=.tuple #[.agg #[.pointer none,.string ⟨#[]⟩],.int .i64 13]) ?_ rfl ⟨by rw [HP.out],?_⟩
   ·simp [results,Tryz.results56,go_sem,HF.out.c0,HF.out.c1]
   ·rw [hm]; exact HG.out
  ·have d1:(t.k == 1)=false:=by rw [hq]; rfl
   have HP:Hid (plA s ms z r=.tuple #[.agg #[.pointer (some ⟨c,0,none⟩),.string sz],.int .i64 0]):=by
    unfold Hid plA plc; rw [h2]; simp [ht,hq,hz]
   have HF:=hide (HC.out.set2 (.pointer (some ⟨c,0,none⟩)) (.string sz))
   have HG:=hide (below_set2 HB.out (Nat.le_refl _) (.pointer (some ⟨c,0,none⟩)) (.string sz))
   clear h1 h2 ht hq HT HK HC
   generalize t.k=tk at *
   go_wp2_with fail
   change bodyPost _ _ _ _ _ ((w3.setCell ⟨m,0,none⟩ (.pointer (some ⟨c,0,none⟩))).setCell ⟨m,1,none⟩ (.string sz))
   generalize (w3.setCell ⟨m,0,none⟩ (.pointer (some ⟨c,0,none⟩))).setCell ⟨m,1,none⟩ (.string sz)=wf at *
   refine bodyPost_ret (v:=.tuple #[.agg #[.pointer (some ⟨c,0,none⟩),.string sz],.int .i64 0]) ?_ rfl ⟨by rw [HP.out],?_⟩
   ·simp [results,Tryz.results56,go_sem,HF.out.c0,HF.out.c1]
   ·rw [hm]; exact HG.out
 ·have HP:Hid (plA s ms z r=.tuple #[.agg #[.pointer none,.string ⟨#[]⟩],.int .i64 (go s ms r).1]):=by
   unfold Hid plA plc; rw [h2]
  rw [h2]
  simp only [ptrO,Option.map_none]
  have d1:((go s ms r).1 != 0)=true:=by rcases h1 with e | e <;> rw [e] <;> rfl
  have HF:=hide (HC.out.set2 (.pointer none) (.string ⟨#[]⟩))
  have HG:=hide (below_set2 HB.out (Nat.le_refl _) (.pointer none) (.string ⟨#[]⟩))
  clear h1 h2 HT HK HC
  generalize (go s ms r).1=ee at *
  go_wp2_with fail
  change bodyPost _ _ _ _ _ ((w3.setCell ⟨m,0,none⟩ (.pointer none)).setCell ⟨m,1,none⟩ (.string ⟨#[]⟩))
  generalize (w3.setCell ⟨m,0,none⟩ (.pointer none)).setCell ⟨m,1,none⟩ (.string ⟨#[]⟩)=wf at *
  refine bodyPost_ret (v:=.tuple #[.agg #[.pointer none,.string ⟨#[]⟩],.int .i64 ee]) ?_ rfl ⟨by rw [HP.out],?_⟩
  ·simp [results,Tryz.results56,go_sem,HF.out.c0,HF.out.c1]
  ·rw [hm]; exact HG.out

end Go.Proofs.YtknmgefpjdfenaaGreat
