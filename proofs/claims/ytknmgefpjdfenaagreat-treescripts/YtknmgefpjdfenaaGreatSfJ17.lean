/- Joined: VSplit, VAbove, VRSplit. -/
import Derived.Test.YtknmgefpjdfenaaGreatSfVJoin
import Derived.Test.YtknmgefpjdfenaaGreatSfJ15
import Derived.Test.YtknmgefpjdfenaaGreatSfJ7
import Derived.Test.YtknmgefpjdfenaaGreatSfJ4
/- walk.Split: every text. -/
namespace Go.Proofs.YtknmgefpjdfenaaGreat
set_option maxRecDepth 100000
set_option maxHeartbeats 8000000
open Go.RowKit Go.Shelf
set_option linter.unusedVariables false

theorem app1S {B:Nat} {w:World} {a:Option Addr} {n c:Nat} {xs:List (List UInt8)} (h:OwnS B w a n c xs) (hB:B ≤ w.heap.size) (x:List UInt8) (hn:n + 1 ≤ 8796093022208) :
  ∃ a' c' w',(∀ ty,(Builtin.append_ #[103,103] ty #[.slice a n c,.slice (some ⟨w.heap.size,0,none⟩) 1 1]).run Tryz.prog (w.alloc (.cells #[.string (St x)] 9))=.ok (.slice a' (n + 1) c') w')∧OwnS B w' a' (n + 1) c' (xs ++ [x]) ∧
   (∀ k,k < w.heap.size→(∀ g,a=some ⟨g,0,none⟩→k ≠ g)→w'.heap[k]?=w.heap[k]?)∧Below B w w':=by
 have hb0:Below w.heap.size w (w.alloc (.cells #[.string (St x)] 9)):=(Below.refl _ w).alloc (Nat.le_refl _) _
 have h1:=h.below hb0 (Nat.le_refl _)
 have h2:HasS (w.alloc (.cells #[.string (St x)] 9)) (some ⟨w.heap.size,0,none⟩) 1 [x]:=by
  refine ⟨rfl,fun _=>⟨w.heap.size,0,rfl,by simp,fun j hj=>?_⟩⟩
  obtain rfl:j=0:=by omega
  simp only [World.cell?,World.alloc_heap_new]
  rfl
 obtain ⟨a',c',w',r,o,k,b⟩:=run_appS h1 (by have:=hb0.size; omega) 1 h2 hn
 refine ⟨a',c',w',r,o,fun i hi hne=>?_,(hb0.mono hB).trans b⟩
 rw [k i (by have:=hb0.size; omega) hne]
 exact hb0.block i hi

def strLen:Value→Nat
 | .string s=>s.size
 | _=>0

def restLen (g:Nat) (w:World):Nat:=strLen ((w.cell? ⟨g,0,none⟩).getD (.bool false))

def SpI (w:World) (p:List UInt8) (g:Nat) (a:Option Addr) (k c:Nat) (x:List UInt8) (wr:World):Prop :=
 ∃ ds r,ds.length=k∧OwnS (g + 1) wr a k c ds∧wr.heap[g]?=some (bx r)∧Below w.heap.size w wr∧w.heap.size ≤ g∧g < wr.heap.size∧ds.length + x.length + r.length ≤ 200 ∧
  nms p=ds ++ (if x=[] then [] else x :: nm r)

theorem SpI.stop {w wr:World} {p:List UInt8} {g k c:Nat} {a:Option Addr} (h:SpI w p g a k c [] wr):OwnS w.heap.size wr a k c (nms p)∧Below w.heap.size w wr∧(nms p).length=k:=by
 obtain ⟨ds,r,h1,h2,h3,h4,h5,h6,h7,h8⟩:=h
 rw [if_pos rfl,List.append_nil] at h8
 rw [h8]
 exact ⟨h2.base (by omega),h4,h1⟩

theorem SpI.small {w wr:World} {p x:List UInt8} {g k c:Nat} {a:Option Addr} (h:SpI w p g a k c x wr):k ≤ 200:=by
 obtain ⟨ds,r,h1,h2,h3,h4,h5,h6,h7,h8⟩:=h
 omega

theorem setBox {w:World} {g:Nat} {l r:List UInt8} (h:w.heap[g]?=some (bx l)) (n:Nat):((w.drewN n).setCell ⟨g,0,none⟩ (sv r)).heap[g]?=some (bx r):=by
 have h':(w.drewN n).heap[g]?=some (.cells #[sv l] 9 (0,0)):=h
 rw [setCell_eq_setRow _ g 0 _ 9 (0,0) _ h',setRow_heap _ g _ _ 9 _ h']
 rfl

theorem setOther {w:World} {g k:Nat} {v:Value} (n:Nat) (h:k ≠ g):((w.drewN n).setCell ⟨g,0,none⟩ v).heap[k]?=w.heap[k]?:=by
 simp only [World.setCell]
 rw [Array.getElem?_modify,if_neg (fun e=>h e.symm)]
 rfl

theorem setSize (w:World) (g n:Nat) (v:Value):((w.drewN n).setCell ⟨g,0,none⟩ v).heap.size=w.heap.size:=by
 simp [World.setCell,World.drewN]

theorem setBelow {w0 w:World} {m g n:Nat} {v:Value} (h:Below m w0 w) (hg:m ≤ g):Below m w0 ((w.drewN n).setCell ⟨g,0,none⟩ v) :=
 ⟨h.os,h.tape,h.output,by rw [setSize]; exact h.size,fun k hk=>by rw [setOther n (by omega)]; exact h.block k hk⟩

theorem SpI.start {w wr:World} {p:List UInt8} (h:Below w.heap.size w wr) (hp:p.length ≤ 200) (n:Nat) :
  SpI w p wr.heap.size none 0 0 (cutN (drop1 p)).1 (((wr.alloc (bx (drop1 p))).drewN n).setCell ⟨wr.heap.size,0,none⟩ (sv (cutN (drop1 p)).2)):=by
 have hb0:Below w.heap.size w (wr.alloc (bx (drop1 p))):=h.alloc h.size _
 refine ⟨[],(cutN (drop1 p)).2,rfl,OwnS.nil _ _,setBox (l:=drop1 p) (by rw [World.alloc_heap_new]) n,setBelow hb0 h.size,h.size,by rw [setSize]; simp,?_,?_⟩
 ·have:=cutN_len (drop1 p)
  have:=drop1_len p
  simp; omega
 ·rw [List.nil_append]; exact nm_step _

theorem SpI.next {w wr:World} {p x:List UInt8} {g k c:Nat} {a:Option Addr} (h:SpI w p g a k c x wr) (hx:x ≠ []) :
  ∃ a' c' w1 r,(∀ ty,(Builtin.append_ #[103,103] ty #[.slice a k c,.slice (some ⟨wr.heap.size,0,none⟩) 1 1]).run Tryz.prog (wr.alloc (.cells #[.string (St x)] 9))=.ok (.slice a' (k + 1) c') w1) ∧
   w1.heap[g]?=some (bx r)∧r.length ≤ 200∧(∀ n,SpI w p g a' (k + 1) c' (cutN r).1 ((w1.drewN n).setCell ⟨g,0,none⟩ (sv (cutN r).2)) ∧
   (cutN r).1.length + restLen g ((w1.drewN n).setCell ⟨g,0,none⟩ (sv (cutN r).2)) < x.length + restLen g wr):=by
 obtain ⟨ds,r,h1,h2,h3,h4,h5,h6,h7,h8⟩:=h
 obtain ⟨a',c',w1,r1,o1,k1,b1⟩:=app1S h2 (by omega) x (by omega)
 have hg1:w1.heap[g]?=some (bx r):=by
  rw [k1 g h6 (fun g' e=>by have:=(h2.lt e).2; omega)]
  exact h3
 have hbw:Below w.heap.size w w1:=h4.trans (b1.mono (by omega))
 have hx1:1 ≤ x.length:=by
  cases x with
  | nil=>exact absurd rfl hx
  | cons _ _=>simp
 have hcl:=cutN_len r
 refine ⟨a',c',w1,r,r1,hg1,by omega,fun n=>⟨⟨ds ++ [x],(cutN r).2,by simp [h1],?_,setBox hg1 n,setBelow hbw h5,h5,by rw [setSize]; exact Nat.lt_of_lt_of_le h6 b1.size,?_,?_⟩,?_⟩⟩
 ·exact o1.kept (fun g' e=>setOther n (by have:=(o1.lt e).2; omega))
 ·simp; omega
 ·rw [h8,if_neg hx,List.append_assoc,List.singleton_append,← nm_step]
 ·have e1:restLen g ((w1.drewN n).setCell ⟨g,0,none⟩ (sv (cutN r).2))=(cutN r).2.length:=by
   unfold restLen
   rw [cell_box (setBox hg1 n)]
   exact St_size _
  have e2:restLen g wr=r.length:=by
   unfold restLen
   rw [cell_box h3]
   exact St_size _
  rw [e1,e2]
  omega

theorem split_any (p:List UInt8) (w:World) (hp:p.length ≤ 9223372036854775807) :
  Calls Tryz.prog 93 #[.string (St p)] w fun e w'=>∃ a c,e=.returned (.tuple #[.slice a ((spl p).getD []).length c,.int .i64 (splE p)])∧OwnS w.heap.size w' a ((spl p).getD []).length c ((spl p).getD [])∧Below w.heap.size w w':=by
 have hs:=St_size p
 by_cases h200:p.length ≤ 200
 ·have KC:=hide (clone_any p w (by omega))
  have KS:Hid (∀ u,Calls Tryz.prog 113 #[.string (St p)] u fun e w'=>e=.returned (.func (.func 130) #[] #[.pointer (some ⟨u.heap.size,0,none⟩)])∧w'=u.alloc (bx (drop1 p))):=fun u=>seeker_any p u
  have d1:decide (((St p).size:Int) > 200)=false:=by rw [hs]; simp; omega
  have hd:=drop1_len p
  have HP:=hide h200
  generalize hS:St p=s at *
  go_enter Tryz.func93,Tryz.ntmps93
  go_wp2_with fail
  refine (unhide KC).mono ?_
  rintro e w1 ⟨rfl,hb⟩
  have HB:=hide hb
  clear KC hb
  go_wp2_with fail
  refine ((unhide KS) _).mono ?_
  rintro e w2 ⟨rfl,rfl⟩
  clear KS
  have KN:=hide (next_any (drop1 p) w1.heap.size (w1.alloc (bx (drop1 p))) (by omega) (by rw [World.alloc_heap_new]))
  have HSt:Hid (∀ n,SpI w p w1.heap.size none 0 0 (cutN (drop1 p)).1 (((w1.alloc (bx (drop1 p))).drewN n).setCell ⟨w1.heap.size,0,none⟩ (sv (cutN (drop1 p)).2))):=fun n=>SpI.start HB.out h200 n
  generalize w1.alloc (bx (drop1 p))=w2 at *
  generalize w1.heap.size=g at *
  go_wp2_with fail
  refine (unhide KN).mono ?_
  rintro e w3 ⟨rfl,n,rfl⟩
  have HSt:=hide (HSt.out n)
  clear KN HB
  generalize (w2.drewN n).setCell ⟨g,0,none⟩ (sv (cutN (drop1 p)).2)=w3 at *
  generalize (cutN (drop1 p)).1=x0 at *
  go_wp2_with fail
  go_loopw [5,6] (fun l v wr=>∃ a k c x,l=.slice a k c∧v=.string (St x)∧Hid (SpI w p g a k c x wr)) (fun _ v wr=>strLen v + restLen g wr)
  case atStart=>exact ⟨none,0,0,x0,rfl,rfl,HSt⟩
  case round =>
   obtain ⟨a,k,c,x,rfl,rfl,hI⟩:=hrel
   by_cases hx:x=[]
   ·subst hx
    obtain ⟨hO,hB,hk⟩:=hI.out.stop
    have KJ:=join_any a k c (nms p) wr hO.has hO.2.1 (by have:=hI.out.small; omega) (fun j=>nms_get p (by omega) j)
    have HR:Hid (OwnS w.heap.size wr a k c (nms p)∧Below w.heap.size w wr∧(nms p).length=k):=⟨hO,hB,hk⟩
    have hsp:Hid (spl p=if okN (nms p)=true∧jn (nms p)=p then some (nms p) else none):=rfl
    have hstS:=hide (St_toList p)
    rw [hS] at hstS
    have d0:(St []).toList.isEmpty=true:=by rw [St_toList]; rfl
    clear hO hB hk hI HSt
    generalize hS0:St []=s0 at *
    by_cases ok:okN (nms p)=true
    ·by_cases hj:jn (nms p)=p
     ·have hsp:Hid (spl p=some (nms p)):=if_pos ⟨ok,hj⟩
      unfold jnV jnE at KJ
      rw [if_pos ok,if_pos ok,hj,hS] at KJ
      have KJ:=hide KJ
      clear ok hj
      go_wp2_with fail
      refine (unhide KJ).mono ?_
      rintro e w4 ⟨rfl,hb⟩
      have HB:=hide hb
      clear KJ hb
      go_wp2_with fail
      go_ret2
      obtain ⟨h1,h2,h3⟩:=HR.out
      refine ⟨a,c,?_,?_,h2.trans (HB.out.mono h2.size)⟩
      ·unfold splE; rw [hsp.out]; exact congrArg (fun m=>Ending.returned (.tuple #[.slice a m c,.int .i64 0])) h3.symm
      ·rw [hsp.out]; show OwnS _ _ _ (nms p).length _ (nms p); rw [h3]; exact h1.below HB.out (Nat.le_refl _)
     ·have hsp:Hid (spl p=none):=if_neg (fun h=>hj h.2)
      unfold jnV jnE at KJ
      rw [if_pos ok,if_pos ok] at KJ
      have d4:((St (jn (nms p))).toList == s.toList)=false:=by rw [St_toList,hstS.out]; simpa using hj
      have KJ:=hide KJ
      clear ok hj
      generalize St (jn (nms p))=sj at *
      go_wp2_with fail
      refine (unhide KJ).mono ?_
      rintro e w4 ⟨rfl,hb⟩
      have HB:=hide hb
      clear KJ hb
      go_wp2_with fail
      go_ret2
      obtain ⟨h1,h2,h3⟩:=HR.out
      refine ⟨none,0,?_,?_,h2.trans (HB.out.mono h2.size)⟩
      ·unfold splE; rw [hsp.out]; rfl
      ·rw [hsp.out]; exact OwnS.nil _ _
    ·have hsp:Hid (spl p=none):=if_neg (fun h=>ok h.1)
     unfold jnV jnE at KJ
     rw [if_neg ok,if_neg ok,hS0] at KJ
     have KJ:=hide KJ
     clear ok
     go_wp2_with fail
     refine (unhide KJ).mono ?_
     rintro e w4 ⟨rfl,hb⟩
     have HB:=hide hb
     clear KJ hb
     go_wp2_with fail
     go_ret2
     obtain ⟨h1,h2,h3⟩:=HR.out
     refine ⟨none,0,?_,?_,h2.trans (HB.out.mono h2.size)⟩
     ·unfold splE; rw [hsp.out]; rfl
     ·rw [hsp.out]; exact OwnS.nil _ _
   ·obtain ⟨a',c',w1,r,R1,hg,hr,HN⟩:=hI.out.next hx
    have KN:=hide (next_any r g w1 (by omega) hg)
    have HN:=hide HN
    have R1:=hide R1
    have d3:((St x).toList == [])=false:=by rw [St_toList]; simpa using hx
    have HL:=hide (St_size x)
    clear hI hg hx HSt
    generalize hsx:St x=sx at *
    go_wp2_with (at_builtin; refine wpList_append_run 103 rfl _ _ rfl _ _ _ rfl rfl (unhide R1) ?_; clear R1)
    refine (unhide KN).mono ?_
    rintro e w4 ⟨rfl,n,rfl⟩
    obtain ⟨hN1,hN2⟩:=HN.out n
    have HN1:=hide hN1
    have HN2:=hide hN2
    clear KN HN hN1 hN2
    generalize (w1.drewN n).setCell ⟨g,0,none⟩ (sv (cutN r).2)=w4 at *
    have HL2:=hide (St_size (cutN r).1)
    generalize (cutN r).1=x' at *
    go_wp2_with fail
    go_roundw
    case rel=>exact ⟨a',k + 1,c',x',rfl,rfl,HN1⟩
    case measure =>
     have h1:=HN2.out
     have h2:=HL.out
     have h3:=HL2.out
     show (St x').size + restLen g w4 < sx.size + restLen g wr
     rw [h2,h3]
     exact h1
 ·have hn:spl p=none:=by
   cases h:spl p with
   | none=>rfl
   | some ns=>exact absurd (spl_len h) h200
  unfold splE
  rw [hn]
  show Calls _ _ _ _ fun e w'=>∃ a c,e=.returned (.tuple #[.slice a 0 c,.int .i64 16])∧OwnS w.heap.size w' a 0 c []∧_
  have d1:decide (((St p).size:Int) > 200)=true:=by rw [hs]; simp; omega
  have hp':(St p).size ≤ 9223372036854775807:=by rw [hs]; exact hp
  generalize St p=s at *
  clear hs hn h200 hp
  go_enter Tryz.func93,Tryz.ntmps93
  go_wp2_with fail
  go_ret2
  exact ⟨none,0,rfl,OwnS.nil _ _,Below.refl _ _⟩

end Go.Proofs.YtknmgefpjdfenaaGreat

/- walk.Parent, walk.Above, and the fixed call of the laws. -/
namespace Go.Proofs.YtknmgefpjdfenaaGreat
set_option maxRecDepth 100000
set_option maxHeartbeats 8000000
open Go.RowKit Go.Shelf
set_option linter.unusedVariables false

def abo (xs ys:List (List UInt8)):Bool:=decide (xs.length ≤ ys.length) && decide (xs=ys.take xs.length)

theorem splE_none {p:List UInt8} (h:spl p=none):splE p=16:=by unfold splE; rw [h]; rfl

theorem splE_some {p:List UInt8} {ns:List (List UInt8)} (h:spl p=some ns):splE p=0:=by unfold splE; rw [h]; rfl

theorem split_no {p:List UInt8} (w:World) (hp:p.length ≤ 9223372036854775807) (h:spl p=none) :
  Calls Tryz.prog 93 #[.string (St p)] w fun e w'=>(∃ a c,e=.returned (.tuple #[.slice a 0 c,.int .i64 16]))∧Below w.heap.size w w':=by
 refine (split_any p w hp).mono ?_
 rintro e w' ⟨a,c,rfl,ho,hb⟩
 rw [splE_none h,h]
 exact ⟨⟨a,c,rfl⟩,hb⟩

theorem split_yes {p:List UInt8} {ns:List (List UInt8)} (w:World) (h:spl p=some ns) :
  Calls Tryz.prog 93 #[.string (St p)] w fun e w'=>∃ a c,e=.returned (.tuple #[.slice a ns.length c,.int .i64 0])∧OwnS w.heap.size w' a ns.length c ns∧Below w.heap.size w w':=by
 refine (split_any p w (by have:=spl_len h; omega)).mono ?_
 rintro e w' ⟨a,c,rfl,ho,hb⟩
 rw [splE_some h,h]
 rw [h] at ho
 exact ⟨a,c,rfl,ho,hb⟩

theorem above_yes {a b:List UInt8} {xs ys:List (List UInt8)} (w:World) (ha:spl a=some xs) (hb:spl b=some ys) :
  Calls Tryz.prog 55 #[.string (St a),.string (St b)] w fun e w'=>e=.returned (.tuple #[.bool (abo xs ys),.int .i64 0])∧Below w.heap.size w w':=by
 have h16:=((okN_iff ys).1 (spl_some hb).1).1
 have h16':=((okN_iff xs).1 (spl_some ha).1).1
 have K:=hide (split_yes w ha)
 have K2:Hid (∀ u,Calls Tryz.prog 93 #[.string (St b)] u fun e w'=>∃ a c,e=.returned (.tuple #[.slice a ys.length c,.int .i64 0])∧OwnS u.heap.size w' a ys.length c ys∧Below u.heap.size u w'):=fun u=>split_yes u hb
 have hn:=hide (Eq.refl xs.length)
 have hm:=hide (Eq.refl ys.length)
 unfold abo
 clear ha hb
 generalize St a=sa at *
 generalize St b=sb at *
 by_cases hle:xs.length ≤ ys.length
 ·have KE:Hid (∀ x y c1 c2 u,HasS u x xs.length xs→HasS u y ys.length ys→Calls Tryz.prog 94 #[.slice x xs.length c1,.slice y xs.length c2] u fun e w'=>e=.returned (.bool (decide (xs.length ≤ ys.length) && decide (xs=ys.take xs.length)))∧∃ m,w'=u.drewN m):=by
   intro x y c1 c2 u h1 h2
   have e:(decide (xs.length ≤ ys.length) && decide (xs=ys.take xs.length))=decide (xs=ys.take xs.length):=by simp [hle]
   rw [e]
   exact equal_any x y xs.length c1 c2 xs (ys.take xs.length) u h1 (h2.take hle) (by omega)
  generalize (decide (xs.length ≤ ys.length) && decide (xs=ys.take xs.length))=q at *
  generalize hN:xs.length=n at *
  generalize hM:ys.length=m at *
  have d1:decide ((n:Int) ≤ (m:Int))=true:=by simp; omega
  go_enter Tryz.func55,Tryz.ntmps55
  go_wp2_with fail
  refine (unhide K).mono ?_
  rintro e w1 ⟨x,c,rfl,ho,hb⟩
  have HB:=hide hb
  have HO:=hide ho
  clear K hb ho
  go_wp2_with fail
  refine (unhide K2 _).mono ?_
  rintro e w2 ⟨y,c2,rfl,ho,hb⟩
  have hcut:(Instr.slice 103 (.slice y m c2) none (some (.int .i64 (n:Int))) none).run Tryz.prog w2=.ok (.slice y n c2) w2:=by
   have:=run_cutS_h y m c2 n (by have:=ho.2.1; omega) w2
   rwa [cutAt_zero] at this
  have KE:=hide (KE.out x y c c2 w2 ((HO.out.below hb (Nat.le_refl _)).has) ho.has)
  have HB:=hide (HB.out.trans (hb.mono HB.out.size))
  clear K2 hb ho HO
  go_wp2_with fail
  refine (unhide KE).mono ?_
  rintro e w3 ⟨rfl,k,rfl⟩
  clear KE
  go_wp2_with fail
  go_ret2
  exact ⟨rfl,HB.out.os,HB.out.tape,HB.out.output,HB.out.size,HB.out.block⟩
 ·have e:(decide (xs.length ≤ ys.length) && decide (xs=ys.take xs.length))=false:=by simp [hle]
  rw [e]
  clear e
  generalize hN:xs.length=n at *
  generalize hM:ys.length=m at *
  have d1:decide ((n:Int) ≤ (m:Int))=false:=by simp; omega
  go_enter Tryz.func55,Tryz.ntmps55
  go_wp2_with fail
  refine (unhide K).mono ?_
  rintro e w1 ⟨x,c,rfl,ho,hb⟩
  have HB:=hide hb
  clear K hb ho
  go_wp2_with fail
  refine (unhide K2 _).mono ?_
  rintro e w2 ⟨y,c2,rfl,ho,hb⟩
  have HB:=hide (HB.out.trans (hb.mono HB.out.size))
  clear K2 hb ho
  go_wp2_with fail
  go_ret2
  exact ⟨rfl,HB.out⟩

theorem parent_yes {p z:List UInt8} {ms:List (List UInt8)} (w:World) (h:spl p=some (ms ++ [z])) :
  Calls Tryz.prog 95 #[.string (St p)] w fun e w'=>e=.returned (.tuple #[.string (St (jn ms)),.string (St z),.int .i64 0])∧Below w.heap.size w w':=by
 have ok:=(spl_some h).1
 have h16:=((okN_iff _).1 ok).1
 have hmem:=((okN_iff _).1 ok).2.1
 have okm:okN ms=true:=by
  have:=okN_take ok ms.length
  rwa [List.take_left] at this
 have K:=hide (split_yes w h)
 have hl:(ms ++ [z]).length=ms.length + 1:=by simp
 have KJ:Hid (∀ a c u,OwnS w.heap.size u a (ms ++ [z]).length c (ms ++ [z])→Calls Tryz.prog 114 #[.slice a ms.length c] u fun e w'=>e=.returned (.tuple #[.string (St (jn ms)),.int .i64 0])∧Below u.heap.size u w'):=by
  intro a c u ho
  have hh:=ho.has.take (k:=ms.length) (by omega)
  rw [List.take_left] at hh
  have:=join_any a ms.length c ms u hh (by have:=ho.2.1; omega) (by omega) (fun j=>by
   cases hj:ms[j]? with
   | none=>simp
   | some y=>have:=(nmB_len (hmem y (by simp [List.mem_of_getElem? hj]))).2; simp; omega)
  unfold jnV jnE at this
  rwa [if_pos okm,if_pos okm] at this
 have HZ:Hid (∀ a c u,OwnS w.heap.size u a (ms ++ [z]).length c (ms ++ [z])→∃ g,a=some ⟨g,0,none⟩∧u.cell? ⟨g,ms.length,none⟩=some (.string (St z))):=by
  intro a c u ho
  obtain ⟨g,e,_,_,hc,_⟩:=ho.cell (j:=ms.length) (by omega)
  refine ⟨g,e,?_⟩
  rw [hc]
  simp [sv]
 clear h ok hmem okm
 rw [hl] at K KJ HZ h16
 generalize St p=sp at *
 generalize St (jn ms)=sj at *
 generalize St z=sz at *
 generalize hM:ms.length=m at *
 have e1:((m + 1:Nat):Int) - 1=(m:Int):=by omega
 have d0:(((m + 1:Nat):Int) == 0)=false:=by simp; omega
 generalize hN:m + 1=n at *
 go_enter Tryz.func95,Tryz.ntmps95
 go_wp2_with fail
 refine (unhide K).mono ?_
 rintro e w1 ⟨x,c,rfl,ho,hb⟩
 have HB:=hide hb
 obtain ⟨g,rfl,hc⟩:=HZ.out x c w1 ho
 have hcut:(Instr.slice 103 (.slice (some ⟨g,0,none⟩) n c) none (some (.int .i64 (m:Int))) none).run Tryz.prog w1=.ok (.slice (some ⟨g,0,none⟩) m c) w1:=by
  have:=run_cutS_h (some ⟨g,0,none⟩) n c m (by have:=ho.2.1; omega) w1
  rwa [cutAt_zero] at this
 have KJ:=hide (KJ.out _ c w1 ho)
 have hg:g < w1.heap.size:=(ho.lt rfl).1
 clear K hb ho HZ
 go_wp2_with fail
 refine (unhide KJ).mono ?_
 rintro e w2 ⟨rfl,hb⟩
 have HB:=hide (HB.out.trans (hb.mono HB.out.size))
 have hc2:w2.cell? ⟨g,m,none⟩=some (.string sz):=(hb.cell (p:=⟨g,m,none⟩) hg).trans hc
 have c1:(0:Int) ≤ (m:Int):=by omega
 have c2:(m:Int) < (n:Int):=by omega
 clear KJ hb hc hcut
 go_wp2_with fail
 go_quiet (fail)
 go_wp2_with fail
 go_ret3
 exact ⟨rfl,HB.out.os,HB.out.tape,HB.out.output,HB.out.size,HB.out.block⟩

end Go.Proofs.YtknmgefpjdfenaaGreat

/- skerryref16.Split: every text. -/
namespace Go.Proofs.YtknmgefpjdfenaaGreat
set_option maxRecDepth 100000
set_option maxHeartbeats 8000000
open Go.RowKit Go.Shelf
set_option linter.unusedVariables false

theorem flat_segs (t:List UInt8):flat (segs t)=47 :: t:=by
 induction t with
 | nil=>rfl
 | cons b t ih =>
  rw [segs_cons]
  cases hs:segs t with
  | nil=>exact absurd hs (segs_ne t)
  | cons x r =>
   rw [hs] at ih
   have ih':x ++ flat r=t:=by
    have:flat (x :: r)=47 :: (x ++ flat r):=rfl
    rw [this] at ih
    simpa using ih
   by_cases hb:b=47
   ·rw [if_pos hb,hb]
    show 47 :: ([] ++ flat (x :: r))=_
    rw [ih]
    rfl
   ·rw [if_neg hb]
    show 47 :: ((b :: x) ++ flat r)=_
    rw [List.cons_append,ih']

theorem spl_segs {t:List UInt8} (ht:t ≠ []) (hl:t.length + 1 ≤ 200):spl (47 :: t)=if (segs t).length ≤ 16∧(∀ x ∈ segs t,nmB x=true) then some (segs t) else none:=by
 by_cases h:(segs t).length ≤ 16∧(∀ x ∈ segs t,nmB x=true)
 ·rw [if_pos h]
  have e:jn (segs t)=47 :: t:=by unfold jn; rw [if_neg (segs_ne t),flat_segs]
  rw [← e]
  refine spl_jn ((okN_iff _).2 ⟨h.1,h.2,?_⟩)
  rw [e]
  simpa using hl
 ·rw [if_neg h]
  cases hs:spl (47 :: t) with
  | none=>rfl
  | some ns =>
   exfalso
   obtain ⟨ok,he,_⟩:=spl_some hs
   have ok':=(okN_iff ns).1 ok
   cases ns with
   | nil=>unfold jn at he; simp at he; exact ht he
   | cons x r =>
    have e:t=x ++ flat r:=by
     unfold jn at he
     rw [if_neg (by simp)] at he
     have:flat (x :: r)=47 :: (x ++ flat r):=rfl
     rw [this] at he
     simpa using he
    have:=segs_names x r (nmB_no (ok'.2.1 x (by simp))) (fun n hn=>nmB_no (ok'.2.1 n (by simp [hn])))
    rw [← e] at this
    rw [this] at h
    exact h ⟨ok'.1,ok'.2.1⟩

def segP (cur rest:List UInt8):List (List UInt8):=(cur ++ (segs rest).head?.getD []) :: (segs rest).tail

theorem segP_start (t:List UInt8):segs t=segP [] t:=by
 unfold segP
 cases hs:segs t with
 | nil=>exact absurd hs (segs_ne t)
 | cons x r=>rfl

theorem segP_byte (cur rest:List UInt8) (b:UInt8) (hb:b ≠ 47):segP cur (b :: rest)=segP (cur ++ [b]) rest:=by
 unfold segP
 rw [segs_cons,if_neg hb]
 simp

theorem segP_cut (cur rest:List UInt8):segP cur (47 :: rest)=cur :: segP [] rest:=by
 rw [← segP_start]
 unfold segP
 rw [segs_cons,if_pos rfl]
 simp

theorem segP_end (cur:List UInt8):segP cur []=[cur]:=by
 unfold segP
 simp [segs]

def RsI (w:World) (p t:List UInt8) (a:Option Addr) (k c f i:Nat) (wr:World):Prop :=
 ∃ ds,ds.length=k∧OwnS w.heap.size wr a k c ds∧Below w.heap.size w wr∧k ≤ 16∧(∀ x ∈ ds,nmB x=true)∧1 ≤ f∧1 ≤ i∧i ≤ p.length + 1∧f ≤ p.length + 1 ∧
  (i ≤ p.length→f ≤ i∧segs t=ds ++ segP ((p.drop f).take (i - f)) (p.drop i))∧(i=p.length + 1→segs t=ds)

theorem RsI.start (w:World) {p t:List UInt8} (hp:p=47 :: t):RsI w p t none 0 0 1 1 w:=by
 subst hp
 refine ⟨[],rfl,OwnS.nil _ _,Below.refl _ _,by omega,fun x hx=>(by cases hx),by omega,by omega,by simp,by simp,fun _=>⟨by omega,?_⟩,fun h=>by simp at h⟩
 simp [segP_start t]

theorem St_cut (p:List UInt8) (f i:Nat) (h:f ≤ i) (hi:i ≤ p.length):(St p).extract f i=St ((p.drop f).take (i - f)):=by
 apply ByteArray.ext
 simp only [St,ByteArray.data_extract,List.extract_toArray]
 try rw [List.extract_eq_drop_take']

theorem RsI.skip {w:World} {p t:List UInt8} {a:Option Addr} {k c f i:Nat} {wr:World} (h:RsI w p t a k c f i wr) (hi:i < p.length) (hb:p[i] ≠ 47):RsI w p t a k c f (i + 1) wr:=by
 obtain ⟨ds,h1,h2,h3,h4,h5,h6,h7,h8,h9,h10,h11⟩:=h
 obtain ⟨hf,he⟩:=h10 (by omega)
 refine ⟨ds,h1,h2,h3,h4,h5,h6,by omega,by omega,h9,fun _=>⟨by omega,?_⟩,fun e=>by omega⟩
 rw [he,List.drop_eq_getElem_cons hi,segP_byte _ _ _ hb]
 congr 2
 rw [show i + 1 - f=(i - f) + 1 by omega,List.take_add_one,List.getElem?_drop,show f + (i - f)=i by omega,List.getElem?_eq_getElem hi]
 rfl

theorem RsI.part {w:World} {p t:List UInt8} {a:Option Addr} {k c f i:Nat} {wr:World} (h:RsI w p t a k c f i wr) (hi:i ≤ p.length) (hb:i=p.length ∨ ∃ h:i < p.length,p[i]=47) :
  f ≤ i∧(nmB ((p.drop f).take (i - f))=false ∨ k=16→¬ ((segs t).length ≤ 16∧∀ x ∈ segs t,nmB x=true)) ∧
  (nmB ((p.drop f).take (i - f))=true→k < 16→∃ a' c' w',(∀ ty,(Builtin.append_ #[103,103] ty #[.slice a k c,.slice (some ⟨wr.heap.size,0,none⟩) 1 1]).run Tryz.prog (wr.alloc (.cells #[.string (St ((p.drop f).take (i - f)))] 9))=.ok (.slice a' (k + 1) c') w')∧RsI w p t a' (k + 1) c' (i + 1) (i + 1) w'):=by
 obtain ⟨ds,h1,h2,h3,h4,h5,h6,h7,h8,h9,h10,h11⟩:=h
 obtain ⟨hf,he⟩:=h10 hi
 have he2:∃ more,segs t=ds ++ (p.drop f).take (i - f) :: more∧(i < p.length→more=segP [] (p.drop (i + 1)))∧(i=p.length→more=[]):=by
  rcases hb with hb | ⟨hb,h47⟩
  ·refine ⟨[],?_,fun h=>by omega,fun _=>rfl⟩
   rw [he]
   conv=>lhs; rw [hb,List.drop_length,segP_end]
   rw [hb]
  ·refine ⟨segP [] (p.drop (i + 1)),?_,fun _=>rfl,fun h=>by omega⟩
   rw [he,List.drop_eq_getElem_cons hb,h47,segP_cut]
 obtain ⟨more,he2,hm1,hm2⟩:=he2
 refine ⟨hf,fun h=>?_,fun hn hk=>?_⟩
 ·rintro ⟨hc1,hc2⟩
  rw [he2] at hc1 hc2
  rcases h with h | h
  ·rw [hc2 _ (by simp)] at h; cases h
  ·simp at hc1; omega
 ·obtain ⟨a',c',w',r,o,_,b⟩:=app1S h2 h3.size ((p.drop f).take (i - f)) (by omega)
  refine ⟨a',c',w',r,ds ++ [(p.drop f).take (i - f)],by simp [h1],o,h3.trans b,by omega,fun x hx=>?_,by omega,by omega,by omega,by omega,fun hle=>⟨by omega,?_⟩,fun e=>?_⟩
  ·rw [List.mem_append,List.mem_singleton] at hx
   rcases hx with hx | hx
   ·exact h5 x hx
   ·rw [hx]; exact hn
  ·rw [he2,hm1 (by omega)]
   simp
  ·rw [he2,hm2 (by omega)]

theorem spl_bad {p:List UInt8} (h:p.length < 1 ∨ 200 < p.length ∨ ∃ h:0 < p.length,p[0] ≠ 47):spl p=none:=by
 cases hs:spl p with
 | none=>rfl
 | some ns =>
  exfalso
  have hl:=spl_len hs
  obtain ⟨_,he,_⟩:=spl_some hs
  have hj:∃ t,jn ns=47 :: t:=by
   cases ns with
   | nil=>exact ⟨[],rfl⟩
   | cons x r=>exact ⟨x ++ flat r,by unfold jn; rw [if_neg (by simp)]; rfl⟩
  obtain ⟨t,ht⟩:=hj
  rw [ht] at he
  subst he
  rcases h with h | h | ⟨h0,h1⟩
  ·simp at h
  ·omega
  ·exact h1 rfl

theorem St_byte (p:List UInt8) (i:Nat) (h:i < (St p).size):(St p)[i]=p[i]'(by rw [St_size] at h; exact h):=by
 show (St p).data[i]=_
 simp [St]

theorem rsplit_bad {p:List UInt8} (w:World) (hp:p.length ≤ 9223372036854775807) (h:p.length < 1 ∨ 200 < p.length ∨ ∃ h:0 < p.length,p[0] ≠ 47) :
  Calls Tryz.prog 71 #[.string (St p)] w fun e w'=>e=.returned (.tuple #[.slice none 0 0,.int .i64 16])∧Below w.heap.size w w':=by
 have hs:=St_size p
 by_cases h1:p.length < 1
 ·have d1:decide (((St p).size:Int) < 1)=true:=by rw [hs]; simp; omega
  generalize St p=s at *
  clear h hs h1 hp
  go_enter Tryz.func71,Tryz.ntmps71
  go_wp2_with fail
  go_ret2
  exact ⟨rfl,Below.refl _ _⟩
 ·have d1:decide (((St p).size:Int) < 1)=false:=by rw [hs]; simp; omega
  by_cases h2:200 < p.length
  ·have d2:decide (((St p).size:Int) > 200)=true:=by rw [hs]; simp; omega
   generalize St p=s at *
   clear h hs h1 hp h2
   go_enter Tryz.func71,Tryz.ntmps71
   go_wp2_with fail
   go_ret2
   exact ⟨rfl,Below.refl _ _⟩
  ·have d2:decide (((St p).size:Int) > 200)=false:=by rw [hs]; simp; omega
   obtain ⟨h0,h3⟩:∃ h:0 < p.length,p[0] ≠ 47:=by
    rcases h with h | h | h
    ·exact absurd h h1
    ·exact absurd h h2
    ·exact h
   have hz:0 < (St p).size:=by rw [hs]; exact h0
   have hb:(((St p)[0]'hz).toNat:Int) ≠ 47:=by
    rw [St_byte p 0 hz]
    intro e
    apply h3
    apply UInt8.toNat_inj.1
    have:p[0].toNat=47:=by omega
    exact this
   clear h hs h1 hp h2 h3 h0
   generalize St p=s at *
   have d3:(((s[0]'hz).toNat:Int) == 47)=false:=by simpa using hb
   go_enter Tryz.func71,Tryz.ntmps71
   go_wp2_with fail
   go_ret2
   exact ⟨rfl,Below.refl _ _⟩

theorem byte_47 {p:List UInt8} {i:Nat} (h:i < (St p).size):((((St p)[i]'h).toNat:Int) == 47)=decide (p[i]'(by rw [St_size] at h; exact h)=47):=by
 rw [St_byte p i h]
 by_cases e:p[i]'(by rw [St_size] at h; exact h)=47
 ·rw [e]; rfl
 ·rw [decide_eq_false e,beq_eq_false_iff_ne]
  intro e2
  apply e
  apply UInt8.toNat_inj.1
  have:(p[i]'(by rw [St_size] at h; exact h)).toNat=47:=by omega
  exact this

theorem rsplit_any (p:List UInt8) (w:World) (hp:p.length ≤ 9223372036854775807) :
  Calls Tryz.prog 71 #[.string (St p)] w fun e w'=>∃ a c,e=.returned (.tuple #[.slice a ((spl p).getD []).length c,.int .i64 (splE p)])∧OwnS w.heap.size w' a ((spl p).getD []).length c ((spl p).getD [])∧Below w.heap.size w w':=by
 by_cases hbad:p.length < 1 ∨ 200 < p.length ∨ ∃ h:0 < p.length,p[0] ≠ 47
 ·refine (rsplit_bad w hp hbad).mono ?_
  rintro e w' ⟨rfl,hb⟩
  have hn:=spl_bad hbad
  unfold splE
  rw [hn]
  exact ⟨none,0,rfl,OwnS.nil _ _,hb⟩
 ·have h200:p.length ≤ 200:=Classical.byContradiction fun h=>hbad (.inr (.inl (by omega)))
  obtain ⟨t,rfl⟩:∃ t,p=47 :: t:=by
   cases p with
   | nil=>exact absurd (.inl (by simp)) hbad
   | cons b t =>
    refine ⟨t,?_⟩
    have:b=47:=Classical.byContradiction fun h=>hbad (.inr (.inr ⟨by simp,h⟩))
    rw [this]
  clear hbad hp
  have hs:=St_size (47 :: t)
  have d1:decide (((St (47 :: t)).size:Int) < 1)=false:=by rw [hs]; simp; omega
  have d2:decide (((St (47 :: t)).size:Int) > 200)=false:=by rw [hs]; simp; simp at h200; omega
  have hz:0 < (St (47 :: t)).size:=by rw [hs]; simp
  have d3:((((St (47 :: t))[0]'hz).toNat:Int) == 47)=true:=by rw [byte_47 hz]; rfl
  by_cases ht:t=[]
  ·subst ht
   have hr:spl [47]=some []:=spl_jn (ns:=[]) (by rw [okN_iff]; exact ⟨by decide,fun n hn=>(by cases hn),by decide⟩)
   unfold splE
   rw [hr]
   show Calls _ _ _ _ fun e w'=>∃ a c,e=.returned (.tuple #[.slice a 0 c,.int .i64 0])∧OwnS w.heap.size w' a 0 c []∧_
   have d4:((St [47]).toList == [47])=true:=by rw [St_toList]; rfl
   generalize St [47]=s at *
   clear hr hs
   go_enter Tryz.func71,Tryz.ntmps71
   go_wp2_with fail
   go_ret2
   exact ⟨none,0,rfl,OwnS.nil _ _,Below.refl _ _⟩
  ·have hspl:=hide (spl_segs ht (by simpa using h200))
   have d4:((St (47 :: t)).toList == [47])=false:=by rw [St_toList]; simpa using ht
   have HI:=hide (RsI.start w (rfl:(47 :: t)=47 :: t))
   have HC:Hid (∀ f i:Nat,f ≤ i→i ≤ (47 :: t).length→(St (47 :: t)).extract f i=St (((47 :: t).drop f).take (i - f))):=fun f i h1 h2=>St_cut _ f i h1 h2
   have H47:Hid (∀ (i:Nat) (h:i < (St (47 :: t)).size) (h':i < (47 :: t).length),((((St (47 :: t))[i]'h).toNat:Int) == 47)=decide ((47 :: t)[i]'h'=47)):=fun i h _=>byte_47 h
   have HNm:Hid (∀ f i u,Calls Tryz.prog 105 #[.string (St (((47 :: t).drop f).take (i - f)))] u fun e w'=>e=.returned (.int .i64 (nameE (St (((47 :: t).drop f).take (i - f)))))∧u=w'):=fun f i u=>refName_any _ u (by rw [St_size]; simp; simp at h200; omega)
   generalize hS:St (47 :: t)=s at *
   generalize hP:47 :: t=p at *
   rw [← hs] at h200
   have HSz:=hide hs
   have HPt:=hide hP
   clear hs hP hS
   go_enter Tryz.func71,Tryz.ntmps71
   go_wp2_with fail
   have dz:(((s[0]'hz).toNat:Int) != 47)=false:=by rw [bne,d3]; rfl
   rw [dz]
   clear d1 d2 d3 d4 dz
   go_loopw [4,5,6] (fun l fv iv wr=>∃ a k c f i,l=.slice a k c∧fv=.int .i64 ((f:Nat):Int)∧iv=.int .i64 ((i:Nat):Int)∧Hid (RsI w p t a k c f i wr)) (fun _ _ iv _=>p.length + 1 - (intOf iv).toNat)
   case atStart=>exact ⟨none,0,0,1,1,rfl,rfl,rfl,HI⟩
   case round =>
    clear HI
    obtain ⟨a,k,c,f,i,rfl,rfl,rfl,hI⟩:=hrel
    obtain ⟨hi1,hi2,hf2,hk,hs16,hBl⟩:1 ≤ i∧i ≤ p.length + 1∧f ≤ p.length + 1∧k ≤ 16∧1 ≤ f∧Below w.heap.size w wr:=by
     obtain ⟨ds,h1,h2,h3,h4,h5,h6,h7,h8,h9,h10,h11⟩:=hI.out
     exact ⟨h7,h8,h9,h4,h6,h3⟩
    have hs:=HSz.out
    by_cases hle:i ≤ p.length
    ·have hle':(i:Int) ≤ (s.size:Int):=by omega
     by_cases hend:i=p.length ∨ ∃ h:i < p.length,p[i]=47
     ·obtain ⟨hfi,hno,hyes⟩:=hI.out.part hle hend
      have hcut:=HC.out f i hfi hle
      have KN:=HNm.out f i wr
      unfold nameE at KN
      have en:nameB (St ((p.drop f).take (i - f)))=nmB ((p.drop f).take (i - f)):=rfl
      rw [en] at KN
      have c1:(0:Int) ≤ (f:Int):=by omega
      have c2:(f:Int) ≤ (i:Int):=by omega
      have c3:(0:Int) ≤ (i:Int):=by omega
      have dd:(((i:Int) == (s.size:Int))=true) ∨ (((i:Int) == (s.size:Int))=false∧∃ h:i < s.size,(((s[i]'h).toNat:Int) == 47)=true):=by
       rcases hend with h | ⟨h,h47⟩
       ·left; simp; omega
       ·right
        refine ⟨by simp; omega,by omega,?_⟩
        rw [H47.out i (by omega) h]; simpa using h47
      by_cases hn:nmB ((p.drop f).take (i - f))=true
      ·rw [if_pos hn] at KN
       by_cases hk16:k=16
       ·have HF:Hid (spl p=none):=by rw [hspl.out]; exact if_neg (hno (.inr hk16))
        have HB:=hide hBl
        clear hyes hno hI hend HC H47 hspl hBl hs en HNm
        generalize St ((p.drop f).take (i - f))=sc at *
        subst hk16
        have KN:=hide KN
        rcases dd with dd | ⟨dd,hlt2,dd2⟩
        ·go_wp2_with fail
         refine (unhide KN).mono ?_
         rintro e w1 ⟨rfl,rfl⟩
         go_wp2_with fail
         go_ret2
         refine ⟨none,0,?_,?_,HB.out⟩
         ·unfold splE; rw [HF.out]; rfl
         ·rw [HF.out]; exact OwnS.nil _ _
        ·go_wp2_with fail
         refine (unhide KN).mono ?_
         rintro e w1 ⟨rfl,rfl⟩
         go_wp2_with fail
         go_ret2
         refine ⟨none,0,?_,?_,HB.out⟩
         ·unfold splE; rw [HF.out]; rfl
         ·rw [HF.out]; exact OwnS.nil _ _
       ·obtain ⟨a',c',w',R1,hN⟩:=hyes hn (by omega)
        have HN:=hide hN
        have R1:=hide R1
        have d7:((k:Int) == 16)=false:=by simp; omega
        clear hyes hno hI hend HC H47 hspl hBl hs en HNm hN hn
        generalize St ((p.drop f).take (i - f))=sc at *
        have KN:=hide KN
        rcases dd with dd | ⟨dd,hlt2,dd2⟩
        ·go_wp2_with fail
         refine (unhide KN).mono ?_
         rintro e w1 ⟨rfl,rfl⟩
         clear KN
         go_wp2_with (at_builtin; refine wpList_append_run 103 rfl _ _ rfl _ _ _ rfl rfl (unhide R1) ?_; clear R1)
         go_roundw
         case rel=>exact ⟨a',k + 1,c',i + 1,i + 1,rfl,by go_num,by go_num,HN⟩
         case measure=>simp [intOf]; omega
        ·go_wp2_with fail
         refine (unhide KN).mono ?_
         rintro e w1 ⟨rfl,rfl⟩
         clear KN
         go_wp2_with (at_builtin; refine wpList_append_run 103 rfl _ _ rfl _ _ _ rfl rfl (unhide R1) ?_; clear R1)
         go_roundw
         case rel=>exact ⟨a',k + 1,c',i + 1,i + 1,rfl,by go_num,by go_num,HN⟩
         case measure=>simp [intOf]; omega
      ·rw [if_neg hn] at KN
       have HF:Hid (spl p=none):=by rw [hspl.out]; exact if_neg (hno (.inl (by simpa using hn)))
       have HB:=hide hBl
       clear hyes hno hI hend HC H47 hspl hBl hs en HNm
       generalize St ((p.drop f).take (i - f))=sc at *
       clear hn
       have KN:=hide KN
       rcases dd with dd | ⟨dd,hlt2,dd2⟩
       ·go_wp2_with fail
        refine (unhide KN).mono ?_
        rintro e w1 ⟨rfl,rfl⟩
        go_wp2_with fail
        go_ret2
        refine ⟨none,0,?_,?_,HB.out⟩
        ·unfold splE; rw [HF.out]; rfl
        ·rw [HF.out]; exact OwnS.nil _ _
       ·go_wp2_with fail
        refine (unhide KN).mono ?_
        rintro e w1 ⟨rfl,rfl⟩
        go_wp2_with fail
        go_ret2
        refine ⟨none,0,?_,?_,HB.out⟩
        ·unfold splE; rw [HF.out]; rfl
        ·rw [HF.out]; exact OwnS.nil _ _
     ·have hlt:i < p.length:=Classical.byContradiction fun h=>hend (.inl (by omega))
      have hb:p[i] ≠ 47:=fun h=>hend (.inr ⟨hlt,h⟩)
      have hlt2:i < s.size:=by omega
      have d5:((i:Int) == (s.size:Int))=false:=by simp; omega
      have d6:(((s[i]'hlt2).toNat:Int) == 47)=false:=by rw [H47.out i hlt2 hlt]; simpa using hb
      have HN:=hide (hI.out.skip hlt hb)
      clear hI hend hb HC H47 HNm hspl hBl hs
      go_wp2_with fail
      go_roundw
      case rel=>exact ⟨a,k,c,f,i + 1,rfl,rfl,by go_num,HN⟩
      case measure=>simp [intOf]; omega
    ·have HE:Hid (OwnS w.heap.size wr a k c (segs t)∧spl p=some (segs t)∧(segs t).length=k):=by
      obtain ⟨ds,h1,h2,h3,h4,h5,h6,h7,h8,h9,h10,h11⟩:=hI.out
      have e:=h11 (by omega)
      refine ⟨by rw [e]; exact h2,?_,by rw [e]; exact h1⟩
      rw [hspl.out,if_pos]
      rw [e]
      exact ⟨by omega,h5⟩
     have HB:=hide hBl
     have hgt:¬ (i:Int) ≤ (s.size:Int):=by omega
     clear hI HC H47 HNm hspl hBl hs
     go_wp2_with fail
     go_ret2
     obtain ⟨h1,h2,h3⟩:=HE.out
     refine ⟨a,c,?_,?_,HB.out⟩
     ·unfold splE; rw [h2]; exact congrArg (fun m=>Ending.returned (.tuple #[.slice a m c,.int .i64 0])) h3.symm
     ·rw [h2]; show OwnS _ _ _ (segs t).length _ (segs t); rw [h3]; exact h1

end Go.Proofs.YtknmgefpjdfenaaGreat

