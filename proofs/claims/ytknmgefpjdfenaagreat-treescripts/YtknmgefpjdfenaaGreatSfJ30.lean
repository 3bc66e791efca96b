/- Joined: SRead, SReadB. -/
import Derived.Test.YtknmgefpjdfenaaGreatSfJ29
import Derived.Test.YtknmgefpjdfenaaGreatSfVRJoin
/- What the reference only reads: place, walk, find, parent, links, fresh, busy, Of. -/
namespace Go.Proofs.YtknmgefpjdfenaaGreat
set_option maxRecDepth 100000
set_option maxHeartbeats 8000000
open Go.RowKit Go.Shelf Go.Maps
set_option linter.unusedVariables false

def ApN (ns:NL):Prop:=ns.Pairwise (fun a b=>a.1 ≠ b.1)

def plK (ns:NL) (x:List UInt8) (r:Int):Prop:=(r=-1∧∀ e ∈ ns,e.1 ≠ x) ∨ ∃ (k:Nat) (c:Nat),r=(k:Int)∧ns[k]?=some (x,c)

theorem rplace_any {w:World} {S:Nat→Prop} {g i:Nat} {s:RTr} {t:RT} (h:SM w S g s) (ht:s.th[i]?=some t) (x:List UInt8) (hx:x.length ≤ 9223372036854775807) (hn:t.ns.length ≤ 1800000000000) (hi:i ≤ 1800000000000) :
  Calls Tryz.prog 78 #[.pointer (some ⟨g,0,none⟩),.int .i64 (i:Int),.string (St x)] w fun e w'=>(∃ r:Int,e=.returned (.int .i64 r)∧plK t.ns x r)∧w'=w:=by
 obtain ⟨_,g1,_⟩:=h.cells
 obtain ⟨rb,era,_,_,_,c2,_⟩:=h.row.cell ht
 rw [era] at g1
 have hil:i < s.th.length:=(List.getElem?_eq_some_iff.1 ht).1
 have hil':(i:Int) < (s.th.length:Int):=by omega
 have hi0:(0:Int) ≤ (i:Int):=by omega
 have HN:=hide (h.nam i t ht)
 have HS:Hid (∀ j,j < 0→∀ e,t.ns[j]?=some e→e.1 ≠ x):=fun j hj=>by omega
 clear h ht era
 generalize hl:s.th.length=tl at *
 generalize hnl:t.ns.length=nl at *
 generalize hsx:St x=sx at *
 go_enter Tryz.func78,Tryz.ntmps78
 go_wp2_with fail
 go_loopw [7] (fun iv wr=>∃ k:Nat,k ≤ nl∧iv=.int .i64 (k:Int)∧wr=w∧Hid (∀ j,j < k→∀ e,t.ns[j]?=some e→e.1 ≠ x)) (fun iv _=>(nl:Int).toNat - (intOf iv).toNat)
 case atStart=>exact ⟨0,Nat.zero_le _,rfl,rfl,HS⟩
 case round =>
  obtain ⟨k,hk,rfl,rfl,hJ⟩:=hrel
  clear HS
  by_cases hlt:k < nl
  ·obtain ⟨e,he⟩:∃ e,t.ns[k]?=some e:=⟨_,List.getElem?_eq_getElem (by omega)⟩
   obtain ⟨nb,ena,_,n0,n1⟩:=HN.out.cell he
   have hlt':(k:Int) < (nl:Int):=by omega
   have hk0:(0:Int) ≤ (k:Int):=by omega
   rw [ena] at c2
   by_cases hex:e.1=x
   ·have HR:Hid (plK t.ns x (k:Int)):=.inr ⟨k,e.2,rfl,by rw [he,← hex]⟩
    rw [hex,hsx] at n1
    have d1:(sx.toList == sx.toList)=true:=by simp
    clear HN hJ he hex hsx
    go_wp2_with fail
    go_ret
    exact ⟨⟨_,rfl,HR.out⟩,rfl⟩
   ·have d1:((St e.1).toList == sx.toList)=false:=by
     rw [← hsx,St_toList,St_toList]
     simpa using hex
    have HJ:Hid (∀ j,j < k + 1→∀ e,t.ns[j]?=some e→e.1 ≠ x):=fun j hj e' he'=>by
     by_cases q:j=k
     ·subst q; rw [he] at he'; cases he'; exact hex
     ·exact hJ.out j (by omega) e' he'
    clear HN hJ he hex hsx
    generalize St e.1=se at *
    go_wp2_with fail
    go_roundw
    case rel=>exact ⟨k + 1,by omega,by go_num,trivial,HJ⟩
    case measure=>simp [intOf]; omega
  ·obtain rfl:k=nl:=by omega
   have HR:Hid (plK t.ns x (-1)):=.inl ⟨rfl,fun e he=>by
    obtain ⟨j,hj⟩:=List.getElem?_of_mem he
    exact hJ.out j (by have:=(List.getElem?_eq_some_iff.1 hj).1; omega) e hj⟩
   clear HN hJ hsx
   go_wp2_with fail
   go_ret
   exact ⟨⟨_,rfl,HR.out⟩,rfl⟩

theorem plK_look {ns:NL} {x:List UInt8} {r:Int} (h:plK ns x r) (ha:ApN ns):(r=-1∧ns.lookup x=none) ∨ ∃ k c:Nat,r=(k:Int)∧ns[k]?=some (x,c)∧ns.lookup x=some c:=by
 rcases h with ⟨rfl,h⟩ | ⟨k,c,rfl,h⟩
 ·refine .inl ⟨rfl,?_⟩
  rw [List.lookup_eq_none_iff]
  intro e he
  have:=h e he
  simpa using fun q:x=e.1=>this q.symm
 ·refine .inr ⟨k,c,rfl,h,?_⟩
  have hm:=List.mem_of_getElem? h
  clear h
  induction ns with
  | nil=>cases hm
  | cons d q ih =>
   obtain ⟨y,c'⟩:=d
   obtain ⟨h1,h2⟩:=List.pairwise_cons.1 ha
   rw [look_cons]
   rcases List.mem_cons.1 hm with e | hm
   ·cases e; rw [if_pos rfl]
   ·rw [if_neg (fun e=>h1 _ hm e.symm)]
    exact ih h2 hm

structure Rs (s:RTr):Prop where
 root:∃ t,s.th[1]?=some t∧t.k=2
 ap:∀ (i:Nat) (t:RT),s.th[i]?=some t→ApN t.ns
 live:∀ (i:Nat) (t:RT) (x:List UInt8) (c:Nat),s.th[i]?=some t→t.ns.lookup x=some c→∃ t',s.th[c]?=some t'
 few:∀ (i:Nat) (t:RT),s.th[i]?=some t→t.ns.length ≤ 1800000000000
 len:s.th.length ≤ 1800000000000

def goR (s:RTr):List (List UInt8)→Nat→Int × Nat
 | [],i=>(0,i)
 | x :: r,i=>match s.th[i]? with
  | none=>(0,0)
  | some t=>if t.k ≠ 2 then (13,0) else match t.ns.lookup x with
   | none=>(11,0)
   | some c=>goR s r c

theorem goR_nd {s:RTr} {i:Nat} {t:RT} (h:s.th[i]?=some t) (hk:t.k ≠ 2) (x:List UInt8) (r:List (List UInt8)):goR s (x :: r) i=(13,0):=by
 unfold goR
 rw [h]
 exact if_pos hk

theorem goR_none {s:RTr} {i:Nat} {t:RT} (h:s.th[i]?=some t) (hk:t.k=2) {x:List UInt8} (hx:t.ns.lookup x=none) (r:List (List UInt8)):goR s (x :: r) i=(11,0):=by
 unfold goR
 simp [h,hk,hx]

theorem goR_step {s:RTr} {i c:Nat} {t:RT} (h:s.th[i]?=some t) (hk:t.k=2) {x:List UInt8} (hx:t.ns.lookup x=some c) (r:List (List UInt8)):goR s (x :: r) i=goR s r c:=by
 conv=>lhs; unfold goR
 simp [h,hk,hx]

theorem rwalk_any {w:World} {S:Nat→Prop} {g:Nat} {s:RTr} (h:SM w S g s) (hs:Rs s) {a:Option Addr} {n c:Nat} {xs:List (List UInt8)} (hx:HasS w a n xs) (hl:∀ x ∈ xs,x.length ≤ 200) (hn:n ≤ 1800000000000) :
  Calls Tryz.prog 75 #[.pointer (some ⟨g,0,none⟩),.slice a n c] w fun e w'=>e=.returned (.tuple #[.int .i64 ((goR s xs 1).2:Int),.int .i64 (goR s xs 1).1])∧w'=w:=by
 have hlen:=hx.1
 have HX:=hide hx
 have HT:=hide h
 have HR:=hide hs
 have HL:=hide hl
 have HI:Hid ((∃ t,s.th[1]?=some t)∧goR s xs 1=goR s (xs.drop 0) 1):=⟨by obtain ⟨t,ht,_⟩:=hs.root; exact ⟨t,ht⟩,rfl⟩
 have htl:=hs.len
 clear hx h hs hl
 go_enter Tryz.func75,Tryz.ntmps75
 go_wp2_with fail
 go_loopw [7,6] (fun iv jv wr=>∃ k i:Nat,k ≤ n∧iv=.int .i64 (k:Int)∧jv=.int .i64 (i:Int)∧wr=w∧Hid ((∃ t,s.th[i]?=some t)∧goR s xs 1=goR s (xs.drop k) i)) (fun iv _ _=>(n:Int).toNat - (intOf iv).toNat)
 case atStart=>exact ⟨0,1,Nat.zero_le _,rfl,rfl,rfl,HI⟩
 case round =>
  obtain ⟨k,i,hk,rfl,rfl,rfl,hJ⟩:=hrel
  clear HI
  obtain ⟨⟨t,ht⟩,hg⟩:=hJ.out
  obtain ⟨_,g1,_⟩:=HT.out.cells
  obtain ⟨rb,era,_,t0,_,t2,_⟩:=HT.out.row.cell ht
  rw [era] at g1
  have hil:i < s.th.length:=(List.getElem?_eq_some_iff.1 ht).1
  have hil':(i:Int) < (s.th.length:Int):=by omega
  have hi0:(0:Int) ≤ (i:Int):=by omega
  by_cases hlt:k < n
  ·obtain ⟨gb,o,rfl,hcl⟩:=HX.out.cell hlt
   have hxl:(xs[k]?.getD []).length ≤ 200:=HL.out _ (by rw [List.getElem?_eq_getElem (by omega)]; exact List.getElem_mem _)
   have hd:xs.drop k=xs[k]?.getD [] :: xs.drop (k + 1):=by
    rw [List.drop_eq_getElem_cons (by omega),List.getElem?_eq_getElem (by omega)]; rfl
   have hlt':(k:Int) < (n:Int):=by omega
   have hk0:(0:Int) ≤ (k:Int):=by omega
   unfold sv at hcl
   rw [hd] at hg
   clear hd hJ
   generalize xs[k]?.getD []=x at *
   by_cases h2:t.k=2
   ·have d1:(t.k == 2)=true:=by rw [h2]; rfl
    have KP:=hide (rplace_any HT.out ht x (by omega) (HR.out.few i t ht) (by omega))
    have hap:=HR.out.ap i t ht
    have hnl:=HR.out.few i t ht
    have HN:=hide (HT.out.nam i t ht)
    rw [h2] at t0
    clear hxl
    generalize hsx:St x=sx at *
    generalize s.th.length=tl at *
    go_wp2_with fail
    refine (unhide KP).mono ?_
    rintro e w1 ⟨⟨r,rfl,hr⟩,rfl⟩
    rcases plK_look hr hap with ⟨rfl,hlo⟩ | ⟨j,c',rfl,hj,hlo⟩
    ·have HE:Hid (goR s xs 1=(11,0)):=hg.trans (goR_none ht h2 hlo _)
     clear KP HN hg ht h2 hlo hr HT HR HL HX
     go_wp2_with fail
     go_ret2
     exact ⟨by rw [HE.out]; rfl,rfl⟩
    ·have HE:Hid ((∃ t,s.th[c']?=some t)∧goR s xs 1=goR s (xs.drop (k + 1)) c'):=⟨HR.out.live i t x c' ht hlo,hg.trans (goR_step ht h2 hlo _)⟩
     obtain ⟨nb,ena,_,n0,_⟩:=HN.out.cell hj
     rw [ena] at t2
     have hjl:=(List.getElem?_eq_some_iff.1 hj).1
     have hjl':(j:Int) < (t.ns.length:Int):=by omega
     have hj0:(0:Int) ≤ (j:Int):=by omega
     clear KP HN hg ht h2 hlo hr hap hj
     generalize t.ns.length=nl at *
     go_wp2_with fail
     go_roundw
     case rel=>exact ⟨k + 1,c',by omega,by go_num,rfl,trivial,HE⟩
     case measure=>simp [intOf]; omega
   ·have d1:(t.k == 2)=false:=by simpa using h2
    have HE:Hid (goR s xs 1=(13,0)):=hg.trans (goR_nd ht h2 x _)
    clear hg ht h2 HT HR HL HX hxl
    generalize St x=sx at *
    generalize s.th.length=tl at *
    generalize t.k=tk at *
    go_wp2_with fail
    go_ret2
    exact ⟨by rw [HE.out]; rfl,rfl⟩
  ·obtain rfl:k=n:=by omega
   have HE:Hid (goR s xs 1=(0,i)):=by
    rw [List.drop_of_length_le (by omega)] at hg
    exact hg
   clear hJ hg ht HT HR HL HX
   go_wp2_with fail
   go_ret2
   exact ⟨by rw [HE.out]; rfl,rfl⟩

end Go.Proofs.YtknmgefpjdfenaaGreat

/- What the reference only reads: find, parent, links, fresh, busy, Of. -/
namespace Go.Proofs.YtknmgefpjdfenaaGreat
set_option maxRecDepth 100000
set_option maxHeartbeats 8000000
open Go.RowKit Go.Shelf Go.Maps
set_option linter.unusedVariables false

theorem HasS.init {w:World} {a:Option Addr} {n:Nat} {xs:List (List UInt8)} (h:HasS w a n xs) (k:Nat) (hk:k ≤ n):HasS w a k (xs.take k):=by
 refine ⟨by rw [List.length_take,h.1]; omega,fun hp=>?_⟩
 obtain ⟨b,o,e,hb,hc⟩:=h.2 (by omega)
 refine ⟨b,o,e,hb,fun j hj=>?_⟩
 rw [hc j (by omega),List.getElem?_take_of_lt hj]

theorem okN_short {ns:List (List UInt8)} (h:okN ns=true):ns.length ≤ 16∧∀ x ∈ ns,x.length ≤ 200:=by
 obtain ⟨h1,h2,_⟩:=(okN_iff ns).1 h
 exact ⟨h1,fun x hx=>by have:=(nmB_len (h2 x hx)).2; omega⟩

def fdR (s:RTr) (p:List UInt8):Int × Nat:=match spl p with
 | none=>(16,0)
 | some ns=>goR s ns 1

theorem rfind_any {w:World} {S:Nat→Prop} {g:Nat} {s:RTr} (h:SM w S g s) (hs:Rs s) {p:List UInt8} (hp:p.length ≤ 9223372036854775807) :
  Calls Tryz.prog 72 #[.pointer (some ⟨g,0,none⟩),.string (St p)] w fun e w'=>e=.returned (.tuple #[.int .i64 ((fdR s p).2:Int),.int .i64 (fdR s p).1])∧Below w.heap.size w w':=by
 unfold fdR
 cases hsp:spl p with
 | none =>
  have K:=hide (rsplit_no w hp hsp)
  clear h hs hsp hp
  generalize St p=sp at *
  go_enter Tryz.func72,Tryz.ntmps72
  go_wp2_with fail
  refine (unhide K).mono ?_
  rintro e w1 ⟨⟨a,c,rfl⟩,hb⟩
  have HB:=hide hb
  clear K hb
  go_wp2_with fail
  go_ret2
  exact ⟨rfl,HB.out⟩
 | some ns =>
  have K:=hide (rsplit_yes w hsp)
  obtain ⟨h16,h200⟩:=okN_short (spl_some hsp).1
  have KW:Hid (∀ u a c,SM u S g s→HasS u a ns.length ns→Calls Tryz.prog 75 #[.pointer (some ⟨g,0,none⟩),.slice a ns.length c] u fun e w'=>e=.returned (.tuple #[.int .i64 ((goR s ns 1).2:Int),.int .i64 (goR s ns 1).1])∧w'=u):=fun u a c hu hx=>rwalk_any hu hs hx h200 (by omega)
  have HT:=hide h
  clear h hs hsp hp h16 h200
  generalize St p=sp at *
  generalize ns.length=n at *
  generalize ((goR s ns 1).2:Int)=r2 at *
  generalize (goR s ns 1).1=r1 at *
  go_enter Tryz.func72,Tryz.ntmps72
  go_wp2_with fail
  refine (unhide K).mono ?_
  rintro e w1 ⟨a,c,rfl,ho,hb⟩
  have HB:=hide hb
  have KW:=hide (KW.out w1 a c (HT.out.below hb) ho.has)
  clear K ho hb HT
  go_wp2_with fail
  refine (unhide KW).mono ?_
  rintro e w2 ⟨rfl,rfl⟩
  clear KW
  go_wp2_with fail
  go_ret2
  exact ⟨rfl,HB.out⟩

def paR (s:RTr) (ms:List (List UInt8)):Int × Nat:=((if (goR s ms 1).1=0∧(∃ t,s.th[(goR s ms 1).2]?=some t∧t.k ≠ 2) then 13 else (goR s ms 1).1),(goR s ms 1).2)

theorem goR_ends {s:RTr} (hs:Rs s):∀ (ns:List (List UInt8)) (i:Nat),(∃ t,s.th[i]?=some t)→((goR s ns i).1=0∧∃ t,s.th[(goR s ns i).2]?=some t) ∨ (((goR s ns i).1=11 ∨ (goR s ns i).1=13)∧(goR s ns i).2=0)
 | [],i,h=>.inl ⟨rfl,h⟩
 | x :: r,i,⟨t,h⟩=>by
  by_cases hk:t.k=2
  ·cases hx:t.ns.lookup x with
   | none=>rw [goR_none h hk hx]; exact .inr ⟨.inl rfl,rfl⟩
   | some c=>rw [goR_step h hk hx]; exact goR_ends hs r c (hs.live i t x c h hx)
  ·rw [goR_nd h hk]; exact .inr ⟨.inr rfl,rfl⟩

theorem rparent18_any {w:World} {S:Nat→Prop} {g:Nat} {s:RTr} (h:SM w S g s) (hs:Rs s) {a:Option Addr} {n c:Nat} {ms:List (List UInt8)} {z:List UInt8} (hx:HasS w a n (ms ++ [z])) (hnc:n ≤ c) (hok:okN (ms ++ [z])=true) :
  Calls Tryz.prog 77 #[.pointer (some ⟨g,0,none⟩),.slice a n c] w fun e w'=>e=.returned (.tuple #[.int .i64 ((paR s ms).2:Int),.int .i64 (paR s ms).1])∧w'=w:=by
 have hn:n=ms.length + 1:=by have:=hx.1; simp at this; omega
 obtain ⟨h16,h200⟩:=okN_short hok
 have hx':HasS w a ms.length ms:=by
  have:=hx.init ms.length (by omega)
  rwa [List.take_append_of_le_length (Nat.le_refl _),List.take_length] at this
 have KW:=hide (rwalk_any (c:=c) h hs hx' (fun x q=>h200 x (List.mem_append_left _ q)) (by simp at h16; omega))
 obtain ⟨b,o,rfl,_,_⟩:=hx.2 (by omega)
 obtain ⟨_,g1,_⟩:=h.cells
 subst hn
 have hw1:IntKind.i64.wrap (((ms.length + 1:Nat):Int) - 1)=(ms.length:Int):=by rw [IntKind.wrap_i64]; simp at h16; omega
 have e1:((ms.length + 1:Nat):Int) - 1=(ms.length:Int):=by omega
 have hlm:ms.length ≤ 16:=by simp at h16; omega
 rcases goR_ends hs ms 1 (by obtain ⟨t,ht,_⟩:=hs.root; exact ⟨t,ht⟩) with ⟨q1,t,q2⟩ | ⟨q1,q2⟩
 ·obtain ⟨rb,era,_,t0,_,_,_⟩:=h.row.cell q2
  rw [era] at g1
  have hil:(goR s ms 1).2 < s.th.length:=(List.getElem?_eq_some_iff.1 q2).1
  have hi0:(0:Int) ≤ ((goR s ms 1).2:Int):=by omega
  have hil':((goR s ms 1).2:Int) < (s.th.length:Int):=by omega
  have hPA:paR s ms=(if t.k=2 then 0 else 13,(goR s ms 1).2):=by
   unfold paR
   rw [q1]
   by_cases hk:t.k=2
   ·rw [if_neg (fun q=>by obtain ⟨_,u,hu,hk'⟩:=q; rw [q2] at hu; cases hu; exact hk' hk),if_pos hk]
   ·rw [if_pos ⟨rfl,t,q2,hk⟩,if_neg hk]
  have HPA:=hide hPA
  rw [q1] at KW
  clear h hs hx hx' q1 q2 hPA hok h200 hil h16
  generalize (goR s ms 1).2=i at *
  generalize s.th.length=tl at *
  generalize ms.length=n at *
  by_cases hk:t.k=2
  ·rw [hk] at t0
   have HE:Hid (paR s ms=(0,i)):=by have:=HPA.out; rw [if_pos hk] at this; exact this
   clear HPA hk
   go_enter Tryz.func77,Tryz.ntmps77
   go_wp2_with fail
   refine (unhide KW).mono ?_
   rintro e w1 ⟨rfl,rfl⟩
   clear KW
   go_wp2_with fail
   go_ret2
   exact ⟨by rw [HE.out]; rfl,rfl⟩
  ·have d1:(t.k == 2)=false:=by simpa using hk
   have HE:Hid (paR s ms=(13,i)):=by have:=HPA.out; rw [if_neg hk] at this; exact this
   clear HPA hk
   generalize t.k=tk at *
   go_enter Tryz.func77,Tryz.ntmps77
   go_wp2_with fail
   refine (unhide KW).mono ?_
   rintro e w1 ⟨rfl,rfl⟩
   clear KW
   go_wp2_with fail
   go_ret2
   exact ⟨by rw [HE.out]; rfl,rfl⟩
 ·have hPA:paR s ms=((goR s ms 1).1,0):=by
   unfold paR
   rw [q2,if_neg (fun q=>by have:=q.1; omega)]
  have d1:((goR s ms 1).1 == 0)=false:=by rcases q1 with q | q <;> rw [q] <;> rfl
  have HE:=hide hPA
  rw [q2] at KW
  clear h hs hx hx' q1 q2 hPA hok h200 h16
  generalize (goR s ms 1).1=E at *
  generalize s.th.length=tl at *
  generalize ms.length=n at *
  go_enter Tryz.func77,Tryz.ntmps77
  go_wp2_with fail
  refine (unhide KW).mono ?_
  rintro e w1 ⟨rfl,rfl⟩
  clear KW
  go_wp2_with fail
  go_ret2
  exact ⟨by rw [HE.out]; rfl,rfl⟩

def lkS (xs:List RT) (i:Nat):Nat:=(xs.map (fun t=>nmc t.ns i)).sum

def lkR (s:RTr) (i:Nat):Nat:=lkS s.th i

theorem lkS_app (a b:List RT) (i:Nat):lkS (a ++ b) i=lkS a i + lkS b i:=by unfold lkS; rw [List.map_append,List.sum_append]

theorem lkS_one (t:RT) (i:Nat):lkS [t] i=nmc t.ns i:=by simp [lkS]

theorem rlinks_any {w:World} {S:Nat→Prop} {g:Nat} {s:RTr} (h:SM w S g s) (hs:Rs s) (i:Nat) (hi:i ≤ 1800000000000) (hlk:lkR s i ≤ 1000000000000000) :
  Calls Tryz.prog 73 #[.pointer (some ⟨g,0,none⟩),.int .i64 (i:Int)] w fun e w'=>e=.returned (.int .i64 (lkR s i:Int))∧w'=w:=by
 obtain ⟨_,g1,_⟩:=h.cells
 have hln:=hs.len
 have HT:=hide (And.intro h hs)
 have HK:=hide hlk
 clear h hs hlk
 generalize hl:s.th.length=tl at *
 go_enter Tryz.func73,Tryz.ntmps73
 go_wp2_with fail
 go_loopw [6,5] (fun iv nv wr=>∃ d:Nat,d ≤ tl∧iv=.int .i64 (d:Int)∧nv=.int .i64 (lkS (s.th.take d) i:Int)∧wr=w) (fun iv _ _=>(tl:Int).toNat - (intOf iv).toNat)
 case atStart=>exact ⟨0,Nat.zero_le _,rfl,rfl,rfl⟩
 case round =>
  obtain ⟨d,hd,rfl,rfl,hwr⟩:=hrel
  obtain rfl:=hwr.symm
  by_cases hdl:d < tl
  ·obtain ⟨t,ht⟩:∃ t,s.th[d]?=some t:=⟨_,List.getElem?_eq_getElem (by omega)⟩
   obtain ⟨rb,era,_,_,_,t2,_⟩:=HT.out.1.row.cell ht
   have g1':=g1
   rw [era] at g1'
   have hnl:=HT.out.2.few d t ht
   have HN:=hide (HT.out.1.nam d t ht)
   have hdl':(d:Int) < (tl:Int):=by omega
   have hd0:(0:Int) ≤ (d:Int):=by omega
   have hstep:lkS (s.th.take (d + 1)) i=lkS (s.th.take d) i + nmc t.ns i:=by
    rw [List.take_add_one,ht,lkS_app]
    exact congrArg _ (lkS_one t i)
   have hle:lkS (s.th.take (d + 1)) i ≤ lkR s i:=by
    unfold lkR
    conv=>rhs; rw [← List.take_append_drop (d + 1) s.th]
    rw [lkS_app]
    omega
   have HS:=hide (And.intro hstep (And.intro hle HK.out))
   clear hstep hle
   generalize hb0:lkS (s.th.take d) i=b0 at *
   generalize hnn:t.ns.length=nl at *
   clear g1
   have H0:Hid True:=trivial
   go_wp2_with fail
   go_loopw [7,5] (fun kv nv wr=>∃ k:Nat,k ≤ nl∧kv=.int .i64 (k:Int)∧nv=.int .i64 ((b0 + nmc (t.ns.take k) i:Nat):Int)∧wr=w) (fun kv _ _=>(nl:Int).toNat - (intOf kv).toNat)
   case atStart=>exact ⟨0,Nat.zero_le _,rfl,rfl,rfl⟩
   case round =>
    obtain ⟨k,hk,rfl,rfl,rfl⟩:=hrel
    by_cases hkl:k < nl
    ·obtain ⟨e,he⟩:∃ e,t.ns[k]?=some e:=⟨_,List.getElem?_eq_getElem (by omega)⟩
     obtain ⟨nb,ena,_,n0,_⟩:=HN.out.cell he
     rw [ena] at t2
     have hkl':(k:Int) < (nl:Int):=by omega
     have hk0:(0:Int) ≤ (k:Int):=by omega
     have hst:nmc (t.ns.take (k + 1)) i=nmc (t.ns.take k) i + (if e.2=i then 1 else 0):=by
      rw [List.take_add_one,he]
      unfold nmc
      rw [List.map_append,List.sum_append]
      simp
     have hbd:b0 + nmc (t.ns.take k) i ≤ 1000000000000000 + 1:=by
      have h1:nmc (t.ns.take k) i ≤ nmc t.ns i:=by
       conv=>rhs; rw [← List.take_append_drop k t.ns]
       unfold nmc
       rw [List.map_append,List.sum_append]
       omega
      have:=HS.out
      omega
     by_cases hei:e.2=i
     ·rw [if_pos hei] at hst
      rw [hei] at n0
      have e1:((i:Int) == (i:Int))=true:=by simp
      have HW:Hid (((b0 + nmc (t.ns.take (k + 1)) i:Nat):Int)=((b0 + nmc (t.ns.take k) i:Nat):Int) + 1):=by unfold Hid; omega
      clear hst he hei HS
      generalize b0 + nmc (t.ns.take k) i=c0 at *
      go_wp2_with fail
      go_roundw
      case rel=>exact ⟨k + 1,by omega,by go_num,by rw [HW.out],trivial⟩
      case measure=>simp [intOf]; omega
     ·rw [if_neg hei,Nat.add_zero] at hst
      have e1:((e.2:Int) == (i:Int))=false:=by simpa using fun q:(e.2:Int)=(i:Int)=>hei (by omega)
      have HW:Hid (b0 + nmc (t.ns.take (k + 1)) i=b0 + nmc (t.ns.take k) i):=by unfold Hid; omega
      clear hst he hei HS
      generalize (e.2:Int)=en at *
      generalize b0 + nmc (t.ns.take k) i=c0 at *
      go_wp2_with fail
      go_roundw
      case rel=>exact ⟨k + 1,by omega,by go_num,by rw [HW.out],trivial⟩
      case measure=>simp [intOf]; omega
    ·obtain rfl:k=nl:=by omega
     have HW:Hid (lkS (s.th.take (d + 1)) i=b0 + nmc (t.ns.take k) i):=by
      unfold Hid
      have e:t.ns.take k=t.ns:=List.take_of_length_le (by omega)
      rw [e]
      exact HS.out.1
     clear HS HN
     go_wp2_with fail
     go_roundw
     case rel=>exact ⟨d + 1,by omega,by go_num,by rw [HW.out],trivial⟩
     case measure=>simp [intOf]; omega
  ·obtain rfl:d=tl:=by omega
   have HW:Hid (lkS (s.th.take d) i=lkR s i):=by
    unfold Hid lkR
    rw [List.take_of_length_le (by omega)]
   clear HT HK
   go_wp2_with fail
   go_ret
   exact ⟨by rw [← HW.out]; rfl,rfl⟩

def FrR (s:RTr) (f:Nat):Prop:=2 ≤ f∧f ≤ s.th.length∧(∀ i,2 ≤ i→i < f→∃ t,s.th[i]?=some t∧t.k ≠ 0)∧(f=s.th.length ∨ ∃ t,s.th[f]?=some t∧t.k=0)

theorem rfresh_any {w:World} {S:Nat→Prop} {g:Nat} {s:RTr} (h:SM w S g s) (hs:Rs s) (h2:2 ≤ s.th.length) :
  Calls Tryz.prog 104 #[.pointer (some ⟨g,0,none⟩)] w fun e w'=>(∃ f:Nat,e=.returned (.int .i64 (f:Int))∧FrR s f)∧w'=w:=by
 obtain ⟨_,g1,_⟩:=h.cells
 have hln:=hs.len
 have HT:=hide (And.intro h hs)
 clear h hs
 have H0:Hid (∀ i,2 ≤ i→i < 2→∃ t,s.th[i]?=some t∧t.k ≠ 0):=fun i a b=>by omega
 generalize hl:s.th.length=tl at *
 go_enter Tryz.func104,Tryz.ntmps104
 go_wp2_with fail
 go_loopw [3] (fun iv wr=>∃ f:Nat,2 ≤ f∧f ≤ tl∧iv=.int .i64 (f:Int)∧wr=w∧Hid (∀ i,2 ≤ i→i < f→∃ t,s.th[i]?=some t∧t.k ≠ 0)) (fun iv _=>(tl:Int).toNat - (intOf iv).toNat)
 case atStart=>exact ⟨2,Nat.le_refl _,h2,rfl,rfl,H0⟩
 case round =>
  obtain ⟨f,hf2,hf,rfl,rfl,hJ⟩:=hrel
  clear H0
  by_cases hlt:f < tl
  ·obtain ⟨t,ht⟩:∃ t,s.th[f]?=some t:=⟨_,List.getElem?_eq_getElem (by omega)⟩
   obtain ⟨rb,era,_,t0,_,_,_⟩:=HT.out.1.row.cell ht
   rw [era] at g1
   have hlt':(f:Int) < (tl:Int):=by omega
   have hf0:(0:Int) ≤ (f:Int):=by omega
   by_cases hk:t.k=0
   ·rw [hk] at t0
    have HR:Hid (FrR s f):=⟨hf2,by omega,hJ.out,.inr ⟨t,ht,hk⟩⟩
    clear hJ ht hk HT
    go_wp2_with fail
    go_ret
    exact ⟨⟨f,rfl,HR.out⟩,rfl⟩
   ·have d1:(t.k == 0)=false:=by simpa using hk
    have HJ:Hid (∀ i,2 ≤ i→i < f + 1→∃ t,s.th[i]?=some t∧t.k ≠ 0):=fun i a b=>by
     by_cases e:i=f
     ·subst e; exact ⟨t,ht,hk⟩
     ·exact hJ.out i a (by omega)
    clear hJ ht hk
    generalize t.k=tk at *
    go_wp2_with fail
    go_roundw
    case rel=>exact ⟨f + 1,by omega,by omega,by go_num,trivial,HJ⟩
    case measure=>simp [intOf]; omega
  ·obtain rfl:f=tl:=by omega
   have HR:Hid (FrR s f):=⟨hf2,by omega,hJ.out,.inl hl.symm⟩
   clear hJ HT
   go_wp2_with fail
   go_ret
   exact ⟨⟨f,rfl,HR.out⟩,rfl⟩

def bsR (s:RTr) (i:Nat):Bool:=(List.range 16).any (fun f=>decide (s.op f=i)) && decide (i ≠ 0)

theorem rbusy_any {w:World} {S:Nat→Prop} {g:Nat} {s:RTr} (h:SM w S g s) (i:Nat) (hi:i ≠ 0) :
  Calls Tryz.prog 80 #[.pointer (some ⟨g,0,none⟩),.int .i64 (i:Int)] w fun e w'=>e=.returned (.bool (bsR s i))∧w'=w:=by
 have HC:Hid (∀ f,f < 16→w.cell? ⟨g,2 + f,none⟩=some (.int .i64 (s.op f:Int))):=fun f hf=>h.open_cell hf
 have d0:((i:Int) == 0)=false:=by simp; omega
 have H0:Hid (∀ f,f < 0→s.op f ≠ i):=fun f hf=>by omega
 clear h
 go_enter Tryz.func80,Tryz.ntmps80
 go_wp2_with fail
 go_loopw [5] (fun iv wr=>∃ f:Nat,f ≤ 16∧iv=.int .i64 (f:Int)∧wr=w∧Hid (∀ j,j < f→s.op j ≠ i)) (fun iv _=>16 - (intOf iv).toNat)
 case atStart=>exact ⟨0,Nat.zero_le _,rfl,rfl,H0⟩
 case round =>
  obtain ⟨f,hf,rfl,rfl,hJ⟩:=hrel
  clear H0
  by_cases hlt:f < 16
  ·have c:=HC.out f hlt
   have l1:(f:Int) < 16:=by omega
   have l0:(0:Int) ≤ (f:Int):=by omega
   by_cases he:s.op f=i
   ·have HR:Hid (bsR s i=true):=by
     unfold Hid bsR
     rw [Bool.and_eq_true,List.any_eq_true]
     exact ⟨⟨f,List.mem_range.2 hlt,decide_eq_true he⟩,decide_eq_true hi⟩
    rw [he] at c
    have d1:((i:Int) == (i:Int))=true:=by simp
    clear HC hJ he hi
    go_wp2_with fail
    go_ret
    exact ⟨by rw [HR.out]; rfl,rfl⟩
   ·have d1:((s.op f:Int) == (i:Int))=false:=by simpa using fun q:(s.op f:Int)=(i:Int)=>he (by omega)
    have HJ:Hid (∀ j,j < f + 1→s.op j ≠ i):=fun j hj=>by
     by_cases e:j=f
     ·subst e; exact he
     ·exact hJ.out j (by omega)
    clear HC hJ he
    generalize (s.op f:Int)=ov at *
    go_wp2_with fail
    go_roundw
    case rel=>exact ⟨f + 1,by omega,by go_num,trivial,HJ⟩
    case measure=>simp [intOf]; omega
  ·obtain rfl:f=16:=by omega
   have HR:Hid (bsR s i=false):=by
    unfold Hid bsR
    rw [Bool.and_eq_false_iff]
    left
    rw [Bool.eq_false_iff]
    intro q
    rw [List.any_eq_true] at q
    obtain ⟨j,hj,e⟩:=q
    exact hJ.out j (List.mem_range.1 hj) (of_decide_eq_true e)
   clear HC hJ
   go_wp2_with fail
   go_ret
   exact ⟨by rw [HR.out]; rfl,rfl⟩

def ofR (s:RTr) (f:Int):Nat:=if 0 ≤ f∧f < 16 then s.op f.toNat else 0

theorem rof_any {w:World} {S:Nat→Prop} {g:Nat} {s:RTr} (h:SM w S g s) (f:Int) :
  Calls Tryz.prog 89 #[.pointer (some ⟨g,0,none⟩),.int .i64 f] w fun e w'=>e=.returned (.int .i64 (ofR s f:Int))∧w'=w:=by
 unfold ofR
 by_cases h0:f < 0
 ·have d0:decide (f < 0)=true:=by simpa using h0
  rw [if_neg (by omega)]
  clear h h0
  go_enter Tryz.func89,Tryz.ntmps89
  go_wp2_with fail
  go_ret
  exact ⟨rfl,rfl⟩
 ·have d0:decide (f < 0)=false:=by simpa using h0
  by_cases h1:16 ≤ f
  ·have d1:decide (f ≥ 16)=true:=by simpa using h1
   rw [if_neg (by omega)]
   clear h
   go_enter Tryz.func89,Tryz.ntmps89
   go_wp2_with fail
   go_ret
   exact ⟨rfl,rfl⟩
  ·obtain ⟨k,rfl⟩:∃ k:Nat,f=(k:Int):=⟨f.toNat,by omega⟩
   have c:=h.open_cell (f:=k) (by omega)
   rw [if_pos ⟨by omega,by omega⟩,show (k:Int).toNat=k by omega]
   have d1:decide ((k:Int) ≥ 16)=false:=by simp; omega
   have l1:(k:Int) < 16:=by omega
   have l0:(0:Int) ≤ (k:Int):=by omega
   clear h h0 h1
   generalize (s.op k:Int)=ov at *
   go_enter Tryz.func89,Tryz.ntmps89
   go_wp2_with fail
   go_ret
   exact ⟨rfl,rfl⟩

end Go.Proofs.YtknmgefpjdfenaaGreat

