/- Joined: TRename, TWf, TWfB, TPath, TExact. -/
import Derived.Test.YtknmgefpjdfenaaGreatSfJ33
/- Rename: all ways. -/
namespace Go.Proofs.YtknmgefpjdfenaaGreat
set_option maxRecDepth 100000
set_option maxHeartbeats 8000000
open Go.RowKit Go.Shelf Go.Maps
set_option linter.unusedVariables false

def Tr.edit (s:Tr) (d:Nat) (f:NS→NS):Tr:=match s.T d with
 | none=>s
 | some t=>s.upd d { t with ns:=f t.ns }

theorem edit_some {s:Tr} {d:Nat} {t:Th} (h:s.T d=some t) (f:NS→NS):s.edit d f=s.upd d { t with ns:=f t.ns }:=by unfold Tr.edit; rw [h]

def Tr.moved (s:Tr) (d:Nat) (z:List UInt8) (d2:Nat) (z2:List UInt8) (x:Nat):Tr:=(s.edit d (delN z)).edit d2 (putN z2 x)

theorem C2.kp {S:Nat→Prop} {u u':World} {m:Nat} {x y:Value} (h:C2 u m x y) (hk:Kp S u u') (hm:¬ S m):C2 u' m x y:=(hk.block m h.lt hm).trans h


theorem TM.edits {v:World} {S':Nat→Prop} {g d d2:Nat} {s1:Tr} {t1 t3:Th} {z z2:List UInt8} (x:Nat) (h:TM v S' g s1) (h1:s1.T d=some t1) (k1:t1.k=2) (hz:z.length ≤ 200) (hz2:z2.length ≤ 200)
  (h3:(s1.edit d (delN z)).T d2=some t3) (k3:t3.k=2) (hl:t3.ns.length < 1000000000000000) :
  ∃ u1 u2 mp1 mp2,v.cell? ⟨d,4,none⟩=some (.map (some mp1))∧(∀ ty,(Builtin.delete_ #[67,9] ty #[.map (some mp1),.string (St z)]).run Tryz.prog v.drew=.ok (.tuple #[]) u1) ∧
   u1.cell? ⟨d2,4,none⟩=some (.map (some mp2))∧(Instr.mapUpdate 67 (.map (some mp2)) (.string (St z2)) (.pointer (some ⟨x,0,none⟩))).run Tryz.prog u1.drew=.ok () u2 ∧
   TM u2 S' g (s1.moved d z d2 z2 x)∧u2.heap.size=v.heap.size∧(∀ (S0:Nat→Prop) (w0:World),(∀ k,S' k→S0 k ∨ w0.heap.size ≤ k)→Kp S0 w0 v→Kp S0 w0 u2)∧(∀ m a b,C2 v m a b→C2 u1 m a b):=by
 obtain ⟨u1,r1,m1,g1,z1⟩:=(h.drew.map d t1 h1 k1).del hz
 have q1:=h.drew.setM h1 k1 m1 g1 z1
 have e1:s1.upd d { t1 with ns:=delN z t1.ns }=s1.edit d (delN z):=(edit_some h1 _).symm
 rw [e1] at q1
 obtain ⟨u2,r2,m2,g2,z2'⟩:=(q1.drew.map d2 t3 h3 k3).put hz2 x hl
 have q2:=q1.drew.setM h3 k3 m2 g2 z2'
 have e2:(s1.edit d (delN z)).upd d2 { t3 with ns:=putN z2 x t3.ns }=s1.moved d z d2 z2 x:=(edit_some h3 _).symm
 rw [e2] at q2
 refine ⟨u1,u2,t1.mp,t3.mp,h.dir_map h1 k1,r1,q1.dir_map h3 k3,r2,q2,?_,fun S0 w0 hS hk=>?_,fun m a b hc=>?_⟩
 ·rw [z2']
  show u1.heap.size=_
  rw [z1]
  rfl
 ·have a1:=(hk.drew).grown g1 (hS _ (h.sm d t1 h1 k1))
  exact (a1.drew).grown g2 (hS _ (q1.sm d2 t3 h3 k3))
 ·exact (g1.block m (show m < v.drew.heap.size from hc.lt) (fun e=>by
   cases e
   exact (h.map d t1 h1 k1).ne hc rfl)).trans hc


theorem ren_bad {w:World} {S:Nat→Prop} {g r n:Nat} {s:Tr} (h:TM w S g s) (hw:Wf s r n) (hn:n ≤ 1700000000000) {p q:List UInt8} (hpl:p.length ≤ 9223372036854775807) (hql:q.length ≤ 9223372036854775807) (he:refE [p,q]=16) :
  Calls Tryz.prog 16 #[.pointer (some ⟨g,0,none⟩),.string (St p),.string (St q)] w fun e w'=>e=.returned (.int .i64 16)∧Below w.heap.size w w':=by
 have K:=refuses_two h hw.ok.row_ne hpl hql
 rw [he] at K
 have K:=hide K
 clear h hw he hpl hql
 generalize St p=sp at *
 generalize St q=sq at *
 go_enter Tryz.func16,Tryz.ntmps16
 go_wp2_with fail
 refine (unhide K).mono ?_
 rintro e w1 ⟨rfl,hb⟩
 have HB:=hide hb
 clear K hb
 go_wp2_with fail
 go_ret
 exact ⟨rfl,HB.out⟩

theorem ren_root {w:World} {S:Nat→Prop} {g r n:Nat} {s:Tr} (h:TM w S g s) (hw:Wf s r n) (hn:n ≤ 1700000000000) {p q:List UInt8} {ps qs:List (List UInt8)} (hp:spl p=some ps) (hq:spl q=some qs) (hr:ps=[] ∨ qs=[]) :
  Calls Tryz.prog 16 #[.pointer (some ⟨g,0,none⟩),.string (St p),.string (St q)] w fun e w'=>e=.returned (.int .i64 17)∧Below w.heap.size w w':=by
 have K:=refuses_two h hw.ok.row_ne (p:=p) (q:=q) (by have:=spl_len hp; omega) (by have:=spl_len hq; omega)
 rw [show refE [p,q]=0 by unfold refE; simp [hp,hq]] at K
 have K:=hide K
 have HT:=hide h
 have HT0:=hide h
 have hSw:=h.lt
 have hc:((St p).toList == [47])=true ∨ (((St p).toList == [47])=false∧((St q).toList == [47])=true):=by
  rw [St_toList,St_toList]
  by_cases h0:p=[47]
  ·exact .inl (by rw [h0]; rfl)
  ·right
   refine ⟨by simpa using h0,?_⟩
   rcases hr with rfl | rfl
   ·exact absurd (spl_some hp).2.1 h0
   ·rw [(spl_some hq).2.1]; rfl
 clear h hw hp hq
 generalize St p=sp at *
 generalize St q=sq at *
 clear hr HT0 HT
 rcases hc with d0 | ⟨d0,d1⟩
 all_goals
  go_enter Tryz.func16,Tryz.ntmps16
  go_wp2_with fail
  refine (unhide K).mono ?_
  rintro e w1 ⟨rfl,hb⟩
  have HB:=hide hb
  clear K hb
  go_wp2_with fail
  go_ret
  exact ⟨rfl,HB.out⟩

theorem ren_tak {w:World} {S:Nat→Prop} {g r n:Nat} {s:Tr} (h:TM w S g s) (hw:Wf s r n) (hn:n ≤ 1700000000000) {p q:List UInt8} {z z2:List UInt8} {ms ms2:List (List UInt8)} (hp:spl p=some (ms ++ [z])) (hq:spl q=some (ms2 ++ [z2])) {E:Int} (hE:E ≠ 0) (ht:tkA s ms z r=.tuple #[.agg #[.pointer none,.string ⟨#[]⟩],.pointer none,.int .i64 E]) :
  Calls Tryz.prog 16 #[.pointer (some ⟨g,0,none⟩),.string (St p),.string (St q)] w fun e w'=>e=.returned (.int .i64 E)∧Below w.heap.size w w':=by
 have K:=refuses_two h hw.ok.row_ne (p:=p) (q:=q) (by have:=spl_len hp; omega) (by have:=spl_len hq; omega)
 rw [show refE [p,q]=0 by unfold refE; simp [hp,hq]] at K
 have K:=hide K
 have HT:=hide h
 have HT0:=hide h
 have hSw:=h.lt
 have dne:=not_root hp
 have dne2:=not_root hq
 have KT:Hid (∀ u,TM u S g s→Calls Tryz.prog 54 #[.pointer (some ⟨g,0,none⟩),.string (St p)] u fun e w'=>e=.returned (.tuple #[.agg #[.pointer none,.string ⟨#[]⟩],.pointer none,.int .i64 E])∧Below u.heap.size u w'):=fun u hu=>by
  have:=taken_any hu hw.ok hp
  rw [ht] at this
  exact this
 have d1:(E != 0)=true:=by simpa using hE
 clear h hw hp hq
 generalize St p=sp at *
 generalize St q=sq at *
 clear ht
 go_enter Tryz.func16,Tryz.ntmps16
 go_wp2_with fail
 refine (unhide K).mono ?_
 rintro e w1 ⟨rfl,hb⟩
 have HT:=hide (HT.out.below hb)
 have HB:=hide hb
 clear K hb
 have KT:=hide (KT.out w1 HT.out)
 go_wp2_with fail
 refine (unhide KT).mono ?_
 rintro e w2 ⟨rfl,hb⟩
 have HB:=hide ((HB.out.trans (hb.mono HB.out.size)).alloc (HB.out.trans (hb.mono HB.out.size)).size (.cells #[.pointer none,.string ⟨#[]⟩] 92))
 clear KT hb
 go_wp2_with fail
 go_ret
 exact ⟨rfl,HB.out⟩

theorem ren_abo {w:World} {S:Nat→Prop} {g r n:Nat} {s:Tr} (h:TM w S g s) (hw:Wf s r n) (hn:n ≤ 1700000000000) {p q:List UInt8} {z z2:List UInt8} {ms ms2:List (List UInt8)} (hp:spl p=some (ms ++ [z])) (hq:spl q=some (ms2 ++ [z2])) {d x:Nat} {t:Th} (e1:plc s ms r=(0,some d)) (ht:s.T d=some t) (h2:t.k=2) (hc:t.ns.lookup z=some x) (hab:abo (ms ++ [z]) (ms2 ++ [z2])=true) (hpq:p ≠ q) :
  Calls Tryz.prog 16 #[.pointer (some ⟨g,0,none⟩),.string (St p),.string (St q)] w fun e w'=>e=.returned (.int .i64 1)∧Below w.heap.size w w':=by
 have K:=refuses_two h hw.ok.row_ne (p:=p) (q:=q) (by have:=spl_len hp; omega) (by have:=spl_len hq; omega)
 rw [show refE [p,q]=0 by unfold refE; simp [hp,hq]] at K
 have K:=hide K
 have HT:=hide h
 have HT0:=hide h
 have hSw:=h.lt
 have dne:=not_root hp
 have dne2:=not_root hq
 have KT:Hid (∀ u,TM u S g s→Calls Tryz.prog 54 #[.pointer (some ⟨g,0,none⟩),.string (St p)] u fun e w'=>e=.returned (.tuple #[.agg #[.pointer (some ⟨d,0,none⟩),.string (St z)],.pointer (some ⟨x,0,none⟩),.int .i64 0])∧Below u.heap.size u w'):=fun u hu=>by
  have:=taken_any hu hw.ok hp
  rw [tkA_some e1 ht hc] at this
  exact this
 have KA:Hid (∀ u,Calls Tryz.prog 55 #[.string (St p),.string (St q)] u fun e w'=>e=.returned (.tuple #[.bool true,.int .i64 0])∧Below u.heap.size u w'):=fun u=>by
  have:=above_yes u hp hq
  rw [hab] at this
  exact this
 have d1:((St p).toList == (St q).toList)=false:=by rw [St_toList,St_toList]; simpa using hpq
 clear h hw hp hq
 generalize St p=sp at *
 generalize St q=sq at *
 clear ht h2 hc e1 hab hpq
 generalize St z=sz at *
 go_enter Tryz.func16,Tryz.ntmps16
 go_wp2_with fail
 refine (unhide K).mono ?_
 rintro e w1 ⟨rfl,hb⟩
 have HT:=hide (HT.out.below hb)
 have HB:=hide hb
 clear K hb
 have KT:=hide (KT.out w1 HT.out)
 go_wp2_with fail
 refine (unhide KT).mono ?_
 rintro e w2 ⟨rfl,hb⟩
 have hb2:Below w1.heap.size w1 (w2.alloc (.cells #[.pointer (some ⟨d,0,none⟩),.string sz] 92)):=hb.alloc hb.size _
 have HT:=hide (HT.out.below hb2)
 have HC:=hide (C2.new w2 (.pointer (some ⟨d,0,none⟩)) (.string sz))
 have hm8:w.heap.size ≤ w2.heap.size:=Nat.le_trans HB.out.size hb.size
 have HB:=hide (HB.out.trans (hb2.mono HB.out.size))
 have KA:=hide (KA.out (w2.alloc (.cells #[.pointer (some ⟨d,0,none⟩),.string sz] 92)))
 clear KT hb hb2
 go_wp2_with fail
 generalize w2.alloc (.cells #[.pointer (some ⟨d,0,none⟩),.string sz] 92)=w3 at *
 generalize w2.heap.size=m8 at *
 refine (unhide KA).mono ?_
 rintro e w4 ⟨rfl,hb⟩
 have HT:=hide (HT.out.below hb)
 have HC:=hide (HC.out.below hb HC.out.lt)
 have HB:=hide (HB.out.trans (hb.mono HB.out.size))
 clear KA hb
 go_wp2_with fail
 go_ret
 exact ⟨rfl,HB.out⟩

theorem ren_plc {w:World} {S:Nat→Prop} {g r n:Nat} {s:Tr} (h:TM w S g s) (hw:Wf s r n) (hn:n ≤ 1700000000000) {p q:List UInt8} {z z2:List UInt8} {ms ms2:List (List UInt8)} (hp:spl p=some (ms ++ [z])) (hq:spl q=some (ms2 ++ [z2])) {d x:Nat} {t:Th} (e1:plc s ms r=(0,some d)) (ht:s.T d=some t) (h2:t.k=2) (hc:t.ns.lookup z=some x) (hab:abo (ms ++ [z]) (ms2 ++ [z2])=false) (hE:(plc s ms2 r).2=none∧(plc s ms2 r).1 ≠ 0) :
  Calls Tryz.prog 16 #[.pointer (some ⟨g,0,none⟩),.string (St p),.string (St q)] w fun e w'=>e=.returned (.int .i64 (plc s ms2 r).1)∧Below w.heap.size w w':=by
 have K:=refuses_two h hw.ok.row_ne (p:=p) (q:=q) (by have:=spl_len hp; omega) (by have:=spl_len hq; omega)
 rw [show refE [p,q]=0 by unfold refE; simp [hp,hq]] at K
 have K:=hide K
 have HT:=hide h
 have HT0:=hide h
 have hSw:=h.lt
 have dne:=not_root hp
 have dne2:=not_root hq
 have KT:Hid (∀ u,TM u S g s→Calls Tryz.prog 54 #[.pointer (some ⟨g,0,none⟩),.string (St p)] u fun e w'=>e=.returned (.tuple #[.agg #[.pointer (some ⟨d,0,none⟩),.string (St z)],.pointer (some ⟨x,0,none⟩),.int .i64 0])∧Below u.heap.size u w'):=fun u hu=>by
  have:=taken_any hu hw.ok hp
  rw [tkA_some e1 ht hc] at this
  exact this
 have KA:Hid (∀ u,Calls Tryz.prog 55 #[.string (St p),.string (St q)] u fun e w'=>e=.returned (.tuple #[.bool false,.int .i64 0])∧Below u.heap.size u w'):=fun u=>by
  have:=above_yes u hp hq
  rw [hab] at this
  exact this
 have KP:Hid (∀ u,TM u S g s→Calls Tryz.prog 56 #[.pointer (some ⟨g,0,none⟩),.string (St q)] u fun e w'=>e=.returned (.tuple #[.agg #[.pointer none,.string ⟨#[]⟩],.int .i64 (plc s ms2 r).1])∧Below u.heap.size u w'):=fun u hu=>by
  have:=place_any hu hw.ok hq
  rw [plA_none z2 hE.1] at this
  exact this
 have d1:((plc s ms2 r).1 != 0)=true:=by simpa using hE.2
 clear h hw hp hq
 generalize St p=sp at *
 generalize St q=sq at *
 clear ht h2 hc e1 hab hE
 generalize (plc s ms2 r).1=E at *
 generalize St z=sz at *
 go_enter Tryz.func16,Tryz.ntmps16
 go_wp2_with fail
 refine (unhide K).mono ?_
 rintro e w1 ⟨rfl,hb⟩
 have HT:=hide (HT.out.below hb)
 have HB:=hide hb
 clear K hb
 have KT:=hide (KT.out w1 HT.out)
 go_wp2_with fail
 refine (unhide KT).mono ?_
 rintro e w2 ⟨rfl,hb⟩
 have hb2:Below w1.heap.size w1 (w2.alloc (.cells #[.pointer (some ⟨d,0,none⟩),.string sz] 92)):=hb.alloc hb.size _
 have HT:=hide (HT.out.below hb2)
 have HC:=hide (C2.new w2 (.pointer (some ⟨d,0,none⟩)) (.string sz))
 have hm8:w.heap.size ≤ w2.heap.size:=Nat.le_trans HB.out.size hb.size
 have HB:=hide (HB.out.trans (hb2.mono HB.out.size))
 have KA:=hide (KA.out (w2.alloc (.cells #[.pointer (some ⟨d,0,none⟩),.string sz] 92)))
 clear KT hb hb2
 go_wp2_with fail
 generalize w2.alloc (.cells #[.pointer (some ⟨d,0,none⟩),.string sz] 92)=w3 at *
 generalize w2.heap.size=m8 at *
 refine (unhide KA).mono ?_
 rintro e w4 ⟨rfl,hb⟩
 have HT:=hide (HT.out.below hb)
 have HC:=hide (HC.out.below hb HC.out.lt)
 have HB:=hide (HB.out.trans (hb.mono HB.out.size))
 clear KA hb
 have KP:=hide (KP.out w4 HT.out)
 go_wp2_with fail
 refine (unhide KP).mono ?_
 rintro e w5 ⟨rfl,hb⟩
 have HB:=hide ((HB.out.trans (hb.mono HB.out.size)).alloc (HB.out.trans (hb.mono HB.out.size)).size (.cells #[.pointer none,.string ⟨#[]⟩] 92))
 clear KP hb
 go_wp2_with fail
 go_ret
 exact ⟨rfl,HB.out⟩

theorem ren_same {w:World} {S:Nat→Prop} {g r n:Nat} {s:Tr} (h:TM w S g s) (hw:Wf s r n) (hn:n ≤ 1700000000000) {p q:List UInt8} {z z2:List UInt8} {ms ms2:List (List UInt8)} (hp:spl p=some (ms ++ [z])) (hq:spl q=some (ms2 ++ [z2])) {d x:Nat} {t:Th} (e1:plc s ms r=(0,some d)) (ht:s.T d=some t) (h2:t.k=2) (hc:t.ns.lookup z=some x) {d2:Nat} {t2:Th} (e2:plc s ms2 r=(0,some d2)) (ht2:s.T d2=some t2) (h22:t2.k=2) {b:Bool} (hab:abo (ms ++ [z]) (ms2 ++ [z2])=b) (hb:b=false ∨ p=q) (hc2:t2.ns.lookup z2=some x) (hx:∃ tx,s.T x=some tx) :
  Calls Tryz.prog 16 #[.pointer (some ⟨g,0,none⟩),.string (St p),.string (St q)] w fun e w'=>e=.returned (.int .i64 0)∧Below w.heap.size w w':=by
 have K:=refuses_two h hw.ok.row_ne (p:=p) (q:=q) (by have:=spl_len hp; omega) (by have:=spl_len hq; omega)
 rw [show refE [p,q]=0 by unfold refE; simp [hp,hq]] at K
 have K:=hide K
 have HT:=hide h
 have HT0:=hide h
 have hSw:=h.lt
 have dne:=not_root hp
 have dne2:=not_root hq
 have KT:Hid (∀ u,TM u S g s→Calls Tryz.prog 54 #[.pointer (some ⟨g,0,none⟩),.string (St p)] u fun e w'=>e=.returned (.tuple #[.agg #[.pointer (some ⟨d,0,none⟩),.string (St z)],.pointer (some ⟨x,0,none⟩),.int .i64 0])∧Below u.heap.size u w'):=fun u hu=>by
  have:=taken_any hu hw.ok hp
  rw [tkA_some e1 ht hc] at this
  exact this
 have KA:Hid (∀ u,Calls Tryz.prog 55 #[.string (St p),.string (St q)] u fun e w'=>e=.returned (.tuple #[.bool b,.int .i64 0])∧Below u.heap.size u w'):=fun u=>by
  have:=above_yes u hp hq
  rw [hab] at this
  exact this
 have KP:Hid (∀ u,TM u S g s→Calls Tryz.prog 56 #[.pointer (some ⟨g,0,none⟩),.string (St q)] u fun e w'=>e=.returned (.tuple #[.agg #[.pointer (some ⟨d2,0,none⟩),.string (St z2)],.int .i64 0])∧Below u.heap.size u w'):=fun u hu=>by
  have:=place_any hu hw.ok hq
  rw [plA_some z2 e2] at this
  exact this
 have KN:Hid (∀ u,TM u S g s→Calls Tryz.prog 57 #[.agg #[.pointer (some ⟨d2,0,none⟩),.string (St z2)]] u fun e w'=>e=.returned (.pointer (some ⟨x,0,none⟩))∧Below u.heap.size u w'):=fun u hu=>by
  have:=named_any hu ht2 h22 (name_len hq)
  rw [hc2] at this
  exact this
 have KQ:Hid (∀ u,TM u S g s→(binOp .eql 63 (.pointer (some ⟨x,0,none⟩)) (.pointer (some ⟨x,0,none⟩))).run Tryz.prog u=.ok (.bool true) u):=fun u hu=>by
  obtain ⟨tx,hx⟩:=hx
  have:=ptr_eq hu hx hx (v:=u) rfl
  rwa [decide_eq_true rfl] at this
 have hb':b=false ∨ (b=true∧((St p).toList == (St q).toList)=true):=by
  rw [St_toList,St_toList]
  cases b
  ·exact .inl rfl
  ·exact .inr ⟨rfl,by rcases hb with q | q; cases q; rw [q]; simp⟩
 clear h hw hp hq
 generalize St p=sp at *
 generalize St q=sq at *
 clear ht h2 hc e1 hab hb e2 ht2 h22 hc2 hx
 generalize St z=sz at *
 generalize St z2=sz2 at *
 rcases hb' with rfl | ⟨rfl,d1⟩
 all_goals
  go_enter Tryz.func16,Tryz.ntmps16
  go_wp2_with fail
  refine (unhide K).mono ?_
  rintro e w1 ⟨rfl,hb⟩
  have HT:=hide (HT.out.below hb)
  have HB:=hide hb
  clear K hb
  have KT:=hide (KT.out w1 HT.out)
  go_wp2_with fail
  refine (unhide KT).mono ?_
  rintro e w2 ⟨rfl,hb⟩
  have hb2:Below w1.heap.size w1 (w2.alloc (.cells #[.pointer (some ⟨d,0,none⟩),.string sz] 92)):=hb.alloc hb.size _
  have HT:=hide (HT.out.below hb2)
  have HC:=hide (C2.new w2 (.pointer (some ⟨d,0,none⟩)) (.string sz))
  have hm8:w.heap.size ≤ w2.heap.size:=Nat.le_trans HB.out.size hb.size
  have HB:=hide (HB.out.trans (hb2.mono HB.out.size))
  have KA:=hide (KA.out (w2.alloc (.cells #[.pointer (some ⟨d,0,none⟩),.string sz] 92)))
  clear KT hb hb2
  go_wp2_with fail
  generalize w2.alloc (.cells #[.pointer (some ⟨d,0,none⟩),.string sz] 92)=w3 at *
  generalize w2.heap.size=m8 at *
  refine (unhide KA).mono ?_
  rintro e w4 ⟨rfl,hb⟩
  have HT:=hide (HT.out.below hb)
  have HC:=hide (HC.out.below hb HC.out.lt)
  have HB:=hide (HB.out.trans (hb.mono HB.out.size))
  clear KA hb
  have hlt8:m8 < w4.heap.size:=HC.out.lt
  have KP:=hide (KP.out w4 HT.out)
  go_wp2_with fail
  refine (unhide KP).mono ?_
  rintro e w5 ⟨rfl,hb⟩
  have hb2:Below w4.heap.size w4 (w5.alloc (.cells #[.pointer (some ⟨d2,0,none⟩),.string sz2] 92)):=hb.alloc hb.size _
  have HT:=hide (HT.out.below hb2)
  have HC:=hide (HC.out.below hb2 hlt8)
  have HD:=hide (C2.new w5 (.pointer (some ⟨d2,0,none⟩)) (.string sz2))
  have hm13:w.heap.size ≤ w5.heap.size:=Nat.le_trans HB.out.size hb.size
  have HB:=hide (HB.out.trans (hb2.mono HB.out.size))
  have KN:=hide (KN.out _ HT.out)
  have j0:=HD.out.c0
  have j1:=HD.out.c1
  clear KP hb hb2 hlt8
  go_upto_region 13 with fail
  change Code.wp _ _ _ _ (w5.alloc (.cells #[.pointer (some ⟨d2,0,none⟩),.string sz2] 92))
  generalize w5.alloc (.cells #[.pointer (some ⟨d2,0,none⟩),.string sz2] 92)=w6 at *
  generalize w5.heap.size=m13 at *
  go_wp2_with fail
  refine (unhide KN).mono ?_
  rintro e w7 ⟨rfl,hb⟩
  have HT:=hide (HT.out.below hb)
  have HC:=hide (HC.out.below hb HC.out.lt)
  have HD:=hide (HD.out.below hb HD.out.lt)
  have HB:=hide (HB.out.trans (hb.mono HB.out.size))
  clear KN hb j0 j1

  have hn:=KQ.out w7 HT.out
  clear KQ
  go_wp2_with fail
  go_ret
  exact ⟨rfl,HB.out⟩

theorem ren_fit0 {w:World} {S:Nat→Prop} {g r n:Nat} {s:Tr} (h:TM w S g s) (hw:Wf s r n) (hn:n ≤ 1700000000000) {p q:List UInt8} {z z2:List UInt8} {ms ms2:List (List UInt8)} (hp:spl p=some (ms ++ [z])) (hq:spl q=some (ms2 ++ [z2])) {d x:Nat} {t:Th} (e1:plc s ms r=(0,some d)) (ht:s.T d=some t) (h2:t.k=2) (hc:t.ns.lookup z=some x) {d2:Nat} {t2:Th} (e2:plc s ms2 r=(0,some d2)) (ht2:s.T d2=some t2) (h22:t2.k=2) (hab:abo (ms ++ [z]) (ms2 ++ [z2])=false) (hc2:t2.ns.lookup z2=none) {tx:Th} (hx:s.T x=some tx) {rk:Nat→Nat} (hdp:Deep s rk) {n2:Nat} (hnn:rk x < n2) (hn2:n2 ≤ 1800000000000) (hfit:fitsB s n2 q x=false) :
  Calls Tryz.prog 16 #[.pointer (some ⟨g,0,none⟩),.string (St p),.string (St q)] w fun e w'=>e=.returned (.int .i64 16)∧Below w.heap.size w w':=by
 have K:=refuses_two h hw.ok.row_ne (p:=p) (q:=q) (by have:=spl_len hp; omega) (by have:=spl_len hq; omega)
 rw [show refE [p,q]=0 by unfold refE; simp [hp,hq]] at K
 have K:=hide K
 have HT:=hide h
 have HT0:=hide h
 have hSw:=h.lt
 have dne:=not_root hp
 have dne2:=not_root hq
 have KT:Hid (∀ u,TM u S g s→Calls Tryz.prog 54 #[.pointer (some ⟨g,0,none⟩),.string (St p)] u fun e w'=>e=.returned (.tuple #[.agg #[.pointer (some ⟨d,0,none⟩),.string (St z)],.pointer (some ⟨x,0,none⟩),.int .i64 0])∧Below u.heap.size u w'):=fun u hu=>by
  have:=taken_any hu hw.ok hp
  rw [tkA_some e1 ht hc] at this
  exact this
 have KA:Hid (∀ u,Calls Tryz.prog 55 #[.string (St p),.string (St q)] u fun e w'=>e=.returned (.tuple #[.bool false,.int .i64 0])∧Below u.heap.size u w'):=fun u=>by
  have:=above_yes u hp hq
  rw [hab] at this
  exact this
 have KP:Hid (∀ u,TM u S g s→Calls Tryz.prog 56 #[.pointer (some ⟨g,0,none⟩),.string (St q)] u fun e w'=>e=.returned (.tuple #[.agg #[.pointer (some ⟨d2,0,none⟩),.string (St z2)],.int .i64 0])∧Below u.heap.size u w'):=fun u hu=>by
  have:=place_any hu hw.ok hq
  rw [plA_some z2 e2] at this
  exact this
 have KN:Hid (∀ u,TM u S g s→Calls Tryz.prog 57 #[.agg #[.pointer (some ⟨d2,0,none⟩),.string (St z2)]] u fun e w'=>e=.returned (.pointer none)∧Below u.heap.size u w'):=fun u hu=>by
  have:=named_any hu ht2 h22 (name_len hq)
  rw [hc2] at this
  exact this
 have KF:Hid (∀ u,TM u S g s→Calls Tryz.prog 58 #[.pointer (some ⟨x,0,none⟩),.string (St q)] u fun e w'=>e=.returned (.bool false)∧Below u.heap.size u w'):=fun u hu=>by
  have:=fits_any hu hdp hx hnn hn2 q (by have:=spl_len hq; omega)
  rw [hfit] at this
  exact this
 clear h hw hp hq
 generalize St p=sp at *
 generalize St q=sq at *
 clear ht h2 hc e1 hab e2 ht2 h22 hc2 hfit hnn hn2 hdp
 clear hx
 generalize St z=sz at *
 generalize St z2=sz2 at *
 go_enter Tryz.func16,Tryz.ntmps16
 go_wp2_with fail
 refine (unhide K).mono ?_
 rintro e w1 ⟨rfl,hb⟩
 have HT:=hide (HT.out.below hb)
 have HB:=hide hb
 clear K hb
 have KT:=hide (KT.out w1 HT.out)
 go_wp2_with fail
 refine (unhide KT).mono ?_
 rintro e w2 ⟨rfl,hb⟩
 have hb2:Below w1.heap.size w1 (w2.alloc (.cells #[.pointer (some ⟨d,0,none⟩),.string sz] 92)):=hb.alloc hb.size _
 have HT:=hide (HT.out.below hb2)
 have HC:=hide (C2.new w2 (.pointer (some ⟨d,0,none⟩)) (.string sz))
 have hm8:w.heap.size ≤ w2.heap.size:=Nat.le_trans HB.out.size hb.size
 have HB:=hide (HB.out.trans (hb2.mono HB.out.size))
 have KA:=hide (KA.out (w2.alloc (.cells #[.pointer (some ⟨d,0,none⟩),.string sz] 92)))
 clear KT hb hb2
 go_wp2_with fail
 generalize w2.alloc (.cells #[.pointer (some ⟨d,0,none⟩),.string sz] 92)=w3 at *
 generalize w2.heap.size=m8 at *
 refine (unhide KA).mono ?_
 rintro e w4 ⟨rfl,hb⟩
 have HT:=hide (HT.out.below hb)
 have HC:=hide (HC.out.below hb HC.out.lt)
 have HB:=hide (HB.out.trans (hb.mono HB.out.size))
 clear KA hb
 have hlt8:m8 < w4.heap.size:=HC.out.lt
 have KP:=hide (KP.out w4 HT.out)
 go_wp2_with fail
 refine (unhide KP).mono ?_
 rintro e w5 ⟨rfl,hb⟩
 have hb2:Below w4.heap.size w4 (w5.alloc (.cells #[.pointer (some ⟨d2,0,none⟩),.string sz2] 92)):=hb.alloc hb.size _
 have HT:=hide (HT.out.below hb2)
 have HC:=hide (HC.out.below hb2 hlt8)
 have HD:=hide (C2.new w5 (.pointer (some ⟨d2,0,none⟩)) (.string sz2))
 have hm13:w.heap.size ≤ w5.heap.size:=Nat.le_trans HB.out.size hb.size
 have HB:=hide (HB.out.trans (hb2.mono HB.out.size))
 have KN:=hide (KN.out _ HT.out)
 have j0:=HD.out.c0
 have j1:=HD.out.c1
 clear KP hb hb2 hlt8
 go_upto_region 13 with fail
 change Code.wp _ _ _ _ (w5.alloc (.cells #[.pointer (some ⟨d2,0,none⟩),.string sz2] 92))
 generalize w5.alloc (.cells #[.pointer (some ⟨d2,0,none⟩),.string sz2] 92)=w6 at *
 generalize w5.heap.size=m13 at *
 go_wp2_with fail
 refine (unhide KN).mono ?_
 rintro e w7 ⟨rfl,hb⟩
 have HT:=hide (HT.out.below hb)
 have HC:=hide (HC.out.below hb HC.out.lt)
 have HD:=hide (HD.out.below hb HD.out.lt)
 have HB:=hide (HB.out.trans (hb.mono HB.out.size))
 clear KN hb j0 j1
 have KF:=hide (KF.out w7 HT.out)
 go_wp2_with fail
 refine (unhide KF).mono ?_
 rintro e w8 ⟨rfl,hb⟩
 have HT:=hide (HT.out.below hb)
 have HC:=hide (HC.out.below hb HC.out.lt)
 have HD:=hide (HD.out.below hb HD.out.lt)
 have HB:=hide (HB.out.trans (hb.mono HB.out.size))
 clear KF hb
 go_wp2_with fail
 go_ret
 exact ⟨rfl,HB.out⟩

theorem ren_fit1 {w:World} {S:Nat→Prop} {g r n:Nat} {s:Tr} (h:TM w S g s) (hw:Wf s r n) (hn:n ≤ 1700000000000) {p q:List UInt8} {z z2:List UInt8} {ms ms2:List (List UInt8)} (hp:spl p=some (ms ++ [z])) (hq:spl q=some (ms2 ++ [z2])) {d x:Nat} {t:Th} (e1:plc s ms r=(0,some d)) (ht:s.T d=some t) (h2:t.k=2) (hc:t.ns.lookup z=some x) {d2:Nat} {t2:Th} (e2:plc s ms2 r=(0,some d2)) (ht2:s.T d2=some t2) (h22:t2.k=2) (hab:abo (ms ++ [z]) (ms2 ++ [z2])=false) {y:Nat} {ty:Th} (hy:s.T y=some ty) (hxy:y ≠ x) (hc2:t2.ns.lookup z2=some y) {tx:Th} (hx:s.T x=some tx) {rk:Nat→Nat} (hdp:Deep s rk) {n2:Nat} (hnn:rk x < n2) (hn2:n2 ≤ 1800000000000) (hfit:fitsB s n2 q x=false) :
  Calls Tryz.prog 16 #[.pointer (some ⟨g,0,none⟩),.string (St p),.string (St q)] w fun e w'=>e=.returned (.int .i64 16)∧Below w.heap.size w w':=by
 have K:=refuses_two h hw.ok.row_ne (p:=p) (q:=q) (by have:=spl_len hp; omega) (by have:=spl_len hq; omega)
 rw [show refE [p,q]=0 by unfold refE; simp [hp,hq]] at K
 have K:=hide K
 have HT:=hide h
 have HT0:=hide h
 have hSw:=h.lt
 have dne:=not_root hp
 have dne2:=not_root hq
 have KT:Hid (∀ u,TM u S g s→Calls Tryz.prog 54 #[.pointer (some ⟨g,0,none⟩),.string (St p)] u fun e w'=>e=.returned (.tuple #[.agg #[.pointer (some ⟨d,0,none⟩),.string (St z)],.pointer (some ⟨x,0,none⟩),.int .i64 0])∧Below u.heap.size u w'):=fun u hu=>by
  have:=taken_any hu hw.ok hp
  rw [tkA_some e1 ht hc] at this
  exact this
 have KA:Hid (∀ u,Calls Tryz.prog 55 #[.string (St p),.string (St q)] u fun e w'=>e=.returned (.tuple #[.bool false,.int .i64 0])∧Below u.heap.size u w'):=fun u=>by
  have:=above_yes u hp hq
  rw [hab] at this
  exact this
 have KP:Hid (∀ u,TM u S g s→Calls Tryz.prog 56 #[.pointer (some ⟨g,0,none⟩),.string (St q)] u fun e w'=>e=.returned (.tuple #[.agg #[.pointer (some ⟨d2,0,none⟩),.string (St z2)],.int .i64 0])∧Below u.heap.size u w'):=fun u hu=>by
  have:=place_any hu hw.ok hq
  rw [plA_some z2 e2] at this
  exact this
 have KN:Hid (∀ u,TM u S g s→Calls Tryz.prog 57 #[.agg #[.pointer (some ⟨d2,0,none⟩),.string (St z2)]] u fun e w'=>e=.returned (.pointer (some ⟨y,0,none⟩))∧Below u.heap.size u w'):=fun u hu=>by
  have:=named_any hu ht2 h22 (name_len hq)
  rw [hc2] at this
  exact this
 have KF:Hid (∀ u,TM u S g s→Calls Tryz.prog 58 #[.pointer (some ⟨x,0,none⟩),.string (St q)] u fun e w'=>e=.returned (.bool false)∧Below u.heap.size u w'):=fun u hu=>by
  have:=fits_any hu hdp hx hnn hn2 q (by have:=spl_len hq; omega)
  rw [hfit] at this
  exact this
 have KQ:Hid (∀ u,TM u S g s→(binOp .eql 63 (.pointer (some ⟨x,0,none⟩)) (.pointer (some ⟨y,0,none⟩))).run Tryz.prog u=.ok (.bool false) u):=fun u hu=>by
  have:=ptr_eq hu hx hy (v:=u) rfl
  rwa [decide_eq_false (fun e=>hxy e.symm)] at this
 clear h hw hp hq
 generalize St p=sp at *
 generalize St q=sq at *
 clear ht h2 hc e1 hab e2 ht2 h22 hc2 hfit hnn hn2 hdp
 clear hx hy hxy
 generalize St z=sz at *
 generalize St z2=sz2 at *
 go_enter Tryz.func16,Tryz.ntmps16
 go_wp2_with fail
 refine (unhide K).mono ?_
 rintro e w1 ⟨rfl,hb⟩
 have HT:=hide (HT.out.below hb)
 have HB:=hide hb
 clear K hb
 have KT:=hide (KT.out w1 HT.out)
 go_wp2_with fail
 refine (unhide KT).mono ?_
 rintro e w2 ⟨rfl,hb⟩
 have hb2:Below w1.heap.size w1 (w2.alloc (.cells #[.pointer (some ⟨d,0,none⟩),.string sz] 92)):=hb.alloc hb.size _
 have HT:=hide (HT.out.below hb2)
 have HC:=hide (C2.new w2 (.pointer (some ⟨d,0,none⟩)) (.string sz))
 have hm8:w.heap.size ≤ w2.heap.size:=Nat.le_trans HB.out.size hb.size
 have HB:=hide (HB.out.trans (hb2.mono HB.out.size))
 have KA:=hide (KA.out (w2.alloc (.cells #[.pointer (some ⟨d,0,none⟩),.string sz] 92)))
 clear KT hb hb2
 go_wp2_with fail
 generalize w2.alloc (.cells #[.pointer (some ⟨d,0,none⟩),.string sz] 92)=w3 at *
 generalize w2.heap.size=m8 at *
 refine (unhide KA).mono ?_
 rintro e w4 ⟨rfl,hb⟩
 have HT:=hide (HT.out.below hb)
 have HC:=hide (HC.out.below hb HC.out.lt)
 have HB:=hide (HB.out.trans (hb.mono HB.out.size))
 clear KA hb
 have hlt8:m8 < w4.heap.size:=HC.out.lt
 have KP:=hide (KP.out w4 HT.out)
 go_wp2_with fail
 refine (unhide KP).mono ?_
 rintro e w5 ⟨rfl,hb⟩
 have hb2:Below w4.heap.size w4 (w5.alloc (.cells #[.pointer (some ⟨d2,0,none⟩),.string sz2] 92)):=hb.alloc hb.size _
 have HT:=hide (HT.out.below hb2)
 have HC:=hide (HC.out.below hb2 hlt8)
 have HD:=hide (C2.new w5 (.pointer (some ⟨d2,0,none⟩)) (.string sz2))
 have hm13:w.heap.size ≤ w5.heap.size:=Nat.le_trans HB.out.size hb.size
 have HB:=hide (HB.out.trans (hb2.mono HB.out.size))
 have KN:=hide (KN.out _ HT.out)
 have j0:=HD.out.c0
 have j1:=HD.out.c1
 clear KP hb hb2 hlt8
 go_upto_region 13 with fail
 change Code.wp _ _ _ _ (w5.alloc (.cells #[.pointer (some ⟨d2,0,none⟩),.string sz2] 92))
 generalize w5.alloc (.cells #[.pointer (some ⟨d2,0,none⟩),.string sz2] 92)=w6 at *
 generalize w5.heap.size=m13 at *
 go_wp2_with fail
 refine (unhide KN).mono ?_
 rintro e w7 ⟨rfl,hb⟩
 have HT:=hide (HT.out.below hb)
 have HC:=hide (HC.out.below hb HC.out.lt)
 have HD:=hide (HD.out.below hb HD.out.lt)
 have HB:=hide (HB.out.trans (hb.mono HB.out.size))
 clear KN hb j0 j1
 have hn:=KQ.out w7 HT.out
 clear KQ
 have KF:=hide (KF.out w7 HT.out)
 go_wp2_with fail
 refine (unhide KF).mono ?_
 rintro e w8 ⟨rfl,hb⟩
 have HT:=hide (HT.out.below hb)
 have HC:=hide (HC.out.below hb HC.out.lt)
 have HD:=hide (HD.out.below hb HD.out.lt)
 have HB:=hide (HB.out.trans (hb.mono HB.out.size))
 clear KF hb
 go_wp2_with fail
 go_ret
 exact ⟨rfl,HB.out⟩

theorem ren_yld {w:World} {S:Nat→Prop} {g r n:Nat} {s:Tr} (h:TM w S g s) (hw:Wf s r n) (hn:n ≤ 1700000000000) {p q:List UInt8} {z z2:List UInt8} {ms ms2:List (List UInt8)} (hp:spl p=some (ms ++ [z])) (hq:spl q=some (ms2 ++ [z2])) {d x:Nat} {t:Th} (e1:plc s ms r=(0,some d)) (ht:s.T d=some t) (h2:t.k=2) (hc:t.ns.lookup z=some x) {d2:Nat} {t2:Th} (e2:plc s ms2 r=(0,some d2)) (ht2:s.T d2=some t2) (h22:t2.k=2) (hab:abo (ms ++ [z]) (ms2 ++ [z2])=false) {y:Nat} {ty:Th} (hy:s.T y=some ty) (hxy:y ≠ x) (hc2:t2.ns.lookup z2=some y) {tx:Th} (hx:s.T x=some tx) {rk:Nat→Nat} (hdp:Deep s rk) {n2:Nat} (hnn:rk x < n2) (hn2:n2 ≤ 1800000000000) (hfit:fitsB s n2 q x=true) (hE:yE s y ty tx.k ≠ 0) :
  Calls Tryz.prog 16 #[.pointer (some ⟨g,0,none⟩),.string (St p),.string (St q)] w fun e w'=>e=.returned (.int .i64 (yE s y ty tx.k))∧Below w.heap.size w w':=by
 have K:=refuses_two h hw.ok.row_ne (p:=p) (q:=q) (by have:=spl_len hp; omega) (by have:=spl_len hq; omega)
 rw [show refE [p,q]=0 by unfold refE; simp [hp,hq]] at K
 have K:=hide K
 have HT:=hide h
 have HT0:=hide h
 have hSw:=h.lt
 have dne:=not_root hp
 have dne2:=not_root hq
 have KT:Hid (∀ u,TM u S g s→Calls Tryz.prog 54 #[.pointer (some ⟨g,0,none⟩),.string (St p)] u fun e w'=>e=.returned (.tuple #[.agg #[.pointer (some ⟨d,0,none⟩),.string (St z)],.pointer (some ⟨x,0,none⟩),.int .i64 0])∧Below u.heap.size u w'):=fun u hu=>by
  have:=taken_any hu hw.ok hp
  rw [tkA_some e1 ht hc] at this
  exact this
 have KA:Hid (∀ u,Calls Tryz.prog 55 #[.string (St p),.string (St q)] u fun e w'=>e=.returned (.tuple #[.bool false,.int .i64 0])∧Below u.heap.size u w'):=fun u=>by
  have:=above_yes u hp hq
  rw [hab] at this
  exact this
 have KP:Hid (∀ u,TM u S g s→Calls Tryz.prog 56 #[.pointer (some ⟨g,0,none⟩),.string (St q)] u fun e w'=>e=.returned (.tuple #[.agg #[.pointer (some ⟨d2,0,none⟩),.string (St z2)],.int .i64 0])∧Below u.heap.size u w'):=fun u hu=>by
  have:=place_any hu hw.ok hq
  rw [plA_some z2 e2] at this
  exact this
 have KN:Hid (∀ u,TM u S g s→Calls Tryz.prog 57 #[.agg #[.pointer (some ⟨d2,0,none⟩),.string (St z2)]] u fun e w'=>e=.returned (.pointer (some ⟨y,0,none⟩))∧Below u.heap.size u w'):=fun u hu=>by
  have:=named_any hu ht2 h22 (name_len hq)
  rw [hc2] at this
  exact this
 have KF:Hid (∀ u,TM u S g s→Calls Tryz.prog 58 #[.pointer (some ⟨x,0,none⟩),.string (St q)] u fun e w'=>e=.returned (.bool true)∧Below u.heap.size u w'):=fun u hu=>by
  have:=fits_any hu hdp hx hnn hn2 q (by have:=spl_len hq; omega)
  rw [hfit] at this
  exact this
 have KQ:Hid (∀ u,TM u S g s→(binOp .eql 63 (.pointer (some ⟨x,0,none⟩)) (.pointer (some ⟨y,0,none⟩))).run Tryz.prog u=.ok (.bool false) u):=fun u hu=>by
  have:=ptr_eq hu hx hy (v:=u) rfl
  rwa [decide_eq_false (fun e=>hxy e.symm)] at this
 have KY:Hid (∀ u,TM u S g s→Calls Tryz.prog 59 #[.pointer (some ⟨g,0,none⟩),.pointer (some ⟨y,0,none⟩),.int .i64 tx.k] u fun e w'=>e=.returned (.int .i64 (yE s y ty tx.k))∧w'=u):=fun u hu =>
  yields_any hu hy (hdp.small y ty hy) (fun f b ho=>by obtain ⟨t,ht,_⟩:=hw.opn f b ho; exact ⟨t,ht⟩) (hw.ok.kind y ty hy) (hw.ok.kind x tx hx)
 have HX:=hide hx
 have d1:(yE s y ty tx.k != 0)=true:=by simpa using hE
 clear h hw hp hq
 generalize St p=sp at *
 generalize St q=sq at *
 clear ht h2 hc e1 hab e2 ht2 h22 hc2 hfit hnn hn2 hdp
 clear hx hy hxy hE
 generalize yE s y ty tx.k=E at *
 generalize hkx:tx.k=kx at *
 generalize St z=sz at *
 generalize St z2=sz2 at *
 go_enter Tryz.func16,Tryz.ntmps16
 go_wp2_with fail
 refine (unhide K).mono ?_
 rintro e w1 ⟨rfl,hb⟩
 have HT:=hide (HT.out.below hb)
 have HB:=hide hb
 clear K hb
 have KT:=hide (KT.out w1 HT.out)
 go_wp2_with fail
 refine (unhide KT).mono ?_
 rintro e w2 ⟨rfl,hb⟩
 have hb2:Below w1.heap.size w1 (w2.alloc (.cells #[.pointer (some ⟨d,0,none⟩),.string sz] 92)):=hb.alloc hb.size _
 have HT:=hide (HT.out.below hb2)
 have HC:=hide (C2.new w2 (.pointer (some ⟨d,0,none⟩)) (.string sz))
 have hm8:w.heap.size ≤ w2.heap.size:=Nat.le_trans HB.out.size hb.size
 have HB:=hide (HB.out.trans (hb2.mono HB.out.size))
 have KA:=hide (KA.out (w2.alloc (.cells #[.pointer (some ⟨d,0,none⟩),.string sz] 92)))
 clear KT hb hb2
 go_wp2_with fail
 generalize w2.alloc (.cells #[.pointer (some ⟨d,0,none⟩),.string sz] 92)=w3 at *
 generalize w2.heap.size=m8 at *
 refine (unhide KA).mono ?_
 rintro e w4 ⟨rfl,hb⟩
 have HT:=hide (HT.out.below hb)
 have HC:=hide (HC.out.below hb HC.out.lt)
 have HB:=hide (HB.out.trans (hb.mono HB.out.size))
 clear KA hb
 have hlt8:m8 < w4.heap.size:=HC.out.lt
 have KP:=hide (KP.out w4 HT.out)
 go_wp2_with fail
 refine (unhide KP).mono ?_
 rintro e w5 ⟨rfl,hb⟩
 have hb2:Below w4.heap.size w4 (w5.alloc (.cells #[.pointer (some ⟨d2,0,none⟩),.string sz2] 92)):=hb.alloc hb.size _
 have HT:=hide (HT.out.below hb2)
 have HC:=hide (HC.out.below hb2 hlt8)
 have HD:=hide (C2.new w5 (.pointer (some ⟨d2,0,none⟩)) (.string sz2))
 have hm13:w.heap.size ≤ w5.heap.size:=Nat.le_trans HB.out.size hb.size
 have HB:=hide (HB.out.trans (hb2.mono HB.out.size))
 have KN:=hide (KN.out _ HT.out)
 have j0:=HD.out.c0
 have j1:=HD.out.c1
 clear KP hb hb2 hlt8
 go_upto_region 13 with fail
 change Code.wp _ _ _ _ (w5.alloc (.cells #[.pointer (some ⟨d2,0,none⟩),.string sz2] 92))
 generalize w5.alloc (.cells #[.pointer (some ⟨d2,0,none⟩),.string sz2] 92)=w6 at *
 generalize w5.heap.size=m13 at *
 go_wp2_with fail
 refine (unhide KN).mono ?_
 rintro e w7 ⟨rfl,hb⟩
 have HT:=hide (HT.out.below hb)
 have HC:=hide (HC.out.below hb HC.out.lt)
 have HD:=hide (HD.out.below hb HD.out.lt)
 have HB:=hide (HB.out.trans (hb.mono HB.out.size))
 clear KN hb j0 j1
 have hn:=KQ.out w7 HT.out
 clear KQ
 have KF:=hide (KF.out w7 HT.out)
 go_wp2_with fail
 refine (unhide KF).mono ?_
 rintro e w8 ⟨rfl,hb⟩
 have HT:=hide (HT.out.below hb)
 have HC:=hide (HC.out.below hb HC.out.lt)
 have HD:=hide (HD.out.below hb HD.out.lt)
 have HB:=hide (HB.out.trans (hb.mono HB.out.size))
 clear KF hb
 have cx:=(HT.out.thing_cells HX.out).1
 have KY:=hide (KY.out w8 HT.out)
 go_wp2_with fail
 refine (unhide KY).mono ?_
 rintro e w8' ⟨rfl,rfl⟩
 clear KY
 go_wp2_with fail
 go_ret
 exact ⟨rfl,HB.out⟩

theorem ren_mov {w:World} {S:Nat→Prop} {g r n:Nat} {s:Tr} (h:TM w S g s) (hw:Wf s r n) (hn:n ≤ 1700000000000) {p q:List UInt8} {z z2:List UInt8} {ms ms2:List (List UInt8)} (hp:spl p=some (ms ++ [z])) (hq:spl q=some (ms2 ++ [z2])) {d x:Nat} {t:Th} (e1:plc s ms r=(0,some d)) (ht:s.T d=some t) (h2:t.k=2) (hc:t.ns.lookup z=some x) {d2:Nat} {t2:Th} (e2:plc s ms2 r=(0,some d2)) (ht2:s.T d2=some t2) (h22:t2.k=2) (hab:abo (ms ++ [z]) (ms2 ++ [z2])=false) (hc2:t2.ns.lookup z2=none) {tx:Th} (hx:s.T x=some tx) {rk:Nat→Nat} (hdp:Deep s rk) {n2:Nat} (hnn:rk x < n2) (hn2:n2 ≤ 1800000000000) (hfit:fitsB s n2 q x=true) :
  Calls Tryz.prog 16 #[.pointer (some ⟨g,0,none⟩),.string (St p),.string (St q)] w fun e w'=>e=.returned (.int .i64 0)∧TM w' (Up S w.heap.size w'.heap.size) g (s.moved d z d2 z2 x)∧Kp S w w':=by
 have hz:=name_len hp
 have hz2:=name_len hq
 obtain ⟨t3,h3,k3,l3⟩:∃ t3,(s.edit d (delN z)).T d2=some t3∧t3.k=2∧t3.ns.length < 1000000000000000:=by
  rw [edit_some ht,Tr.upd_T]
  have:=hw.ns_le ht
  have:=hw.ns_le ht2
  by_cases e:d2=d
  ·rw [if_pos e]
   exact ⟨_,rfl,h2,by have:=List.length_filter_le (fun e:List UInt8 × Nat=>!(e.1 == z)) t.ns; show (delN z t.ns).length < _; unfold delN; omega⟩
  ·rw [if_neg e]
   exact ⟨t2,ht2,h22,by omega⟩
 have KE:Hid (∀ u,TM u S g s→_):=fun u (hu:TM u S g s)=>hu.edits x ht h2 hz hz2 h3 k3 l3
 have K:=refuses_two h hw.ok.row_ne (p:=p) (q:=q) (by have:=spl_len hp; omega) (by have:=spl_len hq; omega)
 rw [show refE [p,q]=0 by unfold refE; simp [hp,hq]] at K
 have K:=hide K
 have HT:=hide h
 have HT0:=hide h
 have hSw:=h.lt
 have dne:=not_root hp
 have dne2:=not_root hq
 have KT:Hid (∀ u,TM u S g s→Calls Tryz.prog 54 #[.pointer (some ⟨g,0,none⟩),.string (St p)] u fun e w'=>e=.returned (.tuple #[.agg #[.pointer (some ⟨d,0,none⟩),.string (St z)],.pointer (some ⟨x,0,none⟩),.int .i64 0])∧Below u.heap.size u w'):=fun u hu=>by
  have:=taken_any hu hw.ok hp
  rw [tkA_some e1 ht hc] at this
  exact this
 have KA:Hid (∀ u,Calls Tryz.prog 55 #[.string (St p),.string (St q)] u fun e w'=>e=.returned (.tuple #[.bool false,.int .i64 0])∧Below u.heap.size u w'):=fun u=>by
  have:=above_yes u hp hq
  rw [hab] at this
  exact this
 have KP:Hid (∀ u,TM u S g s→Calls Tryz.prog 56 #[.pointer (some ⟨g,0,none⟩),.string (St q)] u fun e w'=>e=.returned (.tuple #[.agg #[.pointer (some ⟨d2,0,none⟩),.string (St z2)],.int .i64 0])∧Below u.heap.size u w'):=fun u hu=>by
  have:=place_any hu hw.ok hq
  rw [plA_some z2 e2] at this
  exact this
 have KN:Hid (∀ u,TM u S g s→Calls Tryz.prog 57 #[.agg #[.pointer (some ⟨d2,0,none⟩),.string (St z2)]] u fun e w'=>e=.returned (.pointer none)∧Below u.heap.size u w'):=fun u hu=>by
  have:=named_any hu ht2 h22 (name_len hq)
  rw [hc2] at this
  exact this
 have KF:Hid (∀ u,TM u S g s→Calls Tryz.prog 58 #[.pointer (some ⟨x,0,none⟩),.string (St q)] u fun e w'=>e=.returned (.bool true)∧Below u.heap.size u w'):=fun u hu=>by
  have:=fits_any hu hdp hx hnn hn2 q (by have:=spl_len hq; omega)
  rw [hfit] at this
  exact this
 clear h hw hp hq
 generalize St p=sp at *
 generalize St q=sq at *
 clear ht h2 hc e1 hab e2 ht2 h22 hc2 hfit hnn hn2 hdp
 clear hx hz hz2 h3 k3 l3
 generalize St z=sz at *
 generalize St z2=sz2 at *
 go_enter Tryz.func16,Tryz.ntmps16
 go_wp2_with fail
 refine (unhide K).mono ?_
 rintro e w1 ⟨rfl,hb⟩
 have HT:=hide (HT.out.below hb)
 have HB:=hide hb
 clear K hb
 have KT:=hide (KT.out w1 HT.out)
 go_wp2_with fail
 refine (unhide KT).mono ?_
 rintro e w2 ⟨rfl,hb⟩
 have hb2:Below w1.heap.size w1 (w2.alloc (.cells #[.pointer (some ⟨d,0,none⟩),.string sz] 92)):=hb.alloc hb.size _
 have HT:=hide (HT.out.below hb2)
 have HC:=hide (C2.new w2 (.pointer (some ⟨d,0,none⟩)) (.string sz))
 have hm8:w.heap.size ≤ w2.heap.size:=Nat.le_trans HB.out.size hb.size
 have HB:=hide (HB.out.trans (hb2.mono HB.out.size))
 have KA:=hide (KA.out (w2.alloc (.cells #[.pointer (some ⟨d,0,none⟩),.string sz] 92)))
 clear KT hb hb2
 go_wp2_with fail
 generalize w2.alloc (.cells #[.pointer (some ⟨d,0,none⟩),.string sz] 92)=w3 at *
 generalize w2.heap.size=m8 at *
 refine (unhide KA).mono ?_
 rintro e w4 ⟨rfl,hb⟩
 have HT:=hide (HT.out.below hb)
 have HC:=hide (HC.out.below hb HC.out.lt)
 have HB:=hide (HB.out.trans (hb.mono HB.out.size))
 clear KA hb
 have hlt8:m8 < w4.heap.size:=HC.out.lt
 have KP:=hide (KP.out w4 HT.out)
 go_wp2_with fail
 refine (unhide KP).mono ?_
 rintro e w5 ⟨rfl,hb⟩
 have hb2:Below w4.heap.size w4 (w5.alloc (.cells #[.pointer (some ⟨d2,0,none⟩),.string sz2] 92)):=hb.alloc hb.size _
 have HT:=hide (HT.out.below hb2)
 have HC:=hide (HC.out.below hb2 hlt8)
 have HD:=hide (C2.new w5 (.pointer (some ⟨d2,0,none⟩)) (.string sz2))
 have hm13:w.heap.size ≤ w5.heap.size:=Nat.le_trans HB.out.size hb.size
 have HB:=hide (HB.out.trans (hb2.mono HB.out.size))
 have KN:=hide (KN.out _ HT.out)
 have j0:=HD.out.c0
 have j1:=HD.out.c1
 clear KP hb hb2 hlt8
 go_upto_region 13 with fail
 change Code.wp _ _ _ _ (w5.alloc (.cells #[.pointer (some ⟨d2,0,none⟩),.string sz2] 92))
 generalize w5.alloc (.cells #[.pointer (some ⟨d2,0,none⟩),.string sz2] 92)=w6 at *
 generalize w5.heap.size=m13 at *
 go_wp2_with fail
 refine (unhide KN).mono ?_
 rintro e w7 ⟨rfl,hb⟩
 have HT:=hide (HT.out.below hb)
 have HC:=hide (HC.out.below hb HC.out.lt)
 have HD:=hide (HD.out.below hb HD.out.lt)
 have HB:=hide (HB.out.trans (hb.mono HB.out.size))
 clear KN hb j0 j1
 have KF:=hide (KF.out w7 HT.out)
 go_wp2_with fail
 refine (unhide KF).mono ?_
 rintro e w8 ⟨rfl,hb⟩
 have HT:=hide (HT.out.below hb)
 have HC:=hide (HC.out.below hb HC.out.lt)
 have HD:=hide (HD.out.below hb HD.out.lt)
 have HB:=hide (HB.out.trans (hb.mono HB.out.size))
 clear KF hb
 have HE:=hide (KE.out w8 HT.out)
 clear KE
 obtain ⟨u1,u2,mp1,mp2,f1,f2,f3,f4,f5,f6,f7,f8⟩:=HE.out
 have k0:=HC.out.c0
 have k1:=HC.out.c1
 have j0:=(f8 _ _ _ HD.out).c0
 have j1:=(f8 _ _ _ HD.out).c1
 have HR:Hid (TM u2 (Up S w.heap.size u2.heap.size) g (s.moved d z d2 z2 x)∧Kp S w u2):=⟨f5.kept (fun _ _=>rfl) (fun _ q=>.inl q) (fun k q=>q.elim (fun e=>f5.lt k e) (fun e=>e.2)),f7 S w (fun k q=>.inl q) (Kp.of HB.out)⟩
 clear HE f5 f6 f7 f8 HT HB HC HD HT0 hm8 hm13
 go_upto_region 25 with fail
 go_region
 go_upto_region 26 with fail
 go_region
 go_wp2_with fail
 go_ret
 exact ⟨rfl,HR.out⟩

theorem ren_ovr {w:World} {S:Nat→Prop} {g r n:Nat} {s:Tr} (h:TM w S g s) (hw:Wf s r n) (hn:n ≤ 1700000000000) {p q:List UInt8} {z z2:List UInt8} {ms ms2:List (List UInt8)} (hp:spl p=some (ms ++ [z])) (hq:spl q=some (ms2 ++ [z2])) {d x:Nat} {t:Th} (e1:plc s ms r=(0,some d)) (ht:s.T d=some t) (h2:t.k=2) (hc:t.ns.lookup z=some x) {d2:Nat} {t2:Th} (e2:plc s ms2 r=(0,some d2)) (ht2:s.T d2=some t2) (h22:t2.k=2) (hab:abo (ms ++ [z]) (ms2 ++ [z2])=false) {y:Nat} {ty:Th} (hy:s.T y=some ty) (hxy:y ≠ x) (hc2:t2.ns.lookup z2=some y) {tx:Th} (hx:s.T x=some tx) {rk:Nat→Nat} (hdp:Deep s rk) {n2:Nat} (hnn:rk x < n2) (hn2:n2 ≤ 1800000000000) (hfit:fitsB s n2 q x=true) (hE:yE s y ty tx.k=0)
  {t1 t3:Th} (g1:(s.gone d2 t2 z2 y ty).T d=some t1) (g2:t1.k=2) (g3:((s.gone d2 t2 z2 y ty).edit d (delN z)).T d2=some t3) (g4:t3.k=2) (g5:t3.ns.length < 1000000000000000) :
  Calls Tryz.prog 16 #[.pointer (some ⟨g,0,none⟩),.string (St p),.string (St q)] w fun e w'=>e=.returned (.int .i64 0)∧TM w' (Up S w.heap.size w'.heap.size) g ((s.gone d2 t2 z2 y ty).moved d z d2 z2 x)∧Kp S w w':=by
 have hz:=name_len hp
 have hz2:=name_len hq
 obtain ⟨q1,q2,q3,q4,q5⟩:=hw.dropable (by omega) ht2 hc2 hy
 have KD:Hid (∀ u,TM u S g s→Calls Tryz.prog 60 #[.pointer (some ⟨g,0,none⟩),.agg #[.pointer (some ⟨d2,0,none⟩),.string (St z2)]] u fun e w'=>e=.returned (.tuple #[])∧TM w' (Up S u.heap.size w'.heap.size) g (s.gone d2 t2 z2 y ty)∧Kp S u w'):=fun u hu=>drop_any hu ht2 h22 q5 hc2 hy q1 q2 q3
 have KE:Hid (∀ u S',TM u S' g (s.gone d2 t2 z2 y ty)→_):=fun u S' (hu:TM u S' g (s.gone d2 t2 z2 y ty))=>hu.edits x g1 g2 hz hz2 g3 g4 g5
 have K:=refuses_two h hw.ok.row_ne (p:=p) (q:=q) (by have:=spl_len hp; omega) (by have:=spl_len hq; omega)
 rw [show refE [p,q]=0 by unfold refE; simp [hp,hq]] at K
 have K:=hide K
 have HT:=hide h
 have HT0:=hide h
 have hSw:=h.lt
 have dne:=not_root hp
 have dne2:=not_root hq
 have KT:Hid (∀ u,TM u S g s→Calls Tryz.prog 54 #[.pointer (some ⟨g,0,none⟩),.string (St p)] u fun e w'=>e=.returned (.tuple #[.agg #[.pointer (some ⟨d,0,none⟩),.string (St z)],.pointer (some ⟨x,0,none⟩),.int .i64 0])∧Below u.heap.size u w'):=fun u hu=>by
  have:=taken_any hu hw.ok hp
  rw [tkA_some e1 ht hc] at this
  exact this
 have KA:Hid (∀ u,Calls Tryz.prog 55 #[.string (St p),.string (St q)] u fun e w'=>e=.returned (.tuple #[.bool false,.int .i64 0])∧Below u.heap.size u w'):=fun u=>by
  have:=above_yes u hp hq
  rw [hab] at this
  exact this
 have KP:Hid (∀ u,TM u S g s→Calls Tryz.prog 56 #[.pointer (some ⟨g,0,none⟩),.string (St q)] u fun e w'=>e=.returned (.tuple #[.agg #[.pointer (some ⟨d2,0,none⟩),.string (St z2)],.int .i64 0])∧Below u.heap.size u w'):=fun u hu=>by
  have:=place_any hu hw.ok hq
  rw [plA_some z2 e2] at this
  exact this
 have KN:Hid (∀ u,TM u S g s→Calls Tryz.prog 57 #[.agg #[.pointer (some ⟨d2,0,none⟩),.string (St z2)]] u fun e w'=>e=.returned (.pointer (some ⟨y,0,none⟩))∧Below u.heap.size u w'):=fun u hu=>by
  have:=named_any hu ht2 h22 (name_len hq)
  rw [hc2] at this
  exact this
 have KF:Hid (∀ u,TM u S g s→Calls Tryz.prog 58 #[.pointer (some ⟨x,0,none⟩),.string (St q)] u fun e w'=>e=.returned (.bool true)∧Below u.heap.size u w'):=fun u hu=>by
  have:=fits_any hu hdp hx hnn hn2 q (by have:=spl_len hq; omega)
  rw [hfit] at this
  exact this
 have KQ:Hid (∀ u,TM u S g s→(binOp .eql 63 (.pointer (some ⟨x,0,none⟩)) (.pointer (some ⟨y,0,none⟩))).run Tryz.prog u=.ok (.bool false) u):=fun u hu=>by
  have:=ptr_eq hu hx hy (v:=u) rfl
  rwa [decide_eq_false (fun e=>hxy e.symm)] at this
 have KY:Hid (∀ u,TM u S g s→Calls Tryz.prog 59 #[.pointer (some ⟨g,0,none⟩),.pointer (some ⟨y,0,none⟩),.int .i64 tx.k] u fun e w'=>e=.returned (.int .i64 (yE s y ty tx.k))∧w'=u):=fun u hu =>
  yields_any hu hy (hdp.small y ty hy) (fun f b ho=>by obtain ⟨t,ht,_⟩:=hw.opn f b ho; exact ⟨t,ht⟩) (hw.ok.kind y ty hy) (hw.ok.kind x tx hx)
 have HX:=hide hx
 rw [hE] at KY
 clear h hw hp hq
 generalize St p=sp at *
 generalize St q=sq at *
 clear ht h2 hc e1 hab e2 ht2 h22 hc2 hfit hnn hn2 hdp
 clear hx hy hxy hE q1 q2 q3 q4 q5 hz hz2 g1 g2 g3 g4 g5
 generalize hkx:tx.k=kx at *
 generalize s.gone d2 t2 z2 y ty=s1 at *
 generalize St z=sz at *
 generalize St z2=sz2 at *
 go_enter Tryz.func16,Tryz.ntmps16
 go_wp2_with fail
 refine (unhide K).mono ?_
 rintro e w1 ⟨rfl,hb⟩
 have HT:=hide (HT.out.below hb)
 have HB:=hide hb
 clear K hb
 have KT:=hide (KT.out w1 HT.out)
 go_wp2_with fail
 refine (unhide KT).mono ?_
 rintro e w2 ⟨rfl,hb⟩
 have hb2:Below w1.heap.size w1 (w2.alloc (.cells #[.pointer (some ⟨d,0,none⟩),.string sz] 92)):=hb.alloc hb.size _
 have HT:=hide (HT.out.below hb2)
 have HC:=hide (C2.new w2 (.pointer (some ⟨d,0,none⟩)) (.string sz))
 have hm8:w.heap.size ≤ w2.heap.size:=Nat.le_trans HB.out.size hb.size
 have HB:=hide (HB.out.trans (hb2.mono HB.out.size))
 have KA:=hide (KA.out (w2.alloc (.cells #[.pointer (some ⟨d,0,none⟩),.string sz] 92)))
 clear KT hb hb2
 go_wp2_with fail
 generalize w2.alloc (.cells #[.pointer (some ⟨d,0,none⟩),.string sz] 92)=w3 at *
 generalize w2.heap.size=m8 at *
 refine (unhide KA).mono ?_
 rintro e w4 ⟨rfl,hb⟩
 have HT:=hide (HT.out.below hb)
 have HC:=hide (HC.out.below hb HC.out.lt)
 have HB:=hide (HB.out.trans (hb.mono HB.out.size))
 clear KA hb
 have hlt8:m8 < w4.heap.size:=HC.out.lt
 have KP:=hide (KP.out w4 HT.out)
 go_wp2_with fail
 refine (unhide KP).mono ?_
 rintro e w5 ⟨rfl,hb⟩
 have hb2:Below w4.heap.size w4 (w5.alloc (.cells #[.pointer (some ⟨d2,0,none⟩),.string sz2] 92)):=hb.alloc hb.size _
 have HT:=hide (HT.out.below hb2)
 have HC:=hide (HC.out.below hb2 hlt8)
 have HD:=hide (C2.new w5 (.pointer (some ⟨d2,0,none⟩)) (.string sz2))
 have hm13:w.heap.size ≤ w5.heap.size:=Nat.le_trans HB.out.size hb.size
 have HB:=hide (HB.out.trans (hb2.mono HB.out.size))
 have KN:=hide (KN.out _ HT.out)
 have j0:=HD.out.c0
 have j1:=HD.out.c1
 clear KP hb hb2 hlt8
 go_upto_region 13 with fail
 change Code.wp _ _ _ _ (w5.alloc (.cells #[.pointer (some ⟨d2,0,none⟩),.string sz2] 92))
 generalize w5.alloc (.cells #[.pointer (some ⟨d2,0,none⟩),.string sz2] 92)=w6 at *
 generalize w5.heap.size=m13 at *
 go_wp2_with fail
 refine (unhide KN).mono ?_
 rintro e w7 ⟨rfl,hb⟩
 have HT:=hide (HT.out.below hb)
 have HC:=hide (HC.out.below hb HC.out.lt)
 have HD:=hide (HD.out.below hb HD.out.lt)
 have HB:=hide (HB.out.trans (hb.mono HB.out.size))
 clear KN hb j0 j1
 have hn:=KQ.out w7 HT.out
 clear KQ
 have KF:=hide (KF.out w7 HT.out)
 go_wp2_with fail
 refine (unhide KF).mono ?_
 rintro e w8 ⟨rfl,hb⟩
 have HT:=hide (HT.out.below hb)
 have HC:=hide (HC.out.below hb HC.out.lt)
 have HD:=hide (HD.out.below hb HD.out.lt)
 have HB:=hide (HB.out.trans (hb.mono HB.out.size))
 clear KF hb
 have cx:=(HT.out.thing_cells HX.out).1
 have KY:=hide (KY.out w8 HT.out)
 go_wp2_with fail
 refine (unhide KY).mono ?_
 rintro e w8' ⟨rfl,rfl⟩
 clear KY
 have KD:=hide (KD.out w8' HT.out)
 have j0:=HD.out.c0
 have j1:=HD.out.c1
 go_wp2_with fail
 refine (unhide KD).mono ?_
 rintro e w9 ⟨rfl,h9,hk9⟩
 have n8:¬ S m8:=fun e=>by have:=hSw m8 e; omega
 have n13:¬ S m13:=fun e=>by have:=hSw m13 e; omega
 have HC:=hide (HC.out.kp hk9 n8)
 have HD:=hide (HD.out.kp hk9 n13)
 have HK:Hid (Kp S w w9):=(Kp.of HB.out).trans hk9 (fun k q=>.inl q)
 have hs8:w.heap.size ≤ w8'.heap.size:=HB.out.size
 have HE:=hide (KE.out w9 _ h9)
 clear KD KE j0 j1 h9 hk9
 obtain ⟨u1,u2,mp1,mp2,f1,f2,f3,f4,f5,f6,f7,f8⟩:=HE.out
 have k0:=HC.out.c0
 have k1:=HC.out.c1
 have j0:=(f8 _ _ _ HD.out).c0
 have j1:=(f8 _ _ _ HD.out).c1
 have HR:Hid (TM u2 (Up S w.heap.size u2.heap.size) g (s1.moved d z d2 z2 x)∧Kp S w u2) :=
  ⟨f5.kept (fun _ _=>rfl) (fun k q=>q.elim .inl (fun e=>.inr ⟨by omega,by rw [f6]; exact e.2⟩)) (fun k q=>q.elim (fun e=>f5.lt k (.inl e)) (fun e=>e.2)),f7 S w (fun k q=>q.elim .inl (fun e=>.inr (by omega))) HK.out⟩
 clear HE f5 f6 f7 f8 HT HB HC HD HT0 hm8 hm13 cx HK n8 n13 hs8
 go_upto_region 25 with fail
 go_region
 go_upto_region 26 with fail
 go_region
 go_wp2_with fail
 go_ret
 exact ⟨rfl,HR.out⟩

end Go.Proofs.YtknmgefpjdfenaaGreat

/- Calls keep a tree sound. -/
namespace Go.Proofs.YtknmgefpjdfenaaGreat
set_option maxRecDepth 100000
set_option maxHeartbeats 8000000
open Go.RowKit Go.Shelf Go.Maps
set_option linter.unusedVariables false

theorem names_edit {s s':Tr} (V:NS→Nat) {d i:Nat} (hrow:s'.row=s.row) (hi:s.row[i]?=some (some d)) (hone:∀ j,s.row[j]?=some (some d)→j=i) (hns:∀ k,k ≠ d→s'.nsOf k=s.nsOf k) :
  sumR (fun k=>V (s'.nsOf k)) s'.row + V (s.nsOf d)=sumR (fun k=>V (s.nsOf k)) s.row + V (s'.nsOf d):=by
 rw [hrow]
 exact sumR_upd (F:=fun k=>V (s.nsOf k)) (G:=fun k=>V (s'.nsOf k)) hi hone (fun b hb=>by rw [hns b hb])

theorem Wf.like {s s':Tr} {r n:Nat} (h:Wf s r n) (hrow:s'.row=s.row) (hm:s'.most=s.most) (hl:s'.least=s.least)
  (hT:∀ b t',s'.T b=some t'→∃ t,s.T b=some t∧t'.k=t.k∧t'.n=t.n∧t'.l=t.l∧t'.ns=t.ns∧(t'.k=2→t'.d=t.d)∧(t'.d.length:Int) ≤ s.most)
  (hT2:∀ b t,s.T b=some t→∃ t',s'.T b=some t'∧t'.k=t.k∧t'.n=t.n∧t'.ns=t.ns) (ho:∀ f b,s'.opn f=some b→∃ t,s'.T b=some t∧t.k=1):Wf s' r n:=by
 have hns:∀ k,s'.nsOf k=s.nsOf k:=fun k=>by
  cases h1:s.T k with
  | none =>
   cases h2:s'.T k with
   | none=>rw [nsOf_none h1,nsOf_none h2]
   | some t' =>
    obtain ⟨t,ht,_⟩:=hT k t' h2
    rw [h1] at ht
    cases ht
  | some t =>
   obtain ⟨t',ht',_,_,hn⟩:=hT2 k t h1
   rw [nsOf_some h1,nsOf_some ht',hn]
 have hc:∀ b,s'.cnt b=s.cnt b:=fun b=>by unfold Tr.cnt; rw [hrow]; simp only [hns]
 have ha:s'.all=s.all:=by unfold Tr.all; rw [hrow]; simp only [hns]
 obtain ⟨rk,hrk⟩:=h.rk
 refine ⟨⟨by rw [hrow]; exact h.ok.root,?_,?_,?_⟩,⟨rk,?_⟩,?_,?_,?_,?_,?_,by rw [hc]; exact h.top,?_,?_,ho,?_,by rw [hm]; exact h.mst,by rw [ha]; exact h.few,by rw [hrow]; exact h.len,by rw [hrow,hl]; exact h.lst⟩
 ·obtain ⟨t,ht,hk⟩:=h.ok.dir
  obtain ⟨t',ht',hk',_⟩:=hT2 r t ht
  exact ⟨t',ht',hk'.trans hk⟩
 ·intro b t' e
  obtain ⟨t,ht,hk,_⟩:=hT b t' e
  rw [hk]
  exact h.ok.kind b t ht
 ·intro b t' y c e hy
  obtain ⟨t,ht,_,_,_,hn,_⟩:=hT b t' e
  rw [hn] at hy
  obtain ⟨u,hu⟩:=h.ok.live b t y c ht hy
  obtain ⟨u',hu',_⟩:=hT2 c u hu
  exact ⟨u',hu'⟩
 ·intro b t' e a he
  obtain ⟨t,ht,_,_,_,hn,_⟩:=hT b t' e
  rw [hn] at he
  exact hrk b t ht a he
 ·intro b t' e a he
  obtain ⟨t,ht,_,_,_,hn,_⟩:=hT b t' e
  rw [hn] at he
  obtain ⟨⟨u,hu⟩,hl⟩:=h.liv b t ht a he
  obtain ⟨u',hu',_⟩:=hT2 _ u hu
  exact ⟨⟨u',hu'⟩,hl⟩
 ·intro b t' e
  obtain ⟨t,ht,_,_,_,hn,_⟩:=hT b t' e
  rw [hn]
  exact h.ris b t ht
 ·intro b t' e
  obtain ⟨t,ht,_,hn,_⟩:=hT b t' e
  rw [hn,hrow]
  exact h.num b t ht
 ·intro i b e
  rw [hrow] at e
  obtain ⟨t,ht,hn⟩:=h.row i b e
  obtain ⟨t',ht',_,hn',_⟩:=hT2 b t ht
  exact ⟨t',ht',hn'.trans hn⟩
 ·intro b t' e hne
  obtain ⟨t,ht,_,_,hl,_⟩:=hT b t' e
  rw [hc,hl]
  exact h.lnk b t ht hne
 ·intro b t' e hk
  obtain ⟨t,ht,hk',_,_,_,hd,_⟩:=hT b t' e
  rw [hc,hd hk]
  exact h.dir b t ht (by rw [← hk']; exact hk)
 ·intro b t' e hk
  obtain ⟨t,ht,hk',_,_,hn,_⟩:=hT b t' e
  rw [hn]
  exact h.fil b t ht (by rw [← hk']; exact hk)
 ·intro b t' e
  obtain ⟨t,ht,_,_,_,_,_,hs⟩:=hT b t' e
  rw [hm]
  exact hs

theorem Wf.opened {s:Tr} {r n:Nat} (h:Wf s r n) (f:Nat) {o:Option Nat} (ho:∀ b,o=some b→∃ t,s.T b=some t∧t.k=1):Wf (s.opened f o) r n :=
 h.like rfl rfl rfl (fun b t e=>⟨t,e,rfl,rfl,rfl,rfl,fun _=>rfl,h.siz b t e⟩) (fun b t e=>⟨t,e,rfl,rfl,rfl⟩) (fun i b e=>by
  have e':(if i=f then o else s.opn i)=some b:=e
  by_cases hi:i=f
  ·rw [if_pos hi] at e'; exact ho b e'
  ·rw [if_neg hi] at e'; exact h.opn i b e')

theorem Wf.data {s:Tr} {r n b:Nat} {t:Th} (h:Wf s r n) (ht:s.T b=some t) (hk:t.k=1) {d:List Int} (hd:(d.length:Int) ≤ s.most) (da:Option Addr) (dc:Nat):Wf (s.upd b { t with d:=d,da:=da,dc:=dc }) r n:=by
 have key:∀ c t',(s.upd b { t with d:=d,da:=da,dc:=dc }).T c=some t'→(c=b∧t'={ t with d:=d,da:=da,dc:=dc }) ∨ (c ≠ b∧s.T c=some t'):=fun c t' e=>by
  rw [Tr.upd_T] at e
  by_cases hc:c=b
  ·rw [if_pos hc] at e; cases e; exact .inl ⟨hc,rfl⟩
  ·rw [if_neg hc] at e; exact .inr ⟨hc,e⟩
 have back:∀ c u,s.T c=some u→∃ t',(s.upd b { t with d:=d,da:=da,dc:=dc }).T c=some t'∧t'.k=u.k∧t'.n=u.n∧t'.ns=u.ns:=fun c u e=>by
  rw [Tr.upd_T]
  by_cases hc:c=b
  ·rw [if_pos hc]
   subst hc
   rw [ht] at e
   cases e
   exact ⟨_,rfl,rfl,rfl,rfl⟩
  ·rw [if_neg hc]; exact ⟨u,e,rfl,rfl,rfl⟩
 refine h.like rfl rfl rfl (fun c t' e=>?_) back (fun f c e=>?_)
 ·rcases key c t' e with ⟨rfl,rfl⟩ | ⟨_,e'⟩
  ·exact ⟨t,ht,rfl,rfl,rfl,rfl,fun q=>by have q':t.k=2:=q; omega,hd⟩
  ·exact ⟨t',e',rfl,rfl,rfl,rfl,fun _=>rfl,h.siz c t' e'⟩
 ·obtain ⟨u,hu,huk⟩:=h.opn f c e
  obtain ⟨t',ht',hk',_⟩:=back c u hu
  exact ⟨t',ht',hk'.trans huk⟩

theorem Wf.linked {s:Tr} {r n d x:Nat} {t tx:Th} {z:List UInt8} (h:Wf s r n) (ht:s.T d=some t) (h2:t.k=2) (hz:z.length ≤ 200) (hc:t.ns.lookup z=none) (hx:s.T x=some tx) (hk:tx.k=1):Wf (s.linked d t z x tx) r (n + 1):=by
 have hdx:d ≠ x:=fun e=>by subst e; rw [ht] at hx; cases hx; omega
 have hxr:x ≠ r:=fun e=>by subst e; obtain ⟨tr,htr,hkr,_⟩:=h.root; rw [hx] at htr; cases htr; omega
 have hT:∀ k,(s.linked d t z x tx).T k=if k=d then some { t with ns:=putN z x t.ns } else if k=x then some { tx with l:=tx.l + 1 } else s.T k:=fun k=>rfl
 have hTd:(s.linked d t z x tx).T d=some { t with ns:=putN z x t.ns }:=by rw [hT,if_pos rfl]
 have hTx:(s.linked d t z x tx).T x=some { tx with l:=tx.l + 1 }:=by rw [hT,if_neg (fun e=>hdx e.symm),if_pos rfl]
 have hTo:∀ k,k ≠ d→k ≠ x→(s.linked d t z x tx).T k=s.T k:=fun k h1 h2=>by rw [hT,if_neg h1,if_neg h2]
 have cases':∀ b t',(s.linked d t z x tx).T b=some t'→(b=d∧t'={ t with ns:=putN z x t.ns }) ∨ (b=x∧t'={ tx with l:=tx.l + 1 }) ∨ (b ≠ d∧b ≠ x∧s.T b=some t'):=fun b t' e=>by
  by_cases h1:b=d
  ·subst h1; rw [hTd] at e; cases e; exact .inl ⟨rfl,rfl⟩
  ·by_cases h3:b=x
   ·subst h3; rw [hTx] at e; cases e; exact .inr (.inl ⟨rfl,rfl⟩)
   ·rw [hTo b h1 h3] at e; exact .inr (.inr ⟨h1,h3,e⟩)
 have live:∀ c u,s.T c=some u→∃ u',(s.linked d t z x tx).T c=some u'∧u'.k=u.k∧u'.n=u.n:=fun c u e=>by
  by_cases h1:c=d
  ·subst h1; rw [ht] at e; cases e; exact ⟨_,hTd,rfl,rfl⟩
  ·by_cases h3:c=x
   ·subst h3; rw [hx] at e; cases e; exact ⟨_,hTx,rfl,rfl⟩
   ·exact ⟨u,by rw [hTo c h1 h3]; exact e,rfl,rfl⟩
 have hns:∀ k,k ≠ d→(s.linked d t z x tx).nsOf k=s.nsOf k:=fun k hkd=>by
  by_cases h3:k=x
  ·subst h3; rw [nsOf_some hTx,nsOf_some hx]
  ·unfold Tr.nsOf; rw [hTo k hkd h3]
 have hnd:(s.linked d t z x tx).nsOf d=putN z x t.ns:=nsOf_some hTd
 have hcnt:∀ y,(s.linked d t z x tx).cnt y=s.cnt y + (if x=y then 1 else 0):=fun y=>by
  have:=names_edit (s:=s) (s':=s.linked d t z x tx) (fun ns=>nmc ns y) rfl (h.num d t ht) (fun j hj=>h.once hj (h.num d t ht)) hns
  rw [hnd,nsOf_some ht,nmc_put x y hc] at this
  unfold Tr.cnt
  omega
 have hall:(s.linked d t z x tx).all=s.all + 1:=by
  have:=names_edit (s:=s) (s':=s.linked d t z x tx) (fun ns=>ns.length) rfl (h.num d t ht) (fun j hj=>h.once hj (h.num d t ht)) hns
  rw [hnd,nsOf_some ht,len_put x hc] at this
  unfold Tr.all
  omega
 have hmem:∀ b t',(s.linked d t z x tx).T b=some t'→∀ e ∈ t'.ns,(b=d∧e=(z,x)) ∨ ∃ u,s.T b=some u∧e ∈ u.ns:=fun b t' e a he=>by
  rcases cases' b t' e with ⟨rfl,rfl⟩ | ⟨rfl,rfl⟩ | ⟨_,_,e'⟩
  ·rcases mem_put he with q | q
   ·exact .inl ⟨rfl,q⟩
   ·exact .inr ⟨t,ht,q⟩
  ·exact .inr ⟨tx,hx,he⟩
  ·exact .inr ⟨t',e',he⟩
 obtain ⟨rk,hrk⟩:=h.rk
 refine ⟨⟨h.ok.root,?_,?_,?_⟩,⟨fun b=>if b=x then 0 else rk b + 1,?_⟩,?_,?_,?_,?_,?_,?_,?_,?_,?_,?_,h.mst,?_,?_,h.lst⟩
 ·obtain ⟨tr,htr,hkr⟩:=h.ok.dir
  obtain ⟨u,hu,hk',_⟩:=live r tr htr
  exact ⟨u,hu,hk'.trans hkr⟩
 ·intro b t' e
  rcases cases' b t' e with ⟨rfl,rfl⟩ | ⟨rfl,rfl⟩ | ⟨_,_,e'⟩
  ·exact .inr h2
  ·exact .inl hk
  ·exact h.ok.kind b t' e'
 ·intro b t' y c e hy
  rcases hmem b t' e _ (mem_look hy) with ⟨_,q⟩ | ⟨u,hu,q⟩
  ·cases q; exact ⟨_,hTx⟩
  ·obtain ⟨⟨v,hv⟩,_⟩:=h.liv b u hu _ q
   obtain ⟨v',hv',_⟩:=live _ v hv
   exact ⟨v',hv'⟩
 ·intro b t' e a he
  rcases hmem b t' e a he with ⟨rfl,rfl⟩ | ⟨u,hu,q⟩
  ·show (if x=x then 0 else _) < (if b=x then 0 else _)
   rw [if_pos rfl,if_neg hdx]; omega
  ·have hbx:b ≠ x:=fun e'=>by
    subst e'
    rw [hx] at hu
    cases hu
    rw [h.fil _ _ hx hk] at q
    cases q
   have:=hrk b u hu a q
   show (if a.2=x then 0 else _) < (if b=x then 0 else _)
   rw [if_neg hbx]
   split <;> omega
 ·intro b t' e a he
  rcases hmem b t' e a he with ⟨rfl,rfl⟩ | ⟨u,hu,q⟩
  ·exact ⟨⟨_,hTx⟩,hz⟩
  ·obtain ⟨⟨v,hv⟩,hl⟩:=h.liv b u hu _ q
   obtain ⟨v',hv',_⟩:=live _ v hv
   exact ⟨⟨v',hv'⟩,hl⟩
 ·intro b t' e
  rcases cases' b t' e with ⟨rfl,rfl⟩ | ⟨rfl,rfl⟩ | ⟨_,_,e'⟩
  ·exact rise_put z x (h.ris _ t ht)
  ·exact h.ris _ tx hx
  ·exact h.ris b t' e'
 ·intro b t' e
  rcases cases' b t' e with ⟨rfl,rfl⟩ | ⟨rfl,rfl⟩ | ⟨_,_,e'⟩
  ·exact h.num _ t ht
  ·exact h.num _ tx hx
  ·exact h.num b t' e'
 ·intro i b e
  obtain ⟨u,hu,hn⟩:=h.row i b e
  obtain ⟨u',hu',_,hn'⟩:=live b u hu
  exact ⟨u',hu',hn'.trans hn⟩
 ·intro b t' e hne
  rw [hcnt]
  rcases cases' b t' e with ⟨rfl,rfl⟩ | ⟨rfl,rfl⟩ | ⟨_,h3,e'⟩
  ·have:=h.lnk _ t ht hne
   rw [if_neg (fun e=>hdx e.symm)]
   exact ⟨this.1,this.2⟩
  ·have:=h.lnk _ tx hx hne
   rw [if_pos rfl]
   refine ⟨?_,by omega⟩
   show tx.l + 1=_
   omega
  ·have:=h.lnk b t' e' hne
   rw [if_neg (fun e=>h3 e.symm)]
   exact ⟨this.1,this.2⟩
 ·rw [hcnt,h.top,if_neg hxr]
 ·intro b t' e hk'
  rw [hcnt]
  rcases cases' b t' e with ⟨rfl,rfl⟩ | ⟨rfl,rfl⟩ | ⟨_,h3,e'⟩
  ·have:=h.dir _ t ht h2
   rw [if_neg (fun e=>hdx e.symm)]
   exact this
  ·have hk'':tx.k=2:=hk'
   omega
  ·have:=h.dir b t' e' hk'
   rw [if_neg (fun e=>h3 e.symm)]
   exact this
 ·intro b t' e hk'
  rcases cases' b t' e with ⟨rfl,rfl⟩ | ⟨rfl,rfl⟩ | ⟨_,_,e'⟩
  ·have hk'':t.k=1:=hk'
   omega
  ·exact h.fil _ tx hx hk
  ·exact h.fil b t' e' hk'
 ·intro f b e
  obtain ⟨u,hu,hku⟩:=h.opn f b e
  obtain ⟨u',hu',hk',_⟩:=live b u hu
  exact ⟨u',hu',hk'.trans hku⟩
 ·intro b t' e
  rcases cases' b t' e with ⟨rfl,rfl⟩ | ⟨rfl,rfl⟩ | ⟨_,_,e'⟩
  ·exact h.siz _ t ht
  ·exact h.siz _ tx hx
  ·exact h.siz b t' e'
 ·rw [hall]; have:=h.few; omega
 ·have:=h.len
  show s.row.length ≤ _
  omega

theorem pad_at {row:List (Option Nat)} {f:Nat} (hf:row[f]?=none ∨ row[f]?=some none) (b:Nat) (i c:Nat):((pad row f).set f (some b))[i]?=some (some c) ↔ (i=f∧c=b) ∨ row[i]?=some (some c):=by
 have hlen:f < (pad row f).length:=by unfold pad; simp; omega
 have hp:∀ i,(pad row f)[i]?=some (some c) ↔ row[i]?=some (some c):=fun i=>by
  unfold pad
  by_cases h:i < row.length
  ·rw [List.getElem?_append_left h]
  ·rw [List.getElem?_append_right (by omega),List.getElem?_eq_none (l:=row) (by omega)]
   constructor
   ·intro q
    have:=List.mem_of_getElem? q
    simp at this
   ·intro q; cases q
 by_cases hi:f=i
 ·subst hi
  rw [List.getElem?_set_self hlen]
  constructor
  ·intro q; simp at q; exact .inl ⟨rfl,q.symm⟩
  ·rintro (⟨_,rfl⟩ | q)
   ·rfl
   ·rcases hf with h | h <;> rw [h] at q <;> cases q
 ·rw [List.getElem?_set_ne hi,hp]
  constructor
  ·exact .inr
  ·rintro (⟨e,_⟩ | q)
   ·exact absurd e.symm hi
   ·exact q

theorem sumR_new {row:List (Option Nat)} {f:Nat} (hf:row[f]?=none ∨ row[f]?=some none) (F:Nat→Nat) (b:Nat):sumR F ((pad row f).set f (some b))=sumR F row + F b:=by
 have hlen:f < (pad row f).length:=by unfold pad; simp; omega
 have ho:(pad row f)[f]?=some none:=by
  unfold pad
  by_cases h:f < row.length
  ·rw [List.getElem?_append_left h]
   rcases hf with q | q
   ·rw [List.getElem?_eq_none_iff] at q; omega
   ·exact q
  ·rw [List.getElem?_append_right (by omega),List.getElem?_replicate,if_pos (by omega)]
 have:=sumR_set F (pad row f) f none (some b) ho
 rw [sumR_pad] at this
 simpa using this

theorem Wf.made {s:Tr} {r n f d b mp:Nat} {k:Int} {t:Th} {z:List UInt8} {ra:Option Addr} {rc:Nat} (h:Wf s r n) (hf:Free s f) (hfl:f ≤ s.row.length) (ht:s.T d=some t) (h2:t.k=2) (hz:z.length ≤ 200) (hc:t.ns.lookup z=none) (hb:s.T b=none) (hk:k=1 ∨ k=2) :
  Wf (s.made f k d t z b mp ra rc) r (n + 1):=by
 have hdb:d ≠ b:=fun e=>by subst e; rw [ht] at hb; cases hb
 have hT:∀ y,(s.made f k d t z b mp ra rc).T y=if y=d then some { t with ns:=putN z b t.ns } else if y=b then some { newT k f mp with l:=1 } else s.T y:=fun y=>rfl
 have hTd:(s.made f k d t z b mp ra rc).T d=some { t with ns:=putN z b t.ns }:=by rw [hT,if_pos rfl]
 have hTb:(s.made f k d t z b mp ra rc).T b=some { newT k f mp with l:=1 }:=by rw [hT,if_neg (fun e=>hdb e.symm),if_pos rfl]
 have hTo:∀ y,y ≠ d→y ≠ b→(s.made f k d t z b mp ra rc).T y=s.T y:=fun y h1 h2=>by rw [hT,if_neg h1,if_neg h2]
 have cases':∀ y t',(s.made f k d t z b mp ra rc).T y=some t'→(y=d∧t'={ t with ns:=putN z b t.ns }) ∨ (y=b∧t'={ newT k f mp with l:=1 }) ∨ (y ≠ d∧y ≠ b∧s.T y=some t'):=fun y t' e=>by
  by_cases h1:y=d
  ·subst h1; rw [hTd] at e; cases e; exact .inl ⟨rfl,rfl⟩
  ·by_cases h3:y=b
   ·subst h3; rw [hTb] at e; cases e; exact .inr (.inl ⟨rfl,rfl⟩)
   ·rw [hTo y h1 h3] at e; exact .inr (.inr ⟨h1,h3,e⟩)
 have live:∀ c u,s.T c=some u→∃ u',(s.made f k d t z b mp ra rc).T c=some u'∧u'.k=u.k∧u'.n=u.n:=fun c u e=>by
  by_cases h1:c=d
  ·subst h1; rw [ht] at e; cases e; exact ⟨_,hTd,rfl,rfl⟩
  ·by_cases h3:c=b
   ·subst h3; rw [hb] at e; cases e
   ·exact ⟨u,by rw [hTo c h1 h3]; exact e,rfl,rfl⟩
 have hns:∀ y,y ≠ d→(s.made f k d t z b mp ra rc).nsOf y=s.nsOf y:=fun y hyd=>by
  by_cases h3:y=b
  ·subst h3; rw [nsOf_some hTb,nsOf_none hb]; rfl
  ·unfold Tr.nsOf; rw [hTo y hyd h3]
 have hnd:(s.made f k d t z b mp ra rc).nsOf d=putN z b t.ns:=nsOf_some hTd
 have hrow:(s.made f k d t z b mp ra rc).row=(pad s.row f).set f (some b):=rfl
 have hsum:∀ V:NS→Nat,V []=0→sumR (fun y=>V ((s.made f k d t z b mp ra rc).nsOf y)) (s.made f k d t z b mp ra rc).row + V t.ns=sumR (fun y=>V (s.nsOf y)) s.row + V (putN z b t.ns):=fun V hV=>by
  rw [hrow,sumR_new hf.free]
  have h1:V ((s.made f k d t z b mp ra rc).nsOf b)=0:=by rw [nsOf_some hTb]; exact hV
  have h3:=sumR_upd (F:=fun y=>V (s.nsOf y)) (G:=fun y=>V ((s.made f k d t z b mp ra rc).nsOf y)) (h.num d t ht) (fun j hj=>h.once hj (h.num d t ht)) (fun y hy=>by rw [hns y hy])
  rw [hnd,nsOf_some ht] at h3
  omega
 have hcnt:∀ y,(s.made f k d t z b mp ra rc).cnt y=s.cnt y + (if b=y then 1 else 0):=fun y=>by
  have:=hsum (fun ns=>nmc ns y) rfl
  rw [nmc_put b y hc] at this
  unfold Tr.cnt
  omega
 have hall:(s.made f k d t z b mp ra rc).all=s.all + 1:=by
  have:=hsum (fun ns=>ns.length) rfl
  rw [len_put b hc] at this
  unfold Tr.all
  omega
 have hcb:s.cnt b=0:=by
  refine sumR_zero _ (fun i c hi=>?_)
  obtain ⟨u,hu,_⟩:=h.row i c hi
  rw [nsOf_some hu]
  by_cases h0:nmc u.ns b=0
  ·exact h0
  ·obtain ⟨e,he,hb'⟩:=nmc_pos h0
   obtain ⟨⟨v,hv⟩,_⟩:=h.liv c u hu e he
   rw [hb',hb] at hv
   cases hv
 have hbr:b ≠ r:=fun e=>by subst e; obtain ⟨tr,htr,_⟩:=h.root; rw [hb] at htr; cases htr
 have hmem:∀ y t',(s.made f k d t z b mp ra rc).T y=some t'→∀ e ∈ t'.ns,(y=d∧e=(z,b)) ∨ ∃ u,s.T y=some u∧e ∈ u.ns:=fun y t' e a he=>by
  rcases cases' y t' e with ⟨rfl,rfl⟩ | ⟨rfl,rfl⟩ | ⟨_,_,e'⟩
  ·rcases mem_put he with q | q
   ·exact .inl ⟨rfl,q⟩
   ·exact .inr ⟨t,ht,q⟩
  ·cases he
  ·exact .inr ⟨t',e',he⟩
 have hget:∀ i c,(s.made f k d t z b mp ra rc).row[i]?=some (some c) ↔ (i=f∧c=b) ∨ s.row[i]?=some (some c):=fun i c=>pad_at hf.free b i c
 obtain ⟨rk,hrk⟩:=h.rk
 refine ⟨⟨(hget _ _).2 (.inr h.ok.root),?_,?_,?_⟩,⟨fun y=>if y=b then 0 else rk y + 1,?_⟩,?_,?_,?_,?_,?_,?_,?_,?_,?_,?_,h.mst,?_,?_,?_⟩
 ·obtain ⟨tr,htr,hkr⟩:=h.ok.dir
  obtain ⟨u,hu,hk',_⟩:=live r tr htr
  exact ⟨u,hu,hk'.trans hkr⟩
 ·intro y t' e
  rcases cases' y t' e with ⟨rfl,rfl⟩ | ⟨rfl,rfl⟩ | ⟨_,_,e'⟩
  ·exact .inr h2
  ·exact hk
  ·exact h.ok.kind y t' e'
 ·intro y t' x c e hy
  rcases hmem y t' e _ (mem_look hy) with ⟨_,q⟩ | ⟨u,hu,q⟩
  ·cases q; exact ⟨_,hTb⟩
  ·obtain ⟨⟨v,hv⟩,_⟩:=h.liv y u hu _ q
   obtain ⟨v',hv',_⟩:=live _ v hv
   exact ⟨v',hv'⟩
 ·intro y t' e a he
  rcases hmem y t' e a he with ⟨rfl,rfl⟩ | ⟨u,hu,q⟩
  ·show (if b=b then 0 else _) < (if y=b then 0 else _)
   rw [if_pos rfl,if_neg hdb]; omega
  ·have hyb:y ≠ b:=fun e'=>by subst e'; rw [hb] at hu; cases hu
   have:=hrk y u hu a q
   show (if a.2=b then 0 else _) < (if y=b then 0 else _)
   rw [if_neg hyb]
   split <;> omega
 ·intro y t' e a he
  rcases hmem y t' e a he with ⟨rfl,rfl⟩ | ⟨u,hu,q⟩
  ·exact ⟨⟨_,hTb⟩,hz⟩
  ·obtain ⟨⟨v,hv⟩,hl⟩:=h.liv y u hu _ q
   obtain ⟨v',hv',_⟩:=live _ v hv
   exact ⟨⟨v',hv'⟩,hl⟩
 ·intro y t' e
  rcases cases' y t' e with ⟨rfl,rfl⟩ | ⟨rfl,rfl⟩ | ⟨_,_,e'⟩
  ·exact rise_put z b (h.ris _ t ht)
  ·exact List.Pairwise.nil
  ·exact h.ris y t' e'
 ·intro y t' e
  rcases cases' y t' e with ⟨rfl,rfl⟩ | ⟨rfl,rfl⟩ | ⟨_,_,e'⟩
  ·exact (hget _ _).2 (.inr (h.num _ t ht))
  ·exact (hget _ _).2 (.inl ⟨rfl,rfl⟩)
  ·exact (hget _ _).2 (.inr (h.num y t' e'))
 ·intro i y e
  rcases (hget i y).1 e with ⟨rfl,rfl⟩ | e'
  ·exact ⟨_,hTb,rfl⟩
  ·obtain ⟨u,hu,hn⟩:=h.row i y e'
   obtain ⟨u',hu',_,hn'⟩:=live y u hu
   exact ⟨u',hu',hn'.trans hn⟩
 ·intro y t' e hne
  rw [hcnt]
  rcases cases' y t' e with ⟨rfl,rfl⟩ | ⟨rfl,rfl⟩ | ⟨_,h3,e'⟩
  ·have:=h.lnk _ t ht hne
   rw [if_neg (fun e=>hdb e.symm)]
   exact ⟨this.1,this.2⟩
  ·rw [if_pos rfl,hcb]
   exact ⟨rfl,Nat.le_refl _⟩
  ·have:=h.lnk y t' e' hne
   rw [if_neg (fun e=>h3 e.symm)]
   exact ⟨this.1,this.2⟩
 ·rw [hcnt,h.top,if_neg hbr]
 ·intro y t' e hk'
  rw [hcnt]
  rcases cases' y t' e with ⟨rfl,rfl⟩ | ⟨rfl,rfl⟩ | ⟨_,h3,e'⟩
  ·have:=h.dir _ t ht h2
   rw [if_neg (fun e=>hdb e.symm)]
   exact this
  ·rw [if_pos rfl,hcb]
   exact ⟨rfl,Nat.le_refl _⟩
  ·have:=h.dir y t' e' hk'
   rw [if_neg (fun e=>h3 e.symm)]
   exact this
 ·intro y t' e hk'
  rcases cases' y t' e with ⟨rfl,rfl⟩ | ⟨rfl,rfl⟩ | ⟨_,_,e'⟩
  ·have hk'':t.k=1:=hk'
   omega
  ·rfl
  ·exact h.fil y t' e' hk'
 ·intro i y e
  obtain ⟨u,hu,hku⟩:=h.opn i y e
  obtain ⟨u',hu',hk',_⟩:=live y u hu
  exact ⟨u',hu',hk'.trans hku⟩
 ·intro y t' e
  rcases cases' y t' e with ⟨rfl,rfl⟩ | ⟨rfl,rfl⟩ | ⟨_,_,e'⟩
  ·exact h.siz _ t ht
  ·exact h.mst.1
  ·exact h.siz y t' e'
 ·rw [hall]; have:=h.few; omega
 ·rw [hrow]
  have:=h.len
  unfold pad
  simp
  omega
 ·rw [hrow]
  show f ≤ _
  unfold pad
  simp
  omega

end Go.Proofs.YtknmgefpjdfenaaGreat

/- Calls that take names away, or turn them, keep a tree sound. -/
namespace Go.Proofs.YtknmgefpjdfenaaGreat
set_option maxRecDepth 100000
set_option maxHeartbeats 8000000
open Go.RowKit Go.Shelf Go.Maps
set_option linter.unusedVariables false

theorem mem_del' {z:List UInt8} {ns:NS} {e:List UInt8 × Nat} (h:e ∈ delN z ns):e ∈ ns∧e.1 ≠ z:=by
 have:=List.mem_filter.1 h
 exact ⟨this.1,by simpa using this.2⟩

theorem Wf.gone2 {s:Tr} {r n d x:Nat} {t tx:Th} {z:List UInt8} (h:Wf s r n) (ht:s.T d=some t) (h2:t.k=2) (hc:t.ns.lookup z=some x) (hx:s.T x=some tx) (hl:tx.l ≠ 1) (hdx:d ≠ x) (hxr:x ≠ r):Wf (s.gone d t z x tx) r n:=by
 have hg:s.gone d t z x tx=(s.upd d { t with ns:=delN z t.ns }).upd x { tx with l:=tx.l - 1 }:=by unfold Tr.gone; rw [if_neg hl]
 rw [hg]
 have hlx:=h.lnk x tx hx hxr
 have hk:tx.k=1:=by
  rcases h.ok.kind x tx hx with q | q
  ·exact q
  ·have:=(h.dir x tx hx q).2
   omega
 generalize hs':(s.upd d { t with ns:=delN z t.ns }).upd x { tx with l:=tx.l - 1 }=s'
 have hrow:s'.row=s.row:=by rw [← hs']; rfl
 have hmost:s'.most=s.most:=by rw [← hs']; rfl
 have hleast:s'.least=s.least:=by rw [← hs']; rfl
 have hopn:s'.opn=s.opn:=by rw [← hs']; rfl
 have hT:∀ k,s'.T k=if k=x then some { tx with l:=tx.l - 1 } else if k=d then some { t with ns:=delN z t.ns } else s.T k:=fun k=>by rw [← hs']; rfl
 clear hs' hg
 have hTx:s'.T x=some { tx with l:=tx.l - 1 }:=by rw [hT,if_pos rfl]
 have hTd:s'.T d=some { t with ns:=delN z t.ns }:=by rw [hT,if_neg hdx,if_pos rfl]
 have hTo:∀ k,k ≠ d→k ≠ x→s'.T k=s.T k:=fun k h1 h2=>by rw [hT,if_neg h2,if_neg h1]
 have cases':∀ b t',s'.T b=some t'→(b=d∧t'={ t with ns:=delN z t.ns }) ∨ (b=x∧t'={ tx with l:=tx.l - 1 }) ∨ (b ≠ d∧b ≠ x∧s.T b=some t'):=fun b t' e=>by
  by_cases h1:b=d
  ·subst h1; rw [hTd] at e; cases e; exact .inl ⟨rfl,rfl⟩
  ·by_cases h3:b=x
   ·subst h3; rw [hTx] at e; cases e; exact .inr (.inl ⟨rfl,rfl⟩)
   ·rw [hTo b h1 h3] at e; exact .inr (.inr ⟨h1,h3,e⟩)
 have live:∀ c u,s.T c=some u→∃ u',s'.T c=some u'∧u'.k=u.k∧u'.n=u.n:=fun c u e=>by
  by_cases h1:c=d
  ·subst h1; rw [ht] at e; cases e; exact ⟨_,hTd,rfl,rfl⟩
  ·by_cases h3:c=x
   ·subst h3; rw [hx] at e; cases e; exact ⟨_,hTx,rfl,rfl⟩
   ·exact ⟨u,by rw [hTo c h1 h3]; exact e,rfl,rfl⟩
 have hns:∀ k,k ≠ d→s'.nsOf k=s.nsOf k:=fun k hkd=>by
  by_cases h3:k=x
  ·subst h3; rw [nsOf_some hTx,nsOf_some hx]
  ·unfold Tr.nsOf; rw [hTo k hkd h3]
 have hnd:s'.nsOf d=delN z t.ns:=nsOf_some hTd
 have hcnt:∀ y,s'.cnt y + (if x=y then 1 else 0)=s.cnt y:=fun y=>by
  have:=names_edit (s:=s) (s':=s') (fun ns=>nmc ns y) hrow (h.num d t ht) (fun j hj=>h.once hj (h.num d t ht)) hns
  rw [hnd,nsOf_some ht] at this
  have h3:=nmc_del (h.ris d t ht) hc y
  unfold Tr.cnt
  omega
 have hall:s'.all + 1=s.all:=by
  have:=names_edit (s:=s) (s':=s') (fun ns=>ns.length) hrow (h.num d t ht) (fun j hj=>h.once hj (h.num d t ht)) hns
  rw [hnd,nsOf_some ht] at this
  have h3:=len_del (h.ris d t ht) hc
  unfold Tr.all
  omega
 have hmem:∀ b t',s'.T b=some t'→∀ e ∈ t'.ns,∃ u,s.T b=some u∧e ∈ u.ns:=fun b t' e a he=>by
  rcases cases' b t' e with ⟨rfl,rfl⟩ | ⟨rfl,rfl⟩ | ⟨_,_,e'⟩
  ·exact ⟨t,ht,mem_del he⟩
  ·exact ⟨tx,hx,he⟩
  ·exact ⟨t',e',he⟩
 have hother:∀ y,y ≠ x→s'.cnt y=s.cnt y:=fun y hy=>by
  have:=hcnt y
  rw [if_neg (fun e=>hy e.symm)] at this
  omega
 obtain ⟨rk,hrk⟩:=h.rk
 refine ⟨⟨by rw [hrow]; exact h.ok.root,?_,?_,?_⟩,⟨rk,?_⟩,?_,?_,?_,?_,?_,?_,?_,?_,?_,?_,by rw [hmost]; exact h.mst,?_,by rw [hrow]; exact h.len,by rw [hrow,hleast]; exact h.lst⟩
 ·obtain ⟨tr,htr,hkr⟩:=h.ok.dir
  obtain ⟨u,hu,hk',_⟩:=live r tr htr
  exact ⟨u,hu,hk'.trans hkr⟩
 ·intro b t' e
  rcases cases' b t' e with ⟨rfl,rfl⟩ | ⟨rfl,rfl⟩ | ⟨_,_,e'⟩
  ·exact .inr h2
  ·exact .inl hk
  ·exact h.ok.kind b t' e'
 ·intro b t' y c e hy
  obtain ⟨u,hu,q⟩:=hmem b t' e _ (mem_look hy)
  obtain ⟨⟨v,hv⟩,_⟩:=h.liv b u hu _ q
  obtain ⟨v',hv',_⟩:=live _ v hv
  exact ⟨v',hv'⟩
 ·intro b t' e a he
  obtain ⟨u,hu,q⟩:=hmem b t' e a he
  exact hrk b u hu a q
 ·intro b t' e a he
  obtain ⟨u,hu,q⟩:=hmem b t' e a he
  obtain ⟨⟨v,hv⟩,hl⟩:=h.liv b u hu _ q
  obtain ⟨v',hv',_⟩:=live _ v hv
  exact ⟨⟨v',hv'⟩,hl⟩
 ·intro b t' e
  rcases cases' b t' e with ⟨rfl,rfl⟩ | ⟨rfl,rfl⟩ | ⟨_,_,e'⟩
  ·exact rise_del z (h.ris _ t ht)
  ·exact h.ris _ tx hx
  ·exact h.ris b t' e'
 ·intro b t' e
  rw [hrow]
  rcases cases' b t' e with ⟨rfl,rfl⟩ | ⟨rfl,rfl⟩ | ⟨_,_,e'⟩
  ·exact h.num _ t ht
  ·exact h.num _ tx hx
  ·exact h.num b t' e'
 ·intro i b e
  rw [hrow] at e
  obtain ⟨u,hu,hn⟩:=h.row i b e
  obtain ⟨u',hu',_,hn'⟩:=live b u hu
  exact ⟨u',hu',hn'.trans hn⟩
 ·intro b t' e hne
  rcases cases' b t' e with ⟨rfl,rfl⟩ | ⟨rfl,rfl⟩ | ⟨_,h3,e'⟩
  ·rw [hother _ hdx]
   exact h.lnk _ t ht hne
  ·have h3:=hcnt b
   rw [if_pos rfl] at h3
   refine ⟨?_,by omega⟩
   show tx.l - 1=_
   omega
  ·rw [hother b h3]
   exact h.lnk b t' e' hne
 ·rw [hother r (fun e=>hxr e.symm)]; exact h.top
 ·intro b t' e hk'
  rcases cases' b t' e with ⟨rfl,rfl⟩ | ⟨rfl,rfl⟩ | ⟨_,h3,e'⟩
  ·rw [hother _ hdx]
   exact h.dir _ t ht h2
  ·have hk'':tx.k=2:=hk'
   omega
  ·rw [hother b h3]
   exact h.dir b t' e' hk'
 ·intro b t' e hk'
  rcases cases' b t' e with ⟨rfl,rfl⟩ | ⟨rfl,rfl⟩ | ⟨_,_,e'⟩
  ·have hk'':t.k=1:=hk'
   omega
  ·exact h.fil _ tx hx hk
  ·exact h.fil b t' e' hk'
 ·intro f b e
  rw [hopn] at e
  obtain ⟨u,hu,hku⟩:=h.opn f b e
  obtain ⟨u',hu',hk',_⟩:=live b u hu
  exact ⟨u',hu',hk'.trans hku⟩
 ·intro b t' e
  rw [hmost]
  rcases cases' b t' e with ⟨rfl,rfl⟩ | ⟨rfl,rfl⟩ | ⟨_,_,e'⟩
  ·exact h.siz _ t ht
  ·exact h.siz _ tx hx
  ·exact h.siz b t' e'
 ·have:=h.few; omega

theorem Wf.gone1 {s:Tr} {r n d x:Nat} {t tx:Th} {z:List UInt8} (h:Wf s r n) (ht:s.T d=some t) (h2:t.k=2) (hc:t.ns.lookup z=some x) (hx:s.T x=some tx) (hl:tx.l=1) (hdx:d ≠ x) (hxr:x ≠ r) (hxe:tx.ns=[]) (hxo:∀ f,s.opn f ≠ some x):Wf (s.gone d t z x tx) r n:=by
 have hg:s.gone d t z x tx={ ((s.upd d { t with ns:=delN z t.ns }).less x) with row:=s.row.set tx.n none,least:=min s.least tx.n }:=by unfold Tr.gone; rw [if_pos hl]
 rw [hg]
 have hlx:=h.lnk x tx hx hxr
 have hc1:s.cnt x=1:=by omega
 have hnx:=h.num x tx hx
 generalize hs':({ ((s.upd d { t with ns:=delN z t.ns }).less x) with row:=s.row.set tx.n none,least:=min s.least tx.n }:Tr)=s'
 have hrow:s'.row=s.row.set tx.n none:=by rw [← hs']
 have hmost:s'.most=s.most:=by rw [← hs']; rfl
 have hleast:s'.least=min s.least tx.n:=by rw [← hs']
 have hopn:s'.opn=s.opn:=by rw [← hs']; rfl
 have hT:∀ k,s'.T k=if k=x then none else if k=d then some { t with ns:=delN z t.ns } else s.T k:=fun k=>by rw [← hs']; rfl
 clear hs' hg
 have hTx:s'.T x=none:=by rw [hT,if_pos rfl]
 have hTd:s'.T d=some { t with ns:=delN z t.ns }:=by rw [hT,if_neg hdx,if_pos rfl]
 have hTo:∀ k,k ≠ d→k ≠ x→s'.T k=s.T k:=fun k h1 h2=>by rw [hT,if_neg h2,if_neg h1]
 have cases':∀ b t',s'.T b=some t'→b ≠ x∧((b=d∧t'={ t with ns:=delN z t.ns }) ∨ (b ≠ d∧s.T b=some t')):=fun b t' e=>by
  by_cases h3:b=x
  ·subst h3; rw [hTx] at e; cases e
  ·by_cases h1:b=d
   ·subst h1; rw [hTd] at e; cases e; exact ⟨h3,.inl ⟨rfl,rfl⟩⟩
   ·rw [hTo b h1 h3] at e; exact ⟨h3,.inr ⟨h1,e⟩⟩
 have live:∀ c u,c ≠ x→s.T c=some u→∃ u',s'.T c=some u'∧u'.k=u.k∧u'.n=u.n:=fun c u hcx e=>by
  by_cases h1:c=d
  ·subst h1; rw [ht] at e; cases e; exact ⟨_,hTd,rfl,rfl⟩
  ·exact ⟨u,by rw [hTo c h1 hcx]; exact e,rfl,rfl⟩
 have hns:∀ k,k ≠ d→s'.nsOf k=s.nsOf k:=fun k hkd=>by
  by_cases h3:k=x
  ·subst h3; rw [nsOf_none hTx,nsOf_some hx,hxe]
  ·unfold Tr.nsOf; rw [hTo k hkd h3]
 have hnd:s'.nsOf d=delN z t.ns:=nsOf_some hTd
 have hsum:∀ V:NS→Nat,V []=0→sumR (fun y=>V (s'.nsOf y)) s'.row + V t.ns=sumR (fun y=>V (s.nsOf y)) s.row + V (delN z t.ns):=fun V hV=>by
  have h3:=sumR_upd (F:=fun y=>V (s.nsOf y)) (G:=fun y=>V (s'.nsOf y)) (h.num d t ht) (fun j hj=>h.once hj (h.num d t ht)) (fun y hy=>by rw [hns y hy])
  have h4:=sumR_set (fun y=>V (s'.nsOf y)) s.row tx.n (some x) none hnx
  rw [hnd,nsOf_some ht] at h3
  have h5:V (s'.nsOf x)=0:=by rw [nsOf_none hTx]; exact hV
  simp only [Option.elim_some,Option.elim_none,h5] at h4
  rw [hrow]
  omega
 have hcnt:∀ y,s'.cnt y + (if x=y then 1 else 0)=s.cnt y:=fun y=>by
  have:=hsum (fun ns=>nmc ns y) rfl
  have h3:=nmc_del (h.ris d t ht) hc y
  unfold Tr.cnt
  omega
 have hall:s'.all + 1=s.all:=by
  have:=hsum (fun ns=>ns.length) rfl
  have h3:=len_del (h.ris d t ht) hc
  unfold Tr.all
  omega
 have hmem:∀ b t',s'.T b=some t'→∀ e ∈ t'.ns,e.2 ≠ x∧∃ u,s.T b=some u∧e ∈ u.ns:=fun b t' e a he=>by
  obtain ⟨hbx,q⟩:=cases' b t' e
  rcases q with ⟨rfl,rfl⟩ | ⟨hbd,e'⟩
  ·obtain ⟨h3,h4⟩:=mem_del' he
   refine ⟨fun q=>?_,t,ht,h3⟩
   have:=(h.one ht ht h3 (mem_look hc) q (by rw [q,hc1]; exact Nat.le_refl _)).2
   exact h4 (by rw [this])
  ·refine ⟨fun q=>?_,t',e',he⟩
   have:=(h.one e' ht he (mem_look hc) q (by rw [q,hc1]; exact Nat.le_refl _)).1
   exact hbd this
 have hother:∀ y,y ≠ x→s'.cnt y=s.cnt y:=fun y hy=>by
  have:=hcnt y
  rw [if_neg (fun e=>hy e.symm)] at this
  omega
 have hget:∀ i c,s'.row[i]?=some (some c) ↔ i ≠ tx.n∧s.row[i]?=some (some c):=fun i c=>by
  rw [hrow]
  by_cases hi:tx.n=i
  ·subst hi
   rw [List.getElem?_set_self (List.getElem?_eq_some_iff.1 hnx).1]
   simp
  ·rw [List.getElem?_set_ne hi]
   exact ⟨fun q=>⟨fun e=>hi e.symm,q⟩,fun q=>q.2⟩
 have hnum:∀ c u,c ≠ x→s.T c=some u→s'.row[u.n]?=some (some c):=fun c u hcx hu=>by
  refine (hget _ _).2 ⟨fun e=>?_,h.num c u hu⟩
  have h3:=h.num c u hu
  rw [e,hnx] at h3
  cases h3
  exact hcx rfl
 obtain ⟨rk,hrk⟩:=h.rk
 obtain ⟨tr,htr,hkr,hnr⟩:=h.root
 refine ⟨⟨?_,?_,?_,?_⟩,⟨rk,?_⟩,?_,?_,?_,?_,?_,?_,?_,?_,?_,?_,by rw [hmost]; exact h.mst,?_,?_,?_⟩
 ·have:=hnum r tr (fun e=>hxr e.symm) htr
  rwa [hnr] at this
 ·obtain ⟨u,hu,hk',_⟩:=live r tr (fun e=>hxr e.symm) htr
  exact ⟨u,hu,hk'.trans hkr⟩
 ·intro b t' e
  obtain ⟨_,q⟩:=cases' b t' e
  rcases q with ⟨rfl,rfl⟩ | ⟨_,e'⟩
  ·exact .inr h2
  ·exact h.ok.kind b t' e'
 ·intro b t' y c e hy
  obtain ⟨h3,u,hu,q⟩:=hmem b t' e _ (mem_look hy)
  obtain ⟨⟨v,hv⟩,_⟩:=h.liv b u hu _ q
  obtain ⟨v',hv',_⟩:=live _ v h3 hv
  exact ⟨v',hv'⟩
 ·intro b t' e a he
  obtain ⟨_,u,hu,q⟩:=hmem b t' e a he
  exact hrk b u hu a q
 ·intro b t' e a he
  obtain ⟨h3,u,hu,q⟩:=hmem b t' e a he
  obtain ⟨⟨v,hv⟩,hl⟩:=h.liv b u hu _ q
  obtain ⟨v',hv',_⟩:=live _ v h3 hv
  exact ⟨⟨v',hv'⟩,hl⟩
 ·intro b t' e
  obtain ⟨_,q⟩:=cases' b t' e
  rcases q with ⟨rfl,rfl⟩ | ⟨_,e'⟩
  ·exact rise_del z (h.ris _ t ht)
  ·exact h.ris b t' e'
 ·intro b t' e
  obtain ⟨hbx,q⟩:=cases' b t' e
  rcases q with ⟨rfl,rfl⟩ | ⟨_,e'⟩
  ·exact hnum _ t hbx ht
  ·exact hnum b t' hbx e'
 ·intro i b e
  obtain ⟨hi,e'⟩:=(hget i b).1 e
  obtain ⟨u,hu,hn⟩:=h.row i b e'
  have hbx:b ≠ x:=fun q=>by
   subst q
   rw [hx] at hu
   cases hu
   exact hi hn.symm
  obtain ⟨u',hu',_,hn'⟩:=live b u hbx hu
  exact ⟨u',hu',hn'.trans hn⟩
 ·intro b t' e hne
  obtain ⟨hbx,q⟩:=cases' b t' e
  rw [hother b hbx]
  rcases q with ⟨rfl,rfl⟩ | ⟨_,e'⟩
  ·exact h.lnk _ t ht hne
  ·exact h.lnk b t' e' hne
 ·rw [hother r (fun e=>hxr e.symm)]; exact h.top
 ·intro b t' e hk'
  obtain ⟨hbx,q⟩:=cases' b t' e
  rw [hother b hbx]
  rcases q with ⟨rfl,rfl⟩ | ⟨_,e'⟩
  ·exact h.dir _ t ht h2
  ·exact h.dir b t' e' hk'
 ·intro b t' e hk'
  obtain ⟨_,q⟩:=cases' b t' e
  rcases q with ⟨rfl,rfl⟩ | ⟨_,e'⟩
  ·have hk'':t.k=1:=hk'
   omega
  ·exact h.fil b t' e' hk'
 ·intro f b e
  rw [hopn] at e
  obtain ⟨u,hu,hku⟩:=h.opn f b e
  obtain ⟨u',hu',hk',_⟩:=live b u (fun q=>by subst q; exact hxo f e) hu
  exact ⟨u',hu',hk'.trans hku⟩
 ·intro b t' e
  rw [hmost]
  obtain ⟨_,q⟩:=cases' b t' e
  rcases q with ⟨rfl,rfl⟩ | ⟨_,e'⟩
  ·exact h.siz _ t ht
  ·exact h.siz b t' e'
 ·have:=h.few; omega
 ·rw [hrow,List.length_set]; exact h.len
 ·rw [hrow,hleast,List.length_set]
  have:=h.lst
  omega

theorem Wf.gone {s:Tr} {r n d x:Nat} {t tx:Th} {z:List UInt8} (h:Wf s r n) (hn:n ≤ 1800000000000) (ht:s.T d=some t) (h2:t.k=2) (hc:t.ns.lookup z=some x) (hx:s.T x=some tx) (hxe:tx.ns=[]) (hxo:tx.l=1→∀ f,s.opn f ≠ some x):Wf (s.gone d t z x tx) r n:=by
 obtain ⟨q1,_,_,q4,_⟩:=h.dropable hn ht hc hx
 by_cases hl:tx.l=1
 ·exact h.gone1 ht h2 hc hx hl q1 q4 hxe (hxo hl)
 ·exact h.gone2 ht h2 hc hx hl q1 q4

inductive Dn (s:Tr) (x:Nat):Nat→Prop
 | refl:Dn s x x
 | step {b:Nat} {t:Th} {e:List UInt8 × Nat}:Dn s x b→s.T b=some t→e ∈ t.ns→Dn s x e.2

def mvN (d:Nat) (z:List UInt8) (d2:Nat) (z2:List UInt8) (x k:Nat) (ns:NS):NS:=if k=d2 then putN z2 x (if k=d then delN z ns else ns) else if k=d then delN z ns else ns

theorem moved_T {s:Tr} {d d2 x:Nat} {t t2:Th} {z z2:List UInt8} (ht:s.T d=some t) (ht2:s.T d2=some t2) (k:Nat):(s.moved d z d2 z2 x).T k=(s.T k).map (fun u=>{ u with ns:=mvN d z d2 z2 x k u.ns }):=by
 have h1:∀ k,(s.edit d (delN z)).T k=(s.T k).map (fun u=>{ u with ns:=if k=d then delN z u.ns else u.ns }):=fun k=>by
  rw [edit_some ht,Tr.upd_T]
  by_cases e:k=d
  ·subst e; rw [if_pos rfl,ht]; simp
  ·rw [if_neg e]
   cases s.T k with
   | none=>rfl
   | some u=>simp [e]
 have h3:(s.edit d (delN z)).T d2=some { t2 with ns:=if d2=d then delN z t2.ns else t2.ns }:=by rw [h1,ht2]; rfl
 unfold Tr.moved
 rw [edit_some h3,Tr.upd_T]
 by_cases e:k=d2
 ·subst e
  rw [if_pos rfl,ht2]
  simp [mvN]
 ·rw [if_neg e,h1]
  cases s.T k with
  | none=>rfl
  | some u=>simp [mvN,e]

theorem mvN_mem {d d2 x k:Nat} {z z2:List UInt8} {ns:NS} {e:List UInt8 × Nat} (h:e ∈ mvN d z d2 z2 x k ns):(k=d2∧e=(z2,x)) ∨ (e ∈ ns∧¬ (k=d∧e.1=z)):=by
 have aux:∀ e,e ∈ (if k=d then delN z ns else ns)→e ∈ ns∧¬ (k=d∧e.1=z):=fun e he=>by
  by_cases hd:k=d
  ·rw [if_pos hd] at he
   have:=mem_del' he
   exact ⟨this.1,fun q=>this.2 q.2⟩
  ·rw [if_neg hd] at he
   exact ⟨he,fun q=>hd q.1⟩
 unfold mvN at h
 by_cases h2:k=d2
 ·rw [if_pos h2] at h
  rcases mem_put h with q | q
  ·exact .inl ⟨h2,q⟩
  ·exact .inr (aux e q)
 ·rw [if_neg h2] at h
  exact .inr (aux e h)

theorem mvN_look {d d2 x k:Nat} {z z2:List UInt8} (ns:NS) (y:List UInt8):(mvN d z d2 z2 x k ns).lookup y=if k=d2∧y=z2 then some x else if k=d∧y=z then none else ns.lookup y:=by
 have aux:(if k=d then delN z ns else ns).lookup y=if k=d∧y=z then none else ns.lookup y:=by
  by_cases hd:k=d
  ·rw [if_pos hd,look_del]
   by_cases hz:y=z
   ·rw [if_pos hz,if_pos ⟨hd,hz⟩]
   ·rw [if_neg hz,if_neg (fun q:k=d∧y=z=>hz q.2)]
  ·rw [if_neg hd,if_neg (fun q:k=d∧y=z=>hd q.1)]
 unfold mvN
 by_cases h2:k=d2
 ·rw [if_pos h2,look_put,aux]
  by_cases hy:y=z2
  ·rw [if_pos hy,if_pos ⟨h2,hy⟩]
  ·rw [if_neg hy,if_neg (fun q:k=d2∧y=z2=>hy q.2)]
 ·rw [if_neg h2,aux,if_neg (fun q:k=d2∧y=z2=>h2 q.1)]

theorem mvN_rise {d d2 x k:Nat} {z z2:List UInt8} {ns:NS} (h:Rise ns):Rise (mvN d z d2 z2 x k ns):=by
 have aux:Rise (if k=d then delN z ns else ns):=by
  split
  ·exact rise_del z h
  ·exact h
 unfold mvN
 split
 ·exact rise_put z2 x aux
 ·exact aux

theorem Wf.moved {s:Tr} {r n d d2 x:Nat} {t t2 tx:Th} {z z2:List UInt8} (h:Wf s r n) (ht:s.T d=some t) (h2:t.k=2) (hc:t.ns.lookup z=some x) (ht2:s.T d2=some t2) (h22:t2.k=2) (hc2:t2.ns.lookup z2=none) (hz2:z2.length ≤ 200) (hx:s.T x=some tx) (hdn:¬ Dn s x d2):Wf (s.moved d z d2 z2 x) r n:=by
 have hT:=moved_T (z:=z) (z2:=z2) (x:=x) ht ht2
 have hrow:(s.moved d z d2 z2 x).row=s.row:=by
  unfold Tr.moved
  rw [edit_some ht]
  obtain ⟨t3,h3⟩:∃ t3,(s.upd d { t with ns:=delN z t.ns }).T d2=some t3:=by
   rw [Tr.upd_T]
   split
   ·exact ⟨_,rfl⟩
   ·exact ⟨_,ht2⟩
  rw [edit_some h3]
  rfl
 have hoth:(s.moved d z d2 z2 x).most=s.most∧(s.moved d z d2 z2 x).least=s.least∧(s.moved d z d2 z2 x).opn=s.opn:=by
  unfold Tr.moved
  rw [edit_some ht]
  obtain ⟨t3,h3⟩:∃ t3,(s.upd d { t with ns:=delN z t.ns }).T d2=some t3:=by
   rw [Tr.upd_T]
   split
   ·exact ⟨_,rfl⟩
   ·exact ⟨_,ht2⟩
  rw [edit_some h3]
  exact ⟨rfl,rfl,rfl⟩
 generalize s.moved d z d2 z2 x=s' at *
 obtain ⟨hmost,hleast,hopn⟩:=hoth
 have cases':∀ b t',s'.T b=some t'→∃ u,s.T b=some u∧t'={ u with ns:=mvN d z d2 z2 x b u.ns }:=fun b t' e=>by
  rw [hT] at e
  obtain ⟨u,hu,he⟩:=Option.map_eq_some_iff.1 e
  exact ⟨u,hu,he.symm⟩
 have live:∀ c u,s.T c=some u→s'.T c=some { u with ns:=mvN d z d2 z2 x c u.ns }:=fun c u e=>by rw [hT,e]; rfl
 have hns:∀ k,s'.nsOf k=match s.T k with | none=>[] | some u=>mvN d z d2 z2 x k u.ns:=fun k=>by
  unfold Tr.nsOf
  rw [hT]
  cases s.T k <;> rfl
 have hsum:∀ V:NS→Nat,(∀ ns:NS,Rise ns→ns.lookup z=some x→V (delN z ns) + V [(z,x)]=V ns)→(∀ ns:NS,ns.lookup z2=none→V (putN z2 x ns)=V ns + V [(z,x)])→sumR (fun y=>V (s'.nsOf y)) s'.row=sumR (fun y=>V (s.nsOf y)) s.row:=fun V hd hp=>by
  have a1:=sumR_upd (F:=fun y=>V (s.nsOf y)) (G:=fun y=>V (if y=d then delN z (s.nsOf y) else s.nsOf y)) (h.num d t ht) (fun j hj=>h.once hj (h.num d t ht)) (fun y hy=>by rw [if_neg hy])
  have a2:=sumR_upd (F:=fun y=>V (if y=d then delN z (s.nsOf y) else s.nsOf y)) (G:=fun y=>V (s'.nsOf y)) (h.num d2 t2 ht2) (fun j hj=>h.once hj (h.num d2 t2 ht2)) (fun y hy=>by
   rw [hns]
   cases hu:s.T y with
   | none=>simp [nsOf_none hu,delN]
   | some u=>rw [nsOf_some hu]; simp only [mvN,if_neg hy])
  rw [if_pos rfl,nsOf_some ht] at a1
  rw [hns,ht2,nsOf_some ht2] at a2
  simp only [mvN] at a2
  have b1:=hd t.ns (h.ris d t ht) hc
  have b2:=hp (if d2=d then delN z t2.ns else t2.ns) (by
   split
   ·rw [look_del]; split
    ·rfl
    ·exact hc2
   ·exact hc2)
  rw [hrow]
  simp only [if_true] at a2
  omega
 have hcnt:∀ y,s'.cnt y=s.cnt y:=fun y=>by
  unfold Tr.cnt
  refine hsum (fun ns=>nmc ns y) (fun ns hr hl=>?_) (fun ns hl=>?_)
  ·have:=nmc_del hr hl y
   simp only [nmc_cons,nmc_nil]
   omega
  ·have:=nmc_put x y hl
   simp only [nmc_cons,nmc_nil]
   omega
 have hall:s'.all=s.all:=by
  unfold Tr.all
  refine hsum (fun ns=>ns.length) (fun ns hr hl=>?_) (fun ns hl=>?_)
  ·exact len_del hr hl
  ·exact len_put x hl
 obtain ⟨rk,hrk⟩:=h.rk
 have hxr:x ≠ r:=h.named_ne ht (mem_look hc)
 refine ⟨⟨by rw [hrow]; exact h.ok.root,?_,?_,?_⟩,?_,?_,?_,?_,?_,?_,by rw [hcnt]; exact h.top,?_,?_,?_,?_,by rw [hmost]; exact h.mst,by rw [hall]; exact h.few,by rw [hrow]; exact h.len,by rw [hrow,hleast]; exact h.lst⟩
 ·obtain ⟨tr,htr,hkr⟩:=h.ok.dir
  exact ⟨_,live r tr htr,hkr⟩
 ·intro b t' e
  obtain ⟨u,hu,rfl⟩:=cases' b t' e
  exact h.ok.kind b u hu
 ·intro b t' y c e hy
  obtain ⟨u,hu,rfl⟩:=cases' b t' e
  rcases mvN_mem (mem_look hy) with ⟨_,q⟩ | ⟨q,_⟩
  ·cases q; exact ⟨_,live x tx hx⟩
  ·obtain ⟨⟨v,hv⟩,_⟩:=h.liv b u hu _ q
   exact ⟨_,live _ v hv⟩
 ·classical
  refine ⟨fun b=>if Dn s x b then rk b else rk b + rk x + 1,fun b t' e a he=>?_⟩
  obtain ⟨u,hu,rfl⟩:=cases' b t' e
  rcases mvN_mem he with ⟨rfl,rfl⟩ | ⟨q,_⟩
  ·show (if Dn s x x then rk x else _) < (if Dn s x b then _ else rk b + rk x + 1)
   rw [if_pos Dn.refl,if_neg hdn]
   omega
  ·have hlt:=hrk b u hu a q
   show (if Dn s x a.2 then rk a.2 else rk a.2 + rk x + 1) < (if Dn s x b then rk b else rk b + rk x + 1)
   by_cases hb:Dn s x b
   ·rw [if_pos hb,if_pos (Dn.step hb hu q)]
    exact hlt
   ·rw [if_neg hb]
    split <;> omega
 ·intro b t' e a he
  obtain ⟨u,hu,rfl⟩:=cases' b t' e
  rcases mvN_mem he with ⟨_,rfl⟩ | ⟨q,_⟩
  ·exact ⟨⟨_,live x tx hx⟩,hz2⟩
  ·obtain ⟨⟨v,hv⟩,hl⟩:=h.liv b u hu _ q
   exact ⟨⟨_,live _ v hv⟩,hl⟩
 ·intro b t' e
  obtain ⟨u,hu,rfl⟩:=cases' b t' e
  exact mvN_rise (h.ris b u hu)
 ·intro b t' e
  obtain ⟨u,hu,rfl⟩:=cases' b t' e
  rw [hrow]
  exact h.num b u hu
 ·intro i b e
  rw [hrow] at e
  obtain ⟨u,hu,hn⟩:=h.row i b e
  exact ⟨_,live b u hu,hn⟩
 ·intro b t' e hne
  obtain ⟨u,hu,rfl⟩:=cases' b t' e
  rw [hcnt]
  exact h.lnk b u hu hne
 ·intro b t' e hk'
  obtain ⟨u,hu,rfl⟩:=cases' b t' e
  rw [hcnt]
  exact h.dir b u hu hk'
 ·intro b t' e hk'
  obtain ⟨u,hu,rfl⟩:=cases' b t' e
  have h1:u.k=1:=hk'
  have hbd:b ≠ d:=fun q=>by subst q; rw [ht] at hu; cases hu; omega
  have hbd2:b ≠ d2:=fun q=>by subst q; rw [ht2] at hu; cases hu; omega
  show mvN d z d2 z2 x b u.ns=[]
  unfold mvN
  rw [if_neg hbd2,if_neg hbd]
  exact h.fil b u hu h1
 ·intro f b e
  rw [hopn] at e
  obtain ⟨u,hu,hku⟩:=h.opn f b e
  exact ⟨_,live b u hu,hku⟩
 ·intro b t' e
  obtain ⟨u,hu,rfl⟩:=cases' b t' e
  rw [hmost]
  exact h.siz b u hu

end Go.Proofs.YtknmgefpjdfenaaGreat

/- The paths of directories, and all that Rename does. -/
namespace Go.Proofs.YtknmgefpjdfenaaGreat
set_option maxRecDepth 100000
set_option maxHeartbeats 8000000
open Go.RowKit Go.Shelf Go.Maps
set_option linter.unusedVariables false

theorem go_snoc {s:Tr} {z:List UInt8} {c:Nat}:∀ (ms:List (List UInt8)) (b:Nat),go s (ms ++ [z]) b=(0,some c)→∃ d t,go s ms b=(0,some d)∧s.T d=some t∧t.k ≠ 1∧t.ns.lookup z=some c
 | [],b,h=>by
  unfold go at h
  cases ht:s.T b with
  | none=>simp [ht] at h
  | some t =>
   simp only [List.nil_append,ht] at h
   by_cases hk:t.k=1
   ·rw [if_pos hk] at h; cases h
   ·rw [if_neg hk] at h
    cases hl:t.ns.lookup z with
    | none=>rw [hl] at h; cases h
    | some c' =>
     rw [hl] at h
     have:go s [] c'=(0,some c):=h
     unfold go at this
     cases this
     exact ⟨b,t,rfl,ht,hk,hl⟩
 | y :: r,b,h=>by
  rw [List.cons_append] at h
  unfold go at h
  cases ht:s.T b with
  | none=>simp [ht] at h
  | some t =>
   simp only [ht] at h
   by_cases hk:t.k=1
   ·rw [if_pos hk] at h; cases h
   ·rw [if_neg hk] at h
    cases hl:t.ns.lookup y with
    | none=>rw [hl] at h; cases h
    | some c' =>
     rw [hl] at h
     obtain ⟨d,u,h1,h2⟩:=go_snoc r c' h
     refine ⟨d,u,?_,h2⟩
     unfold go
     simp only [ht,if_neg hk,hl]
     exact h1

theorem go_cat {s:Tr} {z:List UInt8} {c d:Nat} {t:Th} (h3:s.T d=some t) (hk:t.k=2) (hl:t.ns.lookup z=some c):∀ (ms:List (List UInt8)) (b:Nat),go s ms b=(0,some d)→go s (ms ++ [z]) b=(0,some c)
 | [],b,h=>by
  unfold go at h
  cases h
  exact go_step h3 hk hl []
 | y :: r,b,h=>by
  rw [List.cons_append]
  unfold go at h ⊢
  cases ht:s.T b with
  | none=>simp [ht] at h
  | some u =>
   simp only [ht] at h ⊢
   by_cases hk:u.k=1
   ·rw [if_pos hk] at h; cases h
   ·rw [if_neg hk] at h ⊢
    cases hl':u.ns.lookup y with
    | none=>rw [hl'] at h; cases h
    | some c' =>
     rw [hl'] at h
     exact go_cat h3 ‹t.k=2› hl r c' h

theorem plc_go {s:Tr} {r d:Nat} {ms:List (List UInt8)} (hk:Ok s r) (h:plc s ms r=(0,some d)):go s ms r=(0,some d):=by
 obtain ⟨tr,htr,_⟩:=hk.dir
 unfold plc at h
 rcases go_ends hk ms r ⟨tr,htr⟩ with ⟨h1,c,t,h2,h3⟩ | ⟨h1,h2⟩
 ·rw [h2] at h
  simp only [h3] at h
  split at h
  ·cases h
  ·cases h
   exact Prod.ext h1 h2
 ·rw [h2] at h
  have:=congrArg Prod.snd h
  cases this

theorem go_plc {s:Tr} {r d:Nat} {t:Th} {ms:List (List UInt8)} (h:go s ms r=(0,some d)) (ht:s.T d=some t) (hk:t.k=2):plc s ms r=(0,some d):=by
 unfold plc
 rw [h]
 simp only [ht]
 rw [if_neg (by omega)]

theorem Wf.path {s:Tr} {r n:Nat} (h:Wf s r n):∀ (k:Nat) (A B:List (List UInt8)) (c:Nat) (t:Th),A.length ≤ k→s.T c=some t→t.k=2→go s A r=(0,some c)→go s B r=(0,some c)→A=B
 | k,A,B,c,t,hkl,ht,hk,ha,hb=>by
  rcases List.eq_nil_or_concat A with rfl | ⟨A',y,rfl⟩
  ·unfold go at ha
   cases ha
   rcases List.eq_nil_or_concat B with rfl | ⟨B',y',rfl⟩
   ·rfl
   ·rw [List.concat_eq_append] at hb
    obtain ⟨p,u,_,hu,_,hl⟩:=go_snoc B' r hb
    exact absurd rfl (h.named_ne hu (mem_look hl))
  ·rw [List.concat_eq_append] at ha hkl ⊢
   obtain ⟨p,u,hp,hu,hku,hl⟩:=go_snoc A' r ha
   rcases List.eq_nil_or_concat B with rfl | ⟨B',y',rfl⟩
   ·unfold go at hb
    cases hb
    exact absurd rfl (h.named_ne hu (mem_look hl))
   ·rw [List.concat_eq_append] at hb ⊢
    obtain ⟨p',u',hp',hu',hku',hl'⟩:=go_snoc B' r hb
    obtain ⟨e1,e2⟩:=h.one hu hu' (mem_look hl) (mem_look hl') rfl (h.dir c t ht hk).2
    cases e2
    subst e1
    rw [hu] at hu'
    cases hu'
    cases k with
    | zero=>simp at hkl
    | succ k =>
     rw [h.path k A' B' p u (by simp at hkl; omega) hu (h.kind2 hu (mem_look hl)) hp hp']

theorem Wf.below {s:Tr} {r n d x:Nat} {t:Th} {ms:List (List UInt8)} {z:List UInt8} (h:Wf s r n) (hd:go s ms r=(0,some d)) (ht:s.T d=some t) (h2:t.k=2) (hc:t.ns.lookup z=some x):∀ (k:Nat) (L:List (List UInt8)) (c:Nat) (u:Th),L.length ≤ k→s.T c=some u→u.k=2→go s L r=(0,some c)→Dn s x c→(ms ++ [z]).length ≤ L.length∧ms ++ [z]=L.take (ms ++ [z]).length
 | k,L,c,u,hkl,hu,hk,hg,hdn=>by
  rcases List.eq_nil_or_concat L with rfl | ⟨L',y,rfl⟩
  ·exfalso
   unfold go at hg
   cases hg
   cases hdn with
   | refl=>exact h.named_ne ht (mem_look hc) rfl
   | step hb htb he=>exact h.named_ne htb he rfl
  ·rw [List.concat_eq_append] at hg hkl ⊢
   obtain ⟨p,v,hp,hv,hkv,hl⟩:=go_snoc L' r hg
   have hcc:=(h.dir c u hu hk).2
   cases hdn with
   | refl =>
    obtain ⟨e1,e2⟩:=h.one hv ht (mem_look hl) (mem_look hc) rfl hcc
    subst e1
    cases e2
    rw [h.path L'.length L' ms p v (Nat.le_refl _) hv (h.kind2 hv (mem_look hl)) hp hd]
    exact ⟨Nat.le_refl _,by rw [List.take_length]⟩
   | @step b tb e hb htb he =>
    obtain ⟨e1,e2⟩:=h.one hv htb (mem_look hl) he rfl hcc
    subst e1
    cases k with
    | zero=>simp at hkl
    | succ k =>
     obtain ⟨q1,q2⟩:=h.below hd ht h2 hc k L' p v (by simp at hkl; omega) hv (h.kind2 hv (mem_look hl)) hp hb
     refine ⟨by simp at q1 ⊢; omega,?_⟩
     rw [List.take_append_of_le_length q1]
     exact q2

theorem Wf.not_below {s:Tr} {r n d x d2:Nat} {t t2:Th} {ms ms2:List (List UInt8)} {z z2:List UInt8} (h:Wf s r n) (hd:go s ms r=(0,some d)) (ht:s.T d=some t) (h2:t.k=2) (hc:t.ns.lookup z=some x) (hd2:go s ms2 r=(0,some d2)) (ht2:s.T d2=some t2) (h22:t2.k=2)
  (hab:abo (ms ++ [z]) (ms2 ++ [z2])=false):¬ Dn s x d2:=fun hdn=>by
 obtain ⟨q1,q2⟩:=h.below hd ht h2 hc ms2.length ms2 d2 t2 (Nat.le_refl _) ht2 h22 hd2 hdn
 have:abo (ms ++ [z]) (ms2 ++ [z2])=true:=by
  unfold abo
  rw [Bool.and_eq_true]
  refine ⟨decide_eq_true (by simp at q1 ⊢; omega),decide_eq_true ?_⟩
  rw [List.take_append_of_le_length q1]
  exact q2
 rw [hab] at this
 cases this

def RenP (s:Tr) (r:Nat) (p q:List UInt8) (s':Tr):Prop :=
 ∃ ms z d t x tx ms2 z2 d2 t2,spl p=some (ms ++ [z])∧spl q=some (ms2 ++ [z2])∧plc s ms r=(0,some d)∧s.T d=some t∧t.k=2∧t.ns.lookup z=some x∧s.T x=some tx∧plc s ms2 r=(0,some d2)∧s.T d2=some t2∧t2.k=2 ∧
  ((t2.ns.lookup z2=some x∧s'=s) ∨
   (abo (ms ++ [z]) (ms2 ++ [z2])=false∧t2.ns.lookup z2 ≠ some x∧(∃ (n2:Nat) (rk:Nat→Nat),Deep s rk∧rk x < n2∧fitsB s n2 q x=true) ∧
    ((t2.ns.lookup z2=none∧s'=s.moved d z d2 z2 x) ∨ ∃ y ty,t2.ns.lookup z2=some y∧s.T y=some ty∧yE s y ty tx.k=0∧s'=(s.gone d2 t2 z2 y ty).moved d z d2 z2 x)))

theorem yE_zero {s:Tr} {y:Nat} {t:Th} {k:Int} (h:yE s y t k=0):t.ns=[]∧(t.l=1→∀ f,f < 16→s.opn f ≠ some y):=by
 unfold yE at h
 split at h
 ·cases h
 ·split at h
  ·cases h
  ·split at h
   ·cases h
   ·rename_i hl
    split at h
    ·cases h
    ·rename_i hk
     refine ⟨List.length_eq_zero_iff.1 (by omega),fun hl1 f hf ho=>hk ?_⟩
     unfold Tr.keeps
     rw [hl1,(held_iff s y).2 ⟨f,hf,ho⟩]
     rfl

theorem gone_T {s:Tr} {d x:Nat} {t tx:Th} {z:List UInt8} (hdx:d ≠ x):(s.gone d t z x tx).T d=some { t with ns:=delN z t.ns }∧∀ k,k ≠ d→k ≠ x→(s.gone d t z x tx).T k=s.T k:=by
 unfold Tr.gone
 by_cases hl:tx.l=1
 ·rw [if_pos hl]
  refine ⟨?_,fun k h1 h2=>?_⟩
  ·show (if d=x then none else if d=d then _ else _)=_
   rw [if_neg hdx,if_pos rfl]
  ·show (if k=x then none else if k=d then _ else _)=_
   rw [if_neg h2,if_neg h1]
 ·rw [if_neg hl]
  refine ⟨?_,fun k h1 h2=>?_⟩
  ·show (if d=x then _ else if d=d then _ else _)=_
   rw [if_neg hdx,if_pos rfl]
  ·show (if k=x then _ else if k=d then _ else _)=_
   rw [if_neg h2,if_neg h1]

theorem gone_edge {s:Tr} {d x b:Nat} {t tx u:Th} {z:List UInt8} (ht:s.T d=some t) (hx:s.T x=some tx) (hdx:d ≠ x) (h:(s.gone d t z x tx).T b=some u) {e:List UInt8 × Nat} (he:e ∈ u.ns):∃ v,s.T b=some v∧e ∈ v.ns:=by
 obtain ⟨g1,g2⟩:=gone_T (s:=s) (t:=t) (z:=z) (tx:=tx) hdx
 by_cases h1:b=d
 ·subst h1
  rw [g1] at h
  cases h
  exact ⟨t,ht,mem_del he⟩
 ·by_cases h2:b=x
  ·subst h2
   unfold Tr.gone at h
   by_cases hl:tx.l=1
   ·rw [if_pos hl] at h
    have h':(if b=b then none else _)=some u:=h
    rw [if_pos rfl] at h'
    cases h'
   ·rw [if_neg hl] at h
    have h':(if b=b then some { tx with l:=tx.l - 1 } else _)=some u:=h
    rw [if_pos rfl] at h'
    cases h'
    exact ⟨tx,hx,he⟩
  ·rw [g2 b h1 h2] at h
   exact ⟨u,h,he⟩

theorem dn_gone {s:Tr} {d y b x:Nat} {t ty:Th} {z:List UInt8} (ht:s.T d=some t) (hy:s.T y=some ty) (hdy:d ≠ y) (h:Dn (s.gone d t z y ty) x b):Dn s x b:=by
 induction h with
 | refl=>exact Dn.refl
 | step hb htb he ih =>
  obtain ⟨v,hv,hm⟩:=gone_edge ht hy hdy htb he
  exact Dn.step ih hv hm

theorem gone_opn {s:Tr} {d x:Nat} {t tx:Th} {z:List UInt8}:(s.gone d t z x tx).opn=s.opn:=by
 unfold Tr.gone
 split <;> rfl

theorem Wf.over {s:Tr} {r n d d2 x y:Nat} {t tx t2 ty:Th} {z z2:List UInt8} {k:Int} (h:Wf s r n) (hn:n ≤ 1700000000000) (ht:s.T d=some t) (h2:t.k=2) (hc:t.ns.lookup z=some x) (hx:s.T x=some tx) (ht2:s.T d2=some t2) (h22:t2.k=2) (hc2:t2.ns.lookup z2=some y) (hy:s.T y=some ty) (hxy:y ≠ x) (hE:yE s y ty k=0)
  (ho:∀ f b,s.opn f=some b→f < 16) (hxd:x ≠ d2):Wf (s.gone d2 t2 z2 y ty) r n∧∃ t1 t3,(s.gone d2 t2 z2 y ty).T d=some t1∧t1.k=2∧t1.ns.lookup z=some x∧(s.gone d2 t2 z2 y ty).T d2=some t3∧t3.k=2∧t3.ns.lookup z2=none∧(s.gone d2 t2 z2 y ty).T x=some tx:=by
 obtain ⟨e1,e2⟩:=yE_zero hE
 have hw:=h.gone (by omega) ht2 h22 hc2 hy e1 (fun hl f hf=>e2 hl f (ho f y hf) hf)
 obtain ⟨q1,_⟩:=h.dropable (by omega) ht2 hc2 hy
 have hdy:d ≠ y:=fun e=>by
  subst e
  rw [ht] at hy
  cases hy
  rw [e1] at hc
  cases hc
 obtain ⟨g1,g2⟩:=gone_T (s:=s) (t:=t2) (z:=z2) (tx:=ty) q1
 refine ⟨hw,?_⟩
 have hT3:({ t2 with ns:=delN z2 t2.ns }:Th).ns.lookup z2=none:=by
  show (delN z2 t2.ns).lookup z2=none
  rw [look_del,if_pos rfl]
 by_cases hd:d=d2
 ·subst hd
  rw [ht] at ht2
  cases ht2
  have hz:z ≠ z2:=fun e=>by
   subst e
   rw [hc] at hc2
   cases hc2
   exact hxy rfl
  refine ⟨_,_,g1,h2,?_,g1,h2,hT3,by rw [g2 x hxd (fun e=>hxy e.symm)]; exact hx⟩
  show (delN z2 t.ns).lookup z=some x
  rw [look_del,if_neg hz]
  exact hc
 ·exact ⟨t,_,by rw [g2 d hd hdy]; exact ht,h2,hc,g1,h22,hT3,by rw [g2 x hxd (fun e=>hxy e.symm)]; exact hx⟩

theorem RenP.wf {s s':Tr} {r n:Nat} {p q:List UInt8} (h:Wf s r n) (hn:n ≤ 1700000000000) (ho:∀ f b,s.opn f=some b→f < 16) (hr:RenP s r p q s'):Wf s' r n:=by
 obtain ⟨ms,z,d,t,x,tx,ms2,z2,d2,t2,hp,hq,e1,ht,h2,hc,hx,e2,ht2,h22,hcase⟩:=hr
 rcases hcase with ⟨_,rfl⟩ | ⟨hab,_,_,hcase⟩
 ·exact h
 ·have hdn:=h.not_below (plc_go h.ok e1) ht h2 hc (plc_go h.ok e2) ht2 h22 hab
  rcases hcase with ⟨hc2,rfl⟩ | ⟨y,ty,hc2,hy,hE,rfl⟩
  ·exact h.moved ht h2 hc ht2 h22 hc2 (name_len hq) hx hdn
  ·have hxd:x ≠ d2:=fun e=>by subst e; exact hdn Dn.refl
   have hxy:y ≠ x:=fun e=>by subst e; exact absurd hc2 ‹_›
   obtain ⟨hw,t1,t3,g1,g2,g3,g4,g5,g6,g7⟩:=h.over hn ht h2 hc hx ht2 h22 hc2 hy hxy hE ho hxd
   obtain ⟨q1,_⟩:=h.dropable (by omega) ht2 hc2 hy
   exact hw.moved g1 g2 g3 g4 g5 g6 (name_len hq) g7 (fun q=>hdn (dn_gone ht2 hy q1 q))

theorem refE_spl {p q:List UInt8} {ps qs:List (List UInt8)} (hp:spl p=some ps) (hq:spl q=some qs):p=q ↔ ps=qs:=by
 constructor
 ·intro e
  subst e
  rw [hp] at hq
  cases hq
  rfl
 ·intro e
  subst e
  rw [(spl_some hp).2.1,(spl_some hq).2.1]

end Go.Proofs.YtknmgefpjdfenaaGreat

/- Calls that are refused: with which error. -/
namespace Go.Proofs.YtknmgefpjdfenaaGreat
set_option maxRecDepth 100000
set_option maxHeartbeats 8000000
open Go.RowKit Go.Shelf Go.Maps
set_option linter.unusedVariables false

def CallE (w:World) (S:Nat→Prop) (g:Nat) (s:Tr) (N:Int→Prop) (Q:Tr→Prop) (e:Ending) (w':World):Prop :=
 ∃ E s',e=.returned (.int .i64 E)∧TM w' (Up S w.heap.size w'.heap.size) g s'∧Kp S w w'∧((E ≠ 0∧N E∧s'=s) ∨ (E=0∧Q s'))

theorem CallE.no {w:World} {S:Nat→Prop} {g:Nat} {s:Tr} {N:Int→Prop} {Q:Tr→Prop} (h:TM w S g s) {E:Int} (hE:E ≠ 0) (hN:N E) {w':World} (hb:Below w.heap.size w w'):CallE w S g s N Q (.returned (.int .i64 E)) w' :=
 ⟨E,s,rfl,h.up (Nat.le_refl _) hb,Kp.of hb,.inl ⟨hE,hN,rfl⟩⟩

theorem CallE.later {w u w':World} {S:Nat→Prop} {g:Nat} {s:Tr} {N:Int→Prop} {Q:Tr→Prop} {e:Ending} (hS:∀ k,S k→k < w.heap.size) (hb:Below w.heap.size w u) (h:CallE u S g s N Q e w'):CallE w S g s N Q e w':=by
 obtain ⟨E,s',rfl,h1,h2,h3⟩:=h
 obtain ⟨q1,q2⟩:=up_back hS hb h1 h2
 exact ⟨E,s',rfl,q1,q2,h3⟩

def RmvN (s:Tr) (r:Nat) (ms:List (List UInt8)) (z:List UInt8) (EF:Nat→Th→Int) (E:Int):Prop :=
 ((plc s ms r).2=none∧(plc s ms r).1=E) ∨ ∃ d t,plc s ms r=(0,some d)∧s.T d=some t∧t.k=2∧((t.ns.lookup z=none∧E=11) ∨ ∃ x tx,t.ns.lookup z=some x∧s.T x=some tx∧EF x tx=E)

def GonN (s:Tr) (r:Nat) (p:List UInt8) (R:Int) (EF:Nat→Th→Int) (E:Int):Prop :=
 (spl p=none∧E=16) ∨ (spl p=some []∧E=R) ∨ ∃ ms z,spl p=some (ms ++ [z])∧RmvN s r ms z EF E

def EntN (s:Tr) (r:Nat) (p:List UInt8) (E:Int):Prop :=
 (spl p=none∧E=16) ∨ (spl p=some []∧E=12) ∨ ∃ ms z,spl p=some (ms ++ [z])∧(((plc s ms r).2=none∧(plc s ms r).1=E) ∨ ∃ d t c,plc s ms r=(0,some d)∧s.T d=some t∧t.k=2∧t.ns.lookup z=some c∧E=12)

def MadeF (s:Tr) (r:Nat) (p:List UInt8) (k:Int) (s':Tr):Prop :=
 ∃ ms z d t f b mp ra rc,spl p=some (ms ++ [z])∧plc s ms r=(0,some d)∧s.T d=some t∧t.k=2∧t.ns.lookup z=none∧Free s f∧f ≤ s.row.length∧s.T b=none∧s'=s.made f k d t z b mp ra rc

def LinN (s:Tr) (r:Nat) (p q:List UInt8) (E:Int):Prop :=
 (refE [p,q]=16∧E=16) ∨ ∃ ps qs,spl p=some ps∧spl q=some qs∧(((go s ps r).2=none∧(go s ps r).1=E) ∨ ∃ x tx,go s ps r=(0,some x)∧s.T x=some tx∧((tx.k=2∧E=14) ∨ (tx.k=1∧tx.l=65535∧E=5) ∨ (tx.k=1∧tx.l ≠ 65535∧EntN s r q E)))

def LinkF (s:Tr) (r:Nat) (p q:List UInt8) (s':Tr):Prop :=
 ∃ ps x tx ms z d t,spl p=some ps∧go s ps r=(0,some x)∧s.T x=some tx∧tx.k=1∧tx.l ≠ 65535∧spl q=some (ms ++ [z])∧plc s ms r=(0,some d)∧s.T d=some t∧t.k=2∧t.ns.lookup z=none∧s'=s.linked d t z x tx

def OpnN (s:Tr) (r:Nat) (p:List UInt8) (E:Int):Prop :=
 (spl p=none∧E=16) ∨ ∃ ps,spl p=some ps∧(((go s ps r).2=none∧(go s ps r).1=E) ∨ ∃ x tx,go s ps r=(0,some x)∧s.T x=some tx∧((tx.k=2∧E=14) ∨ (tx.k=1∧(∀ j,j < 16→∃ b,s.opn j=some b)∧E=19)))

def OpenE (w:World) (S:Nat→Prop) (g:Nat) (s:Tr) (r:Nat) (p:List UInt8) (e:Ending) (w':World):Prop :=
 ∃ f E s',e=.returned (.tuple #[.int .i64 f,.int .i64 E])∧TM w' (Up S w.heap.size w'.heap.size) g s'∧Kp S w w'∧((E ≠ 0∧f=0∧OpnN s r p E∧s'=s) ∨ (E=0∧∃ (k:Nat) (ns:List (List UInt8)) (b:Nat) (t:Th),f=(k:Int)∧FreeH s k∧spl p=some ns∧go s ns r=(0,some b)∧s.T b=some t∧t.k=1∧s'=s.opened k (some b)))

theorem OpenE.no {w:World} {S:Nat→Prop} {g r:Nat} {s:Tr} {p:List UInt8} (h:TM w S g s) {E:Int} (hE:E ≠ 0) (hN:OpnN s r p E) {w':World} (hb:Below w.heap.size w w'):OpenE w S g s r p (.returned (.tuple #[.int .i64 0,.int .i64 E])) w' :=
 ⟨0,E,s,rfl,h.up (Nat.le_refl _) hb,Kp.of hb,.inl ⟨hE,rfl,hN,rfl⟩⟩

theorem remove_unE {w:World} {S:Nat→Prop} {g r n m:Nat} {s:Tr} (h:TM w S g s) (hw:Wf s r n) (hn:n ≤ 1800000000000) {p z:List UInt8} {ms:List (List UInt8)} (hp:spl p=some (ms ++ [z])) (hm:w.cell? ⟨m,0,none⟩=some (.pointer (some ⟨g,0,none⟩))∧m < w.heap.size) :
  Calls Tryz.prog 83 #[.pointer (some ⟨g,0,none⟩),.string (St p),.func (.func 84) #[] #[.pointer (some ⟨m,0,none⟩)]] w fun e w'=>CallE w S g s (RmvN s r ms z (unE s)) (GoneP s r ms z (unE s)) e w':=by
 have K:=taken_any h hw.ok hp
 have HT:=hide h
 have hSw:=h.lt
 rcases plc_cases hw.ok ms with ⟨e1,e2⟩ | ⟨d,t,e1,ht,h2⟩
 ·rw [tkA_err z e1] at K
  have K:=hide K
  have d1:((plc s ms r).1 != 0)=true:=by rcases e2 with e | e <;> rw [e] <;> rfl
  have hne:(plc s ms r).1 ≠ 0:=by omega
  have HN:Hid (RmvN s r ms z (unE s) (plc s ms r).1):=.inl ⟨e1,rfl⟩
  clear h hw hp e1 e2 hm
  generalize he:(plc s ms r).1=ee at *
  clear he
  generalize St p=sp at *
  go_enter Tryz.func83,Tryz.ntmps83
  go_wp2_with fail
  refine (unhide K).mono ?_
  rintro e w1 ⟨rfl,hb⟩
  have HB:=hide (hb.alloc hb.size (.cells #[.pointer none,.string ⟨#[]⟩] 92))
  clear K hb
  go_wp2_with fail
  go_ret
  exact CallE.no HT.out hne HN.out HB.out
 ·cases hc:t.ns.lookup z with
  | none =>
   rw [tkA_none e1 ht hc] at K
   have K:=hide K
   have HN:Hid (RmvN s r ms z (unE s) 11):=.inr ⟨d,t,e1,ht,h2,.inl ⟨hc,rfl⟩⟩
   clear h hw hp e1 ht h2 hc hm
   generalize St p=sp at *
   go_enter Tryz.func83,Tryz.ntmps83
   go_wp2_with fail
   refine (unhide K).mono ?_
   rintro e w1 ⟨rfl,hb⟩
   have HB:=hide (hb.alloc hb.size (.cells #[.pointer none,.string ⟨#[]⟩] 92))
   clear K hb
   go_wp2_with fail
   go_ret
   exact CallE.no HT.out (by decide) HN.out HB.out
  | some x =>
   rw [tkA_some e1 ht hc] at K
   have K:=hide K
   obtain ⟨tx,hx⟩:=(hw.liv d t ht _ (mem_look hc)).1
   obtain ⟨q1,q2,q3,q4,q5⟩:=hw.dropable hn ht hc hx
   have KD:Hid (∀ u,TM u S g s→Calls Tryz.prog 60 #[.pointer (some ⟨g,0,none⟩),.agg #[.pointer (some ⟨d,0,none⟩),.string (St z)]] u fun e w'=>e=.returned (.tuple #[])∧TM w' (Up S u.heap.size w'.heap.size) g (s.gone d t z x tx)∧Kp S u w'):=fun u hu=>drop_any hu ht h2 q5 hc hx q1 q2 q3
   have KF:Hid (∀ u,TM u S g s→Below w.heap.size w u→Calls Tryz.prog 84 #[.pointer (some ⟨x,0,none⟩),.pointer (some ⟨m,0,none⟩)] u fun e w'=>e=.returned (.int .i64 (unE s x tx))∧w'=u):=fun u hu hb=>unlink1_any hu hx (fun f b ho=>by obtain ⟨t,ht,_⟩:=hw.opn f b ho; exact ⟨t,ht⟩) ((hb.cell (p:=⟨m,0,none⟩) hm.2).trans hm.1)
   have HG:Hid ((unE s) x tx=0→GoneP s r ms z (unE s) (s.gone d t z x tx)):=fun q=>⟨d,t,x,tx,e1,ht,h2,hc,hx,q,rfl⟩
   have HN:Hid (RmvN s r ms z (unE s) ((unE s) x tx)):=.inr ⟨d,t,e1,ht,h2,.inr ⟨x,tx,hc,hx,rfl⟩⟩
   clear h hw hp e1 ht h2 hc hx q1 q2 q3 q4 q5
   generalize ((unE s) x tx)=ef at *
   generalize St p=sp at *
   generalize St z=sz at *
   go_enter Tryz.func83,Tryz.ntmps83
   go_wp2_with fail
   refine (unhide K).mono ?_
   rintro e w1 ⟨rfl,hb⟩
   have hb1:Below w.heap.size w (w1.alloc (.cells #[.pointer (some ⟨d,0,none⟩),.string sz] 92)):=hb.alloc hb.size _
   have HB:=hide hb1
   have HT1:=hide (HT.out.below hb1)
   have hC:=C2.new w1 (.pointer (some ⟨d,0,none⟩)) (.string sz)
   have k0:=hC.c0
   have k1:=hC.c1
   have KF:=hide (KF.out _ HT1.out HB.out)
   have KD:=hide (KD.out _ HT1.out)
   clear K hb hb1 hC
   go_wp2_with fail
   generalize w1.alloc (.cells #[.pointer (some ⟨d,0,none⟩),.string sz] 92)=w2 at *
   generalize w1.heap.size=m1 at *
   refine (unhide KF).mono ?_
   rintro e w3 ⟨rfl,rfl⟩
   clear KF
   by_cases h0:ef=0
   ·subst h0
    go_wp2_with fail
    refine (unhide KD).mono ?_
    rintro e w4 ⟨rfl,h4,hk4⟩
    have HR:=hide (up_back hSw HB.out h4 hk4)
    clear KD h4 hk4 k0 k1
    go_wp2_with fail
    go_ret
    exact ⟨0,_,rfl,HR.out.1,HR.out.2,.inr ⟨rfl,HG.out (by trivial)⟩⟩
   ·have d1:(ef != 0)=true:=by simpa using h0
    go_wp2_with fail
    go_ret
    exact CallE.no HT.out h0 HN.out HB.out

theorem remove_rmE {w:World} {S:Nat→Prop} {g r n:Nat} {s:Tr} (h:TM w S g s) (hw:Wf s r n) (hn:n ≤ 1800000000000) {p z:List UInt8} {ms:List (List UInt8)} (hp:spl p=some (ms ++ [z])) :
  Calls Tryz.prog 83 #[.pointer (some ⟨g,0,none⟩),.string (St p),.func (.func 86) #[] #[]] w fun e w'=>CallE w S g s (RmvN s r ms z (fun _ t=>rmE t)) (GoneP s r ms z (fun _ t=>rmE t)) e w':=by
 have K:=taken_any h hw.ok hp
 have HT:=hide h
 have hSw:=h.lt
 rcases plc_cases hw.ok ms with ⟨e1,e2⟩ | ⟨d,t,e1,ht,h2⟩
 ·rw [tkA_err z e1] at K
  have K:=hide K
  have d1:((plc s ms r).1 != 0)=true:=by rcases e2 with e | e <;> rw [e] <;> rfl
  have hne:(plc s ms r).1 ≠ 0:=by omega
  have HN:Hid (RmvN s r ms z (fun _ t=>rmE t) (plc s ms r).1):=.inl ⟨e1,rfl⟩
  clear h hw hp e1 e2
  generalize he:(plc s ms r).1=ee at *
  clear he
  generalize St p=sp at *
  go_enter Tryz.func83,Tryz.ntmps83
  go_wp2_with fail
  refine (unhide K).mono ?_
  rintro e w1 ⟨rfl,hb⟩
  have HB:=hide (hb.alloc hb.size (.cells #[.pointer none,.string ⟨#[]⟩] 92))
  clear K hb
  go_wp2_with fail
  go_ret
  exact CallE.no HT.out hne HN.out HB.out
 ·cases hc:t.ns.lookup z with
  | none =>
   rw [tkA_none e1 ht hc] at K
   have K:=hide K
   have HN:Hid (RmvN s r ms z (fun _ t=>rmE t) 11):=.inr ⟨d,t,e1,ht,h2,.inl ⟨hc,rfl⟩⟩
   clear h hw hp e1 ht h2 hc
   generalize St p=sp at *
   go_enter Tryz.func83,Tryz.ntmps83
   go_wp2_with fail
   refine (unhide K).mono ?_
   rintro e w1 ⟨rfl,hb⟩
   have HB:=hide (hb.alloc hb.size (.cells #[.pointer none,.string ⟨#[]⟩] 92))
   clear K hb
   go_wp2_with fail
   go_ret
   exact CallE.no HT.out (by decide) HN.out HB.out
  | some x =>
   rw [tkA_some e1 ht hc] at K
   have K:=hide K
   obtain ⟨tx,hx⟩:=(hw.liv d t ht _ (mem_look hc)).1
   obtain ⟨q1,q2,q3,q4,q5⟩:=hw.dropable hn ht hc hx
   have KD:Hid (∀ u,TM u S g s→Calls Tryz.prog 60 #[.pointer (some ⟨g,0,none⟩),.agg #[.pointer (some ⟨d,0,none⟩),.string (St z)]] u fun e w'=>e=.returned (.tuple #[])∧TM w' (Up S u.heap.size w'.heap.size) g (s.gone d t z x tx)∧Kp S u w'):=fun u hu=>drop_any hu ht h2 q5 hc hx q1 q2 q3
   have KF:Hid (∀ u,TM u S g s→Below w.heap.size w u→Calls Tryz.prog 86 #[.pointer (some ⟨x,0,none⟩)] u fun e w'=>e=.returned (.int .i64 ((fun _ t=>rmE t) x tx))∧w'=u):=fun u hu hb=>rmdir1_any hu hx (hw.ok.kind x tx hx) (Nat.le_trans (hw.ns_le hx) hn)
   have HG:Hid ((fun _ t=>rmE t) x tx=0→GoneP s r ms z (fun _ t=>rmE t) (s.gone d t z x tx)):=fun q=>⟨d,t,x,tx,e1,ht,h2,hc,hx,q,rfl⟩
   have HN:Hid (RmvN s r ms z (fun _ t=>rmE t) ((fun _ t=>rmE t) x tx)):=.inr ⟨d,t,e1,ht,h2,.inr ⟨x,tx,hc,hx,rfl⟩⟩
   clear h hw hp e1 ht h2 hc hx q1 q2 q3 q4 q5
   generalize ((fun _ t=>rmE t) x tx)=ef at *
   generalize St p=sp at *
   generalize St z=sz at *
   go_enter Tryz.func83,Tryz.ntmps83
   go_wp2_with fail
   refine (unhide K).mono ?_
   rintro e w1 ⟨rfl,hb⟩
   have hb1:Below w.heap.size w (w1.alloc (.cells #[.pointer (some ⟨d,0,none⟩),.string sz] 92)):=hb.alloc hb.size _
   have HB:=hide hb1
   have HT1:=hide (HT.out.below hb1)
   have hC:=C2.new w1 (.pointer (some ⟨d,0,none⟩)) (.string sz)
   have k0:=hC.c0
   have k1:=hC.c1
   have KF:=hide (KF.out _ HT1.out HB.out)
   have KD:=hide (KD.out _ HT1.out)
   clear K hb hb1 hC
   go_wp2_with fail
   generalize w1.alloc (.cells #[.pointer (some ⟨d,0,none⟩),.string sz] 92)=w2 at *
   generalize w1.heap.size=m1 at *
   refine (unhide KF).mono ?_
   rintro e w3 ⟨rfl,rfl⟩
   clear KF
   by_cases h0:ef=0
   ·subst h0
    go_wp2_with fail
    refine (unhide KD).mono ?_
    rintro e w4 ⟨rfl,h4,hk4⟩
    have HR:=hide (up_back hSw HB.out h4 hk4)
    clear KD h4 hk4 k0 k1
    go_wp2_with fail
    go_ret
    exact ⟨0,_,rfl,HR.out.1,HR.out.2,.inr ⟨rfl,HG.out (by trivial)⟩⟩
   ·have d1:(ef != 0)=true:=by simpa using h0
    go_wp2_with fail
    go_ret
    exact CallE.no HT.out h0 HN.out HB.out

theorem unlinkE_any {w:World} {S:Nat→Prop} {g r n:Nat} {s:Tr} (h:TM w S g s) (hw:Wf s r n) (hn:n ≤ 1800000000000) {p:List UInt8} (hpl:p.length ≤ 9223372036854775807) :
  Calls Tryz.prog 29 #[.pointer (some ⟨g,0,none⟩),.string (St p)] w fun e w'=>CallE w S g s (GonN s r p 14 (unE s)) (fun s'=>∃ ms z,spl p=some (ms ++ [z])∧GoneP s r ms z (unE s) s') e w':=by
 have hv:Below w.heap.size w (w.alloc (.cells #[.pointer (some ⟨g,0,none⟩)] 26)):=(Below.refl _ w).alloc (Nat.le_refl _) _
 have hlt:w.heap.size < (w.alloc (.cells #[.pointer (some ⟨g,0,none⟩)] 26)).heap.size:=by simp
 have hv2:=h.below hv
 have K:=refuses_one (p:=p) hv2 hw.ok.row_ne hpl (Below.refl _ _)
 rw [show (w.alloc (.cells #[.pointer (some ⟨g,0,none⟩)] 26)).heap.size=w.heap.size + 1 by simp] at K
 have HZ:Hid ((w.alloc (.cells #[.pointer (some ⟨g,0,none⟩)] 26)).heap.size=w.heap.size + 1):=by unfold Hid; simp
 have HC0:Hid ((w.alloc (.cells #[.pointer (some ⟨g,0,none⟩)] 26)).cell? ⟨w.heap.size,0,none⟩=some (.pointer (some ⟨g,0,none⟩))):=cell_box (World.alloc_heap_new _ _)
 have HT0:=hide h
 have HT:=hide hv2
 have HV:=hide hv
 cases hs:spl p with
 | none =>
  rw [splE_none hs] at K
  have K:=hide K
  have HN:Hid (GonN s r p 14 (unE s) 16):=.inl ⟨hs,rfl⟩
  clear h hw hs hv hv2
  generalize St p=sp at *
  go_enter Tryz.func29,Tryz.ntmps29
  go_wp2_with fail
  generalize w.alloc (.cells #[.pointer (some ⟨g,0,none⟩)] 26)=w0 at *
  refine (unhide K).mono ?_
  rintro e w1 ⟨rfl,hb⟩
  rw [← HZ.out] at hb
  have HB:=hide (HV.out.trans (hb.mono HV.out.size))
  clear K hb
  go_wp2_with fail
  go_ret
  exact CallE.no HT0.out (by decide) HN.out HB.out
 | some ns =>
  rw [splE_of hs] at K
  have K:=hide K
  rcases List.eq_nil_or_concat ns with rfl | ⟨ms,z,rfl⟩
  ·have hp1:p=[47]:=by have:=(spl_some hs).2.1; rw [this]; rfl
   have hpe:((St p).toList == [47])=true:=by rw [St_toList,hp1]; rfl
   have HN:Hid (GonN s r p 14 (unE s) 14):=.inr (.inl ⟨hs,rfl⟩)
   subst hp1
   change Calls Tryz.prog _ #[.pointer (some ⟨g,0,none⟩),.string ⟨#[47]⟩] w _
   change Hid (Calls _ _ _ ((w.alloc _).alloc (.cells #[.string ⟨#[47]⟩] 9)) _) at K
   clear h hw hs hv hv2 hpe
   go_enter Tryz.func29,Tryz.ntmps29
   go_wp2_with fail
   generalize w.alloc (.cells #[.pointer (some ⟨g,0,none⟩)] 26)=w0 at *
   refine (unhide K).mono ?_
   rintro e w1 ⟨rfl,hb⟩
   rw [← HZ.out] at hb
   have HB:=hide (HV.out.trans (hb.mono HV.out.size))
   clear K hb
   go_wp2_with fail
   go_ret
   exact CallE.no HT0.out (by decide) HN.out HB.out
  ·rw [List.concat_eq_append] at hs
   have dne:=not_root hs
   have hSw:=h.lt
   have KR:Hid (∀ u,TM u S g s→(u.cell? ⟨w.heap.size,0,none⟩=some (.pointer (some ⟨g,0,none⟩))∧w.heap.size < u.heap.size)→Calls Tryz.prog 83 #[.pointer (some ⟨g,0,none⟩),.string (St p),.func (.func 84) #[] #[.pointer (some ⟨w.heap.size,0,none⟩)]] u fun e w'=>CallE u S g s (RmvN s r ms z (unE s)) (GoneP s r ms z (unE s)) e w') :=
    fun u hu hm=>remove_unE hu hw hn hs hm
   have HS:=hide hs
   clear h hw hs hv hv2
   generalize hsp:St p=sp at *
   go_enter Tryz.func29,Tryz.ntmps29
   go_wp2_with fail
   generalize w.alloc (.cells #[.pointer (some ⟨g,0,none⟩)] 26)=w0 at *
   refine (unhide K).mono ?_
   rintro e w1 ⟨rfl,hb⟩
   rw [← HZ.out] at hb
   have HT:=hide (HT.out.below hb)
   have c1:=(hb.cell (p:=⟨w.heap.size,0,none⟩) hlt).trans HC0.out
   have HB:=hide (HV.out.trans (hb.mono HV.out.size))
   have KR:=hide (KR.out w1 HT.out ⟨c1,Nat.lt_of_lt_of_le hlt hb.size⟩)
   clear K hb HC0 HV
   go_wp2_with fail
   refine (unhide KR).mono ?_
   rintro e w2 hR
   obtain ⟨E,s',rfl,h1,h2,h3⟩:=CallE.later hSw HB.out hR
   have HR:=hide (And.intro h1 (And.intro h2 h3))
   clear KR h1 h2 h3 hR c1 HT
   go_wp2_with fail
   go_ret
   obtain ⟨h1,h2,h3⟩:=HR.out
   exact ⟨E,s',rfl,h1,h2,h3.imp (fun q=>⟨q.1,.inr (.inr ⟨ms,z,HS.out,q.2.1⟩),q.2.2⟩) (fun q=>⟨q.1,ms,z,by rw [List.concat_eq_append],q.2⟩)⟩

theorem rmdirE_any {w:World} {S:Nat→Prop} {g r n:Nat} {s:Tr} (h:TM w S g s) (hw:Wf s r n) (hn:n ≤ 1800000000000) {p:List UInt8} (hpl:p.length ≤ 9223372036854775807) :
  Calls Tryz.prog 31 #[.pointer (some ⟨g,0,none⟩),.string (St p)] w fun e w'=>CallE w S g s (GonN s r p 17 (fun _ t=>rmE t)) (fun s'=>∃ ms z,spl p=some (ms ++ [z])∧GoneP s r ms z (fun _ t=>rmE t) s') e w':=by
 have K:=refuses_one (p:=p) h hw.ok.row_ne hpl (Below.refl _ _)
 have HT:=hide h
 cases hs:spl p with
 | none =>
  rw [splE_none hs] at K
  have K:=hide K
  have HN:Hid (GonN s r p 17 (fun _ t=>rmE t) 16):=.inl ⟨hs,rfl⟩
  clear h hw hs
  generalize St p=sp at *
  go_enter Tryz.func31,Tryz.ntmps31
  go_wp2_with fail
  refine (unhide K).mono ?_
  rintro e w1 ⟨rfl,hb⟩
  have HB:=hide hb
  clear K hb
  go_wp2_with fail
  go_ret
  exact CallE.no HT.out (by decide) HN.out HB.out
 | some ns =>
  rw [splE_of hs] at K
  have K:=hide K
  rcases List.eq_nil_or_concat ns with rfl | ⟨ms,z,rfl⟩
  ·have hp1:p=[47]:=by have:=(spl_some hs).2.1; rw [this]; rfl
   have HN:Hid (GonN s r p 17 (fun _ t=>rmE t) 17):=.inr (.inl ⟨hs,rfl⟩)
   subst hp1
   change Calls Tryz.prog _ #[.pointer (some ⟨g,0,none⟩),.string ⟨#[47]⟩] w _
   change Hid (Calls _ _ _ (w.alloc (.cells #[.string ⟨#[47]⟩] 9)) _) at K
   clear h hw hs
   go_enter Tryz.func31,Tryz.ntmps31
   go_wp2_with fail
   refine (unhide K).mono ?_
   rintro e w1 ⟨rfl,hb⟩
   have HB:=hide hb
   clear K hb
   go_wp2_with fail
   go_ret
   exact CallE.no HT.out (by decide) HN.out HB.out
  ·rw [List.concat_eq_append] at hs
   have dne:=not_root hs
   have hSw:=h.lt
   have KR:Hid (∀ u,TM u S g s→Calls Tryz.prog 83 #[.pointer (some ⟨g,0,none⟩),.string (St p),.func (.func 86) #[] #[]] u fun e w'=>CallE u S g s (RmvN s r ms z (fun _ t=>rmE t)) (GoneP s r ms z (fun _ t=>rmE t)) e w') :=
    fun u hu=>remove_rmE hu hw hn hs
   have HS:=hide hs
   clear h hw hs
   generalize hsp:St p=sp at *
   go_enter Tryz.func31,Tryz.ntmps31
   go_wp2_with fail
   refine (unhide K).mono ?_
   rintro e w1 ⟨rfl,hb⟩
   have HB:=hide hb
   have KR:=hide (KR.out w1 (HT.out.below hb))
   clear K hb
   go_wp2_with fail
   refine (unhide KR).mono ?_
   rintro e w2 hR
   obtain ⟨E,s',rfl,h1,h2,h3⟩:=CallE.later hSw HB.out hR
   have HR:=hide (And.intro h1 (And.intro h2 h3))
   clear KR h1 h2 h3 hR HT
   go_wp2_with fail
   go_ret
   obtain ⟨h1,h2,h3⟩:=HR.out
   exact ⟨E,s',rfl,h1,h2,h3.imp (fun q=>⟨q.1,.inr (.inr ⟨ms,z,HS.out,q.2.1⟩),q.2.2⟩) (fun q=>⟨q.1,ms,z,by rw [List.concat_eq_append],q.2⟩)⟩

theorem mkdirE_any {w:World} {S:Nat→Prop} {g r n:Nat} {s:Tr} (h:TM w S g s) (hw:Wf s r n) (hn:n ≤ 1700000000000) {p:List UInt8} (hpl:p.length ≤ 9223372036854775807) :
  Calls Tryz.prog 21 #[.pointer (some ⟨g,0,none⟩),.string (St p)] w fun e w'=>CallE w S g s (EntN s r p) (MadeF s r p 2) e w':=by
 cases hs:spl p with
 | none =>
  refine (mkdir_bad h hw.ok.row_ne hpl hs).mono ?_
  rintro e w' ⟨rfl,hb⟩
  exact CallE.no h (by decide) (.inl ⟨hs,rfl⟩) hb
 | some ns =>
  rcases List.eq_nil_or_concat ns with rfl | ⟨ms,z,rfl⟩
  ·have hp1:p=[47]:=by have:=(spl_some hs).2.1; rw [this]; rfl
   refine (mkdir_ref h hw.ok.row_ne hs (E:=12) (fun u fn hu=>?_)).mono ?_
   ·subst hp1
    refine (enter_root u (.pointer (some ⟨g,0,none⟩)) fn).mono ?_
    rintro e w' ⟨rfl,rfl⟩
    exact ⟨rfl,Below.refl _ _⟩
   ·rintro e w' ⟨rfl,hb⟩
    exact CallE.no h (by decide) (.inr (.inl ⟨hs,rfl⟩)) hb
  ·rw [List.concat_eq_append] at hs
   rcases plc_cases hw.ok ms with ⟨e1,e2⟩ | ⟨d,t,e1,ht,h2⟩
   ·refine (mkdir_ref h hw.ok.row_ne hs (E:=(plc s ms r).1) (fun u fn hu=>enter_err hu hw.ok hs fn ⟨e1,e2⟩)).mono ?_
    rintro e w' ⟨rfl,hb⟩
    exact CallE.no h (by omega) (.inr (.inr ⟨ms,z,hs,.inl ⟨e1,rfl⟩⟩)) hb
   ·cases hc:t.ns.lookup z with
    | some c =>
     refine (mkdir_ref h hw.ok.row_ne hs (E:=12) (fun u fn hu=>enter_has hu hw.ok hs fn e1 ht h2 hc)).mono ?_
     rintro e w' ⟨rfl,hb⟩
     exact CallE.no h (by decide) (.inr (.inr ⟨ms,z,hs,.inr ⟨d,t,c,e1,ht,h2,hc,rfl⟩⟩)) hb
    | none =>
     obtain ⟨f,hf,hfl⟩:=hw.free
     have hl:=hw.len
     refine (mkdir_new h hw.ok hs e1 ht h2 hc (by have:=hw.ns_le ht; omega) hf (by omega) (by omega)).mono ?_
     rintro e w' ⟨b,mp,ra,rc,rfl,hb,htm,hkp⟩
     exact ⟨0,_,rfl,htm,hkp,.inr ⟨rfl,ms,z,d,t,f,b,mp,ra,rc,hs,e1,ht,h2,hc,hf,hfl,h.fresh hb,rfl⟩⟩

theorem createE_any {w:World} {S:Nat→Prop} {g r n:Nat} {s:Tr} (h:TM w S g s) (hw:Wf s r n) (hn:n ≤ 1700000000000) {p:List UInt8} (hpl:p.length ≤ 9223372036854775807) :
  Calls Tryz.prog 22 #[.pointer (some ⟨g,0,none⟩),.string (St p)] w fun e w'=>CallE w S g s (EntN s r p) (MadeF s r p 1) e w':=by
 cases hs:spl p with
 | none =>
  refine (create_bad h hw.ok.row_ne hpl hs).mono ?_
  rintro e w' ⟨rfl,hb⟩
  exact CallE.no h (by decide) (.inl ⟨hs,rfl⟩) hb
 | some ns =>
  rcases List.eq_nil_or_concat ns with rfl | ⟨ms,z,rfl⟩
  ·have hp1:p=[47]:=by have:=(spl_some hs).2.1; rw [this]; rfl
   refine (create_ref h hw.ok.row_ne hs (E:=12) (fun u fn hu=>?_)).mono ?_
   ·subst hp1
    refine (enter_root u (.pointer (some ⟨g,0,none⟩)) fn).mono ?_
    rintro e w' ⟨rfl,rfl⟩
    exact ⟨rfl,Below.refl _ _⟩
   ·rintro e w' ⟨rfl,hb⟩
    exact CallE.no h (by decide) (.inr (.inl ⟨hs,rfl⟩)) hb
  ·rw [List.concat_eq_append] at hs
   rcases plc_cases hw.ok ms with ⟨e1,e2⟩ | ⟨d,t,e1,ht,h2⟩
   ·refine (create_ref h hw.ok.row_ne hs (E:=(plc s ms r).1) (fun u fn hu=>enter_err hu hw.ok hs fn ⟨e1,e2⟩)).mono ?_
    rintro e w' ⟨rfl,hb⟩
    exact CallE.no h (by omega) (.inr (.inr ⟨ms,z,hs,.inl ⟨e1,rfl⟩⟩)) hb
   ·cases hc:t.ns.lookup z with
    | some c =>
     refine (create_ref h hw.ok.row_ne hs (E:=12) (fun u fn hu=>enter_has hu hw.ok hs fn e1 ht h2 hc)).mono ?_
     rintro e w' ⟨rfl,hb⟩
     exact CallE.no h (by decide) (.inr (.inr ⟨ms,z,hs,.inr ⟨d,t,c,e1,ht,h2,hc,rfl⟩⟩)) hb
    | none =>
     obtain ⟨f,hf,hfl⟩:=hw.free
     have hl:=hw.len
     refine (create_new h hw.ok hs e1 ht h2 hc (by have:=hw.ns_le ht; omega) hf (by omega) (by omega)).mono ?_
     rintro e w' ⟨b,mp,ra,rc,rfl,hb,htm,hkp⟩
     exact ⟨0,_,rfl,htm,hkp,.inr ⟨rfl,ms,z,d,t,f,b,mp,ra,rc,hs,e1,ht,h2,hc,hf,hfl,h.fresh hb,rfl⟩⟩

theorem linkE_of {w:World} {S:Nat→Prop} {g r n x:Nat} {s:Tr} {tx:Th} (h:TM w S g s) (hw:Wf s r n) {p q:List UInt8} {ps qs:List (List UInt8)} (hp:spl p=some ps) (hq:spl q=some qs) (hg:go s ps r=(0,some x)) (hx:s.T x=some tx) (hk:tx.k=1) (hl:tx.l ≠ 65535) {N:Int→Prop} {Q:Tr→Prop}
  (KE:∀ u m,TM u S g s→(u.cell? ⟨m,0,none⟩=some (.pointer (some ⟨x,0,none⟩))∧m < u.heap.size)→Calls Tryz.prog 66 #[.pointer (some ⟨g,0,none⟩),.string (St q),.func (.func 70) #[] #[.pointer (some ⟨m,0,none⟩)]] u fun e w'=>CallE u S g s N Q e w') :
  Calls Tryz.prog 26 #[.pointer (some ⟨g,0,none⟩),.string (St p),.string (St q)] w fun e w'=>CallE w S g s N Q e w':=by
 have K:=refuses_two h hw.ok.row_ne (p:=p) (q:=q) (by have:=spl_len hp; omega) (by have:=spl_len hq; omega)
 rcases refE_two p q with ⟨e0,_⟩ | ⟨_,e1 | e1⟩
 ·rw [e0] at K
  have K:=hide K
  have KF:Hid (∀ u,TM u S g s→Calls Tryz.prog 53 #[.pointer (some ⟨g,0,none⟩),.string (St p)] u fun e w'=>e=.returned (.tuple #[.pointer (some ⟨x,0,none⟩),.int .i64 0])∧Below u.heap.size u w'):=fun u hu=>by
   have:=find_any hu hw.ok hp
   rw [hg] at this
   exact this
  have HT:=hide h
  have HX:=hide hx
  have KE:=hide KE
  have hSw:=h.lt
  have d1:(tx.l == 65535)=false:=by simpa using hl
  clear h hw hp hq hg hx e0 hl
  generalize St p=sp at *
  generalize St q=sq at *
  go_enter Tryz.func26,Tryz.ntmps26
  go_wp2_with fail
  refine (unhide K).mono ?_
  rintro e w1 ⟨rfl,hb⟩
  have HT:=hide (HT.out.below hb)
  have HB:=hide hb
  have KF:=hide (KF.out w1 HT.out)
  clear K hb
  go_wp2_with fail
  refine (unhide KF).mono ?_
  rintro e w2 ⟨rfl,hb⟩
  have hb2:Below w1.heap.size w1 (w2.alloc (.cells #[.pointer (some ⟨x,0,none⟩)] 63)):=hb.alloc hb.size _
  have h2:=HT.out.below hb2
  have HB:=hide (HB.out.trans (hb2.mono HB.out.size))
  have cb:(w2.alloc (.cells #[.pointer (some ⟨x,0,none⟩)] 63)).cell? ⟨w2.heap.size,0,none⟩=some (.pointer (some ⟨x,0,none⟩)):=cell_box (World.alloc_heap_new _ _)
  have KE:=hide (KE.out _ w2.heap.size h2 ⟨cb,by simp⟩)
  obtain ⟨c0,_,c2,_⟩:=h2.thing_cells HX.out
  rw [hk] at c0
  clear KF hb hb2 h2 HT HX
  generalize tx.l=lx at *
  go_upto_region 5 with fail
  change Code.wp _ _ _ _ (w2.alloc (.cells #[.pointer (some ⟨x,0,none⟩)] 63))
  generalize w2.alloc (.cells #[.pointer (some ⟨x,0,none⟩)] 63)=w3 at *
  generalize w2.heap.size=m at *
  go_wp2_with fail
  refine (unhide KE).mono ?_
  rintro e w4 hR
  obtain ⟨E,s',rfl,h1,h2,h3⟩:=CallE.later hSw HB.out hR
  have HR:=hide (And.intro h1 (And.intro h2 h3))
  clear KE h1 h2 h3 hR c0 c2 cb HB
  go_wp2_with fail
  go_ret
  exact ⟨E,s',rfl,HR.out⟩
 ·rw [hp] at e1; cases e1
 ·rw [hq] at e1; cases e1

theorem linkE_any {w:World} {S:Nat→Prop} {g r n:Nat} {s:Tr} (h:TM w S g s) (hw:Wf s r n) (hn:n ≤ 1700000000000) {p q:List UInt8} (hpl:p.length ≤ 9223372036854775807) (hql:q.length ≤ 9223372036854775807) :
  Calls Tryz.prog 26 #[.pointer (some ⟨g,0,none⟩),.string (St p),.string (St q)] w fun e w'=>CallE w S g s (LinN s r p q) (LinkF s r p q) e w':=by
 have K:=refuses_two h hw.ok.row_ne hpl hql
 have HT:=hide h
 rcases refE_two p q with ⟨e0,ps,qs,hp,hq⟩ | ⟨e0,_⟩
 ·obtain ⟨tr,htr,_⟩:=hw.ok.dir
  rcases go_ends hw.ok ps r ⟨tr,htr⟩ with ⟨g1,x,tx,g2,hx⟩ | ⟨g1,g2⟩
  ·have hg:go s ps r=(0,some x):=Prod.ext g1 g2
   by_cases hd:tx.k=1∧tx.l ≠ 65535
   ·refine linkE_of h hw hp hq hg hx hd.1 hd.2 (fun u m hu hm=>?_)
    rcases List.eq_nil_or_concat qs with rfl | ⟨ms,z,rfl⟩
    ·have hq1:q=[47]:=by have:=(spl_some hq).2.1; rw [this]; rfl
     subst hq1
     refine (enter_root u (.pointer (some ⟨g,0,none⟩)) _).mono ?_
     rintro e w' ⟨rfl,rfl⟩
     exact CallE.no hu (by decide) (.inr ⟨ps,_,hp,hq,.inr ⟨x,tx,hg,hx,.inr (.inr ⟨hd.1,hd.2,.inr (.inl ⟨hq,rfl⟩)⟩)⟩⟩) (Below.refl _ _)
    ·rw [List.concat_eq_append] at hq
     rcases plc_cases hw.ok ms with ⟨e1,e2⟩ | ⟨d,t,e1,ht,h2⟩
     ·refine (enter_err hu hw.ok hq _ ⟨e1,e2⟩).mono ?_
      rintro e w' ⟨rfl,hb⟩
      exact CallE.no hu (by omega) (.inr ⟨ps,_,hp,hq,.inr ⟨x,tx,hg,hx,.inr (.inr ⟨hd.1,hd.2,.inr (.inr ⟨ms,z,hq,.inl ⟨e1,rfl⟩⟩)⟩)⟩⟩) hb
     ·cases hc:t.ns.lookup z with
      | some c =>
       refine (enter_has hu hw.ok hq _ e1 ht h2 hc).mono ?_
       rintro e w' ⟨rfl,hb⟩
       exact CallE.no hu (by decide) (.inr ⟨ps,_,hp,hq,.inr ⟨x,tx,hg,hx,.inr (.inr ⟨hd.1,hd.2,.inr (.inr ⟨ms,z,hq,.inr ⟨d,t,c,e1,ht,h2,hc,rfl⟩⟩)⟩)⟩⟩) hb
      | none =>
       have hxr:x ≠ r:=fun e=>by
        subst e
        obtain ⟨tr',htr',hk2,_⟩:=hw.root
        rw [hx] at htr'
        cases htr'
        omega
       have hl:=hw.lnk x tx hx hxr
       have hc2:=hw.cnt_le x
       refine (enter_ln hu hw.ok hq e1 ht h2 hc (by have:=hw.ns_le ht; omega) hx hd.1 (by omega) hm).mono ?_
       rintro e w' ⟨rfl,htm,hkp⟩
       exact ⟨0,_,rfl,htm,hkp,.inr ⟨rfl,ps,x,tx,ms,z,d,t,hp,hg,hx,hd.1,hd.2,hq,e1,ht,h2,hc,rfl⟩⟩
   ·rw [e0] at K
    have K:=hide K
    have KF:Hid (∀ u,TM u S g s→Calls Tryz.prog 53 #[.pointer (some ⟨g,0,none⟩),.string (St p)] u fun e w'=>e=.returned (.tuple #[.pointer (some ⟨x,0,none⟩),.int .i64 0])∧Below u.heap.size u w'):=fun u hu=>by
     have:=find_any hu hw.ok hp
     rw [hg] at this
     exact this
    have HX:=hide hx
    have hkk:=hw.ok.kind x tx hx
    have HN1:Hid (tx.k=1→tx.l=65535→LinN s r p q 5):=fun a b=>.inr ⟨ps,qs,hp,hq,.inr ⟨x,tx,hg,hx,.inr (.inl ⟨a,b,rfl⟩)⟩⟩
    have HN2:Hid (tx.k=2→LinN s r p q 14):=fun a=>.inr ⟨ps,qs,hp,hq,.inr ⟨x,tx,hg,hx,.inl ⟨a,rfl⟩⟩⟩
    clear h hw hp hq hg hx e0 g1 g2 htr
    generalize St p=sp at *
    generalize St q=sq at *
    go_enter Tryz.func26,Tryz.ntmps26
    go_wp2_with fail
    refine (unhide K).mono ?_
    rintro e w1 ⟨rfl,hb⟩
    have HT1:=hide (HT.out.below hb)
    have HB:=hide hb
    have KF:=hide (KF.out w1 HT1.out)
    clear K hb
    go_wp2_with fail
    refine (unhide KF).mono ?_
    rintro e w2 ⟨rfl,hb⟩
    have hb2:Below w1.heap.size w1 (w2.alloc (.cells #[.pointer (some ⟨x,0,none⟩)] 63)):=hb.alloc hb.size _
    have h2:=HT1.out.below hb2
    have HB:=hide (HB.out.trans (hb2.mono HB.out.size))
    have cb:(w2.alloc (.cells #[.pointer (some ⟨x,0,none⟩)] 63)).cell? ⟨w2.heap.size,0,none⟩=some (.pointer (some ⟨x,0,none⟩)):=cell_box (World.alloc_heap_new _ _)
    obtain ⟨c0,_,c2,_⟩:=h2.thing_cells HX.out
    clear KF hb hb2 h2 HT1 HX
    rcases hkk with hk | hk
    ·have hl:tx.l=65535:=Classical.byContradiction (fun q=>hd ⟨hk,q⟩)
     rw [hk] at c0
     rw [hl] at c2
     go_upto_region 5 with fail
     change Code.wp _ _ _ _ (w2.alloc (.cells #[.pointer (some ⟨x,0,none⟩)] 63))
     generalize w2.alloc (.cells #[.pointer (some ⟨x,0,none⟩)] 63)=w3 at *
     generalize w2.heap.size=m at *
     have HN:=hide (HN1.out hk hl)
     clear hd hk hl
     go_wp2_with fail
     go_ret
     exact CallE.no HT.out (by decide) HN.out HB.out
    ·rw [hk] at c0
     go_upto_region 5 with fail
     change Code.wp _ _ _ _ (w2.alloc (.cells #[.pointer (some ⟨x,0,none⟩)] 63))
     generalize w2.alloc (.cells #[.pointer (some ⟨x,0,none⟩)] 63)=w3 at *
     generalize w2.heap.size=m at *
     have HN:=hide (HN2.out hk)
     clear hd hk
     go_wp2_with fail
     go_ret
     exact CallE.no HT.out (by decide) HN.out HB.out
  ·rw [e0] at K
   have K:=hide K
   have KF:Hid (∀ u,TM u S g s→Calls Tryz.prog 53 #[.pointer (some ⟨g,0,none⟩),.string (St p)] u fun e w'=>e=.returned (.tuple #[.pointer none,.int .i64 (go s ps r).1])∧Below u.heap.size u w'):=fun u hu=>by
    have:=find_any hu hw.ok hp
    rw [g2] at this
    exact this
   have hne:(go s ps r).1 ≠ 0:=by omega
   have d1:((go s ps r).1 != 0)=true:=by simpa using hne
   have HN:Hid (LinN s r p q (go s ps r).1):=.inr ⟨ps,qs,hp,hq,.inl ⟨g2,rfl⟩⟩
   clear h hw hp hq e0 g1 g2 htr
   generalize he:(go s ps r).1=ee at *
   clear he
   generalize St p=sp at *
   generalize St q=sq at *
   go_enter Tryz.func26,Tryz.ntmps26
   go_wp2_with fail
   refine (unhide K).mono ?_
   rintro e w1 ⟨rfl,hb⟩
   have HB:=hide hb
   have KF:=hide (KF.out w1 (HT.out.below hb))
   clear K hb
   go_wp2_with fail
   refine (unhide KF).mono ?_
   rintro e w2 ⟨rfl,hb⟩
   have HB:=hide ((HB.out.trans (hb.mono HB.out.size)).alloc (HB.out.trans (hb.mono HB.out.size)).size (.cells #[.pointer none] 63))
   clear KF hb
   go_wp2_with fail
   go_ret
   exact CallE.no HT.out hne HN.out HB.out
 ·rw [e0] at K
  have K:=hide K
  have HN:Hid (LinN s r p q 16):=.inl ⟨e0,rfl⟩
  clear h hw e0
  generalize St p=sp at *
  generalize St q=sq at *
  go_enter Tryz.func26,Tryz.ntmps26
  go_wp2_with fail
  refine (unhide K).mono ?_
  rintro e w1 ⟨rfl,hb⟩
  have HB:=hide hb
  clear K hb
  go_wp2_with fail
  go_ret
  exact CallE.no HT.out (by decide) HN.out HB.out

theorem openE_any {w:World} {S:Nat→Prop} {g r n:Nat} {s:Tr} (h:TM w S g s) (hw:Wf s r n) {p:List UInt8} (hpl:p.length ≤ 9223372036854775807) :
  Calls Tryz.prog 18 #[.pointer (some ⟨g,0,none⟩),.string (St p)] w fun e w'=>OpenE w S g s r p e w':=by
 have K:=refuses_one (p:=p) h hw.ok.row_ne hpl (Below.refl _ _)
 have HT:=hide h
 cases hs:spl p with
 | none =>
  rw [splE_none hs] at K
  have K:=hide K
  have HN:Hid (OpnN s r p 16):=.inl ⟨hs,rfl⟩
  clear h hw hs
  generalize hsp:St p=sp at *
  go_enter Tryz.func18,Tryz.ntmps18
  go_wp2_with fail
  refine (unhide K).mono ?_
  rintro e w1 ⟨rfl,hb⟩
  have HB:=hide hb
  clear K hb
  go_wp2_with fail
  go_ret2
  exact OpenE.no HT.out (by decide) HN.out HB.out
 | some ns =>
  rw [splE_of hs] at K
  have K:=hide K
  obtain ⟨tr,htr,_⟩:=hw.ok.dir
  rcases go_ends hw.ok ns r ⟨tr,htr⟩ with ⟨g1,b,t,g2,ht⟩ | ⟨g1,g2⟩
  ·have hg:go s ns r=(0,some b):=Prod.ext g1 g2
   have KF:Hid (∀ u,TM u S g s→Calls Tryz.prog 53 #[.pointer (some ⟨g,0,none⟩),.string (St p)] u fun e w'=>e=.returned (.tuple #[.pointer (some ⟨b,0,none⟩),.int .i64 0])∧Below u.heap.size u w'):=fun u hu=>by
    have:=find_any hu hw.ok hs
    rw [hg] at this
    exact this
   rcases hw.ok.kind b t ht with h1 | h1
   ·rcases freeh_ex s 16 0 (by omega) (by omega) (fun j hj=>by omega) with ⟨f,hf⟩ | hf
    ·refine (open_ok h hw.ok hs hg ht h1 hf).mono ?_
     rintro e w' ⟨rfl,htm,hkp⟩
     exact ⟨_,0,_,rfl,htm.kept (fun _ _=>rfl) (fun _ q=>.inl q) (fun k q=>q.elim (fun e=>htm.lt k e) (fun e=>e.2)),hkp,.inr ⟨rfl,f,ns,b,t,rfl,hf,hs,hg,ht,h1,rfl⟩⟩
    ·have KI:Hid (∀ u,TM u S g s→Calls Tryz.prog 63 #[.slice (some ⟨g,3,none⟩) 16 16,.pointer none] u fun e w'=>e=.returned (.int .i64 (-1))∧w'=u):=fun u hu=>index_full hu hf
     have HX:=hide (And.intro ht h1)
     have HN:Hid (OpnN s r p 19):=.inr ⟨ns,hs,.inr ⟨b,t,hg,ht,.inr ⟨h1,hf,rfl⟩⟩⟩
     clear h hw hs hg ht h1 hf g1 g2 htr
     generalize hsp:St p=sp at *
     go_enter Tryz.func18,Tryz.ntmps18
     go_wp2_with fail
     refine (unhide K).mono ?_
     rintro e w1 ⟨rfl,hb⟩
     have HT1:=hide (HT.out.below hb)
     have HB:=hide hb
     have KF:=hide (KF.out w1 HT1.out)
     clear K hb
     go_wp2_with fail
     refine (unhide KF).mono ?_
     rintro e w2 ⟨rfl,hb⟩
     have HT1:=hide (HT1.out.below hb)
     have HB:=hide (HB.out.trans (hb.mono HB.out.size))
     have t0:=(HT1.out.thing_cells HX.out.1).1
     rw [HX.out.2] at t0
     have KI:=hide (KI.out w2 HT1.out)
     clear KF hb
     go_wp2_with fail
     refine (unhide KI).mono ?_
     rintro e w3 ⟨rfl,rfl⟩
     clear KI
     go_wp2_with fail
     go_ret2
     exact OpenE.no HT.out (by decide) HN.out HB.out
   ·have HX:=hide (And.intro ht h1)
    have HN:Hid (OpnN s r p 14):=.inr ⟨ns,hs,.inr ⟨b,t,hg,ht,.inl ⟨h1,rfl⟩⟩⟩
    clear h hw hs hg ht h1 g1 g2 htr
    generalize hsp:St p=sp at *
    go_enter Tryz.func18,Tryz.ntmps18
    go_wp2_with fail
    refine (unhide K).mono ?_
    rintro e w1 ⟨rfl,hb⟩
    have HT1:=hide (HT.out.below hb)
    have HB:=hide hb
    have KF:=hide (KF.out w1 HT1.out)
    clear K hb
    go_wp2_with fail
    refine (unhide KF).mono ?_
    rintro e w2 ⟨rfl,hb⟩
    have HT1:=hide (HT1.out.below hb)
    have HB:=hide (HB.out.trans (hb.mono HB.out.size))
    have t0:=(HT1.out.thing_cells HX.out.1).1
    rw [HX.out.2] at t0
    clear KF hb
    go_wp2_with fail
    go_ret2
    exact OpenE.no HT.out (by decide) HN.out HB.out
  ·have KF:Hid (∀ u,TM u S g s→Calls Tryz.prog 53 #[.pointer (some ⟨g,0,none⟩),.string (St p)] u fun e w'=>e=.returned (.tuple #[.pointer none,.int .i64 (go s ns r).1])∧Below u.heap.size u w'):=fun u hu=>by
    have:=find_any hu hw.ok hs
    rw [g2] at this
    exact this
   have hne:(go s ns r).1 ≠ 0:=by omega
   have d1:((go s ns r).1 != 0)=true:=by simpa using hne
   have HN:Hid (OpnN s r p (go s ns r).1):=.inr ⟨ns,hs,.inl ⟨g2,rfl⟩⟩
   clear h hw hs g1 g2 htr
   generalize he:(go s ns r).1=ee at *
   clear he
   generalize hsp:St p=sp at *
   go_enter Tryz.func18,Tryz.ntmps18
   go_wp2_with fail
   refine (unhide K).mono ?_
   rintro e w1 ⟨rfl,hb⟩
   have HB:=hide hb
   have KF:=hide (KF.out w1 (HT.out.below hb))
   clear K hb
   go_wp2_with fail
   refine (unhide KF).mono ?_
   rintro e w2 ⟨rfl,hb⟩
   have HB:=hide (HB.out.trans (hb.mono HB.out.size))
   clear KF hb
   go_wp2_with fail
   go_ret2
   exact OpenE.no HT.out hne HN.out HB.out

end Go.Proofs.YtknmgefpjdfenaaGreat

