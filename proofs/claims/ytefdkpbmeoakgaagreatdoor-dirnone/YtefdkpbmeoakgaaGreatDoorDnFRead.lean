/- Read of one piece. -/
import Derived.Test.YtefdkpbmeoakgaaGreatDoorDnJ47
import Derived.Test.YtefdkpbmeoakgaaGreatDoorDnJ43
import Derived.Test.YtefdkpbmeoakgaaGreatDoorDnJ43
import Derived.Test.YtefdkpbmeoakgaaGreatDoorDnJ44
import Derived.Test.YtefdkpbmeoakgaaGreatDoorDnJ38
import Derived.Sort.CutIn
namespace Go.Proofs.YtefdkpbmeoakgaaGreatDoor
set_option maxRecDepth 100000
set_option maxHeartbeats 8000000
open Go.RowKit Go.Shelf Go.Maps
set_option linter.unusedVariables false
attribute [local go_sem] Oper.semAt_some
theorem adX {n0 Q}(hq:Bun n0 Q){rows:List (Nat×Obj)}{u:World}(h:Q rows u)(P:Nat->Int)(o tb:Nat)(j:Int)(X:Nat->Int)(at0 n:Int)(b:Nat)(k:Nat)(zs:List Int)(hP:P 0=64)(ha:0<=at0/\at0<=1000000)(hn:0<=n/\n<=4096)(hs:0<=X 2/\X 2<=1000000)(hk0:0<k)(hk2:max 0 (min n (X 2 - at0))=(k:Int))(hk3:at0%64+(k:Int)<=64)(hb:b≠0)(hz:zs.length=64)
  (KO:∀ rows' v,(∀ x∈rows,x∈rows')->Q rows' v->Calls Tryz.prog 91 #[.pointer (some ⟨o,0,none⟩),.pointer (some ⟨tb,0,none⟩),Pv P,.int .i64 j] v fun e v'=>e=.returned (.tuple #[.agg (Fc (some ⟨o,0,none⟩) (some ⟨tb,0,none⟩) P j X),.int .i64 0])/\Hid (Q rows' v'))
  (KF:∀ rows' v,(∀ x∈rows,x∈rows')->Q rows' v->Calls Tryz.prog 61 #[.pointer (some ⟨tb,0,none⟩),.pointer (some ⟨o,0,none⟩),.int .i64 j,.int .i64 (at0 / 64)] v fun e v'=>e=.returned (.tuple #[.int .i64 (b:Int),.int .i64 0])/\Hid (Q rows' v'))
  (KR:∀ rows' v,(∀ x∈rows,x∈rows')->Q rows' v->Calls Tryz.prog 83 #[.pointer (some ⟨o,0,none⟩),.int .i64 (b:Int)] v fun e v'=>∃ k c,e=.returned (.tuple #[.slice (some ⟨k,0,none⟩) 64 c,.int .i64 0])/\Hid (∃ ob,Dr c 64 zs ob/\v.heap.size<=k/\Q ((k,ob)::rows') v')) :
  Calls Tryz.prog 88 #[.pointer (some ⟨o,0,none⟩),.pointer (some ⟨tb,0,none⟩),Pv P,.int .i64 j,.int .i64 at0,.int .i64 n] u fun e u'=>∃ g2,e=.returned (.tuple #[.slice (some ⟨g2,0,none⟩) k k,.int .i64 0])/\Hid (Q ((g2,.cells (((zs.drop (at0%64).toNat).take k).map (Value.int .u8)).toArray 5)::rows) u'):=by
 have H0:Hid (Q ((u.heap.size+1+1+1+1+1,.cells #[.int .i64 0] 31)::(u.heap.size+1+1+1+1,.cells #[.slice none 0 0] 71)::(u.heap.size+1+1+1,zI j)::(u.heap.size+1+1,.cells (Pc P) 24)::(u.heap.size+1,zC tb 27)::(u.heap.size,zC o 28)::rows) ((((((u.alloc (zC o 28)).alloc (zC tb 27)).alloc (.cells (Pc P) 24)).alloc (zI j)).alloc (.cells #[.slice none 0 0] 71)).alloc (.cells #[.int .i64 0] 31))):=hide (hq.alZ h (zC o 28) (zC tb 27) (.cells (Pc P) 24) (zI j) (.cells #[.slice none 0 0] 71) (.cells #[.int .i64 0] 31))
 have HS:=hide (And.intro (hq.sz h) (fun x hx=>hq.lt h hx:∀ x∈rows,x.1<u.heap.size))
 have HB:=hide hq
 have HKO:=hide KO
 have HKF:=hide KF
 have HKR:=hide KR
 have n1:¬ at0<0:=by omega
 have n2:¬ n<0:=by omega
 have n3:¬ n > 4096:=by omega
 have HP:=hide hP
 have HM1:=hide (show u.heap.size<u.heap.size+1+1+1+1/\u.heap.size+1+1+1+1<u.heap.size+1+1+1+1+1 from ⟨by omega,by omega⟩)
 have hmk:∀ w:World,(Instr.makeSlice 71 (.int .i64 (k:Int)) (.int .i64 (k:Int))).run Tryz.prog w=.ok (.slice (some ⟨w.heap.size,0,none⟩) k k) (w.alloc (.cells (madeCells #[.int .u8 0] k) 5)):=run_make_row' (P:=Tryz.prog) 71 5 (.int .u8 0) 1 Tryz.underlying71 info5 rfl .i64 .i64 k (by omega) (by omega)
 have hsub:-1000000<=X 2 - at0/\X 2 - at0<=1000000:=by omega
 clear hP KO KF KR hq h
 refine(callsIn_wide (n:=3)).1 ?_
 refine callsIn_of_wp_marks Tryz.func88 rfl trivial ?_ rfl
 simp only[Tryz.ntmps88,List.size_toArray,List.length_cons,List.length_nil,Nat.reduceAdd,Nat.reduceSub,Array.replicate_succ,Array.replicate_zero,List.push_toArray,List.append_toArray,List.nil_append,List.cons_append]
 gi_wp2
 refine⟨trivial,?_⟩
 change CallsIn _ _ _ _ _ ((((((u.alloc (zC o 28)).alloc (zC tb 27)).alloc (.cells (Pc P) 24)).alloc (zI j)).alloc (.cells #[.slice none 0 0] 71)).alloc (.cells #[.int .i64 0] 31)) _
 generalize (((((u.alloc (zC o 28)).alloc (zC tb 27)).alloc (.cells (Pc P) 24)).alloc (zI j)).alloc (.cells #[.slice none 0 0] 71)).alloc (.cells #[.int .i64 0] 31)=w0 at *
 generalize u.heap.size+1+1+1+1+1=m5 at *
 generalize u.heap.size+1+1+1+1=m4 at *
 generalize u.heap.size+1+1+1=m3 at *
 generalize u.heap.size+1+1=m2 at *
 generalize u.heap.size+1=m1 at *
 generalize u.heap.size=m0 at *
 have K1:=hide (ah HKO _ w0 (fun x hx=>by simp[hx]) (ah H0))
 refine(callsIn_wide.2 (ah K1)).mono ?_
 rintro e w1 ⟨rfl,L1⟩
 clear K1 H0 HKO
 have L3:Hid (Q ((w1.heap.size+1+1,.cells #[.slice (some ⟨w1.heap.size+1,0,none⟩) k k] 71)::(w1.heap.size+1,.cells (madeCells #[.int .u8 0] k) 5)::(w1.heap.size,.cells (Fc (some ⟨o,0,none⟩) (some ⟨tb,0,none⟩) P j X) 161)::(m5,.cells #[.int .i64 0] 31)::(m4,.cells #[.slice none 0 0] 71)::(m3,zI j)::(m2,.cells (Pc P) 24)::(m1,zC tb 27)::(m0,zC o 28)::rows) (((w1.alloc (.cells (Fc (some ⟨o,0,none⟩) (some ⟨tb,0,none⟩) P j X) 161)).alloc (.cells (madeCells #[.int .u8 0] k) 5)).alloc (.cells #[.slice (some ⟨w1.heap.size+1,0,none⟩) k k] 71))):=by
  have x:=(ah HB).new ((ah HB).new ((ah HB).new (ah L1) (.cells (Fc (some ⟨o,0,none⟩) (some ⟨tb,0,none⟩) P j X) 161)) (.cells (madeCells #[.int .u8 0] k) 5)) (.cells #[.slice (some ⟨w1.heap.size+1,0,none⟩) k k] 71)
  simp only[World.size_alloc] at x
  exact x
 have HW1:=hide ((ah HB).sz (ah L1))
 have HM2:=hide ((ah HB).lt (ah L1) (x:=(m5,.cells #[.int .i64 0] 31)) (by simp))
 have HM3:=hide (show w1.heap.size<w1.heap.size+1/\w1.heap.size+1<w1.heap.size+1+1 from ⟨by omega,by omega⟩)
 clear L1
 gi_upto_region 9 with (refine fH rfl 161 _ _ rfl w1.heap.size (Fc (some ⟨o,0,none⟩) (some ⟨tb,0,none⟩) P j X) rfl rfl 161 Fz (World.alloc_heap_new _ _) (by kernel_rfl) rfl (by simp[Value.oneCell']) ?_;rw[World.setRow_alloc_new])
 change Code.wpIn _ _ _ _ _ _ (((w1.alloc (.cells (Fc (some ⟨o,0,none⟩) (some ⟨tb,0,none⟩) P j X) 161)).alloc (.cells (madeCells #[.int .u8 0] k) 5)).alloc (.cells #[.slice (some ⟨w1.heap.size+1,0,none⟩) k k] 71))
 generalize ((w1.alloc (.cells (Fc (some ⟨o,0,none⟩) (some ⟨tb,0,none⟩) P j X) 161)).alloc (.cells (madeCells #[.int .u8 0] k) 5)).alloc (.cells #[.slice (some ⟨w1.heap.size+1,0,none⟩) k k] 71)=w2 at *
 generalize w1.heap.size+1+1=md at *
 generalize w1.heap.size+1=mq at *
 generalize w1.heap.size=mf at *
 have y2:=Bl.cell ((ah HB).row (ah L3) (x:=(m2,.cells (Pc P) 24)) (by simp):Bl w2 m2 (Pc P) 24) 0 (.int .i64 (P 0)) rfl
 rw[ah HP] at y2
 have yb:=Bl.cell ((ah HB).row (ah L3) (x:=(md,.cells #[.slice (some ⟨mq,0,none⟩) k k] 71)) (by simp):Bl w2 md #[.slice (some ⟨mq,0,none⟩) k k] 71) 0 _ rfl
 clear hmk
 gi_wp2
 refine⟨trivial,?_⟩
 refine(vV _ _ trivial rfl _ _ _ _).mono ?_
 rintro e w3 ⟨rfl,hw3⟩
 have L4:Hid (Q ((w2.heap.size+1+1,zI (k:Int))::(w2.heap.size+1,zI at0)::(w2.heap.size,zI 64)::(md,.cells #[.slice (some ⟨mq,0,none⟩) k k] 71)::(mq,.cells (madeCells #[.int .u8 0] k) 5)::(mf,.cells (Fc (some ⟨o,0,none⟩) (some ⟨tb,0,none⟩) P j X) 161)::(m5,.cells #[.int .i64 0] 31)::(m4,.cells #[.slice none 0 0] 71)::(m3,zI j)::(m2,.cells (Pc P) 24)::(m1,zC tb 27)::(m0,zC o 28)::rows) w3):=by
  have x:=(ah HB).new ((ah HB).new ((ah HB).new (ah L3) (zI 64)) (zI at0)) (zI (k:Int))
  simp only[World.size_alloc] at x
  rw[hw3]
  exact x
 have HM4:=hide (show md<w2.heap.size+1+1 from by
  have:md<w2.heap.size:=(ah HB).lt (ah L3) (x:=(md,.cells #[.slice (some ⟨mq,0,none⟩) k k] 71)) (by simp)
  omega)
 clear y2 yb hw3 L3
 generalize w2.heap.size+1+1=kn at *
 generalize w2.heap.size+1=ka at *
 generalize w2.heap.size=kb at *
 gi_wp2
 have hlt:Hid (∀ x∈(kn,zI (k:Int))::(ka,zI at0)::(kb,zI 64)::(md,.cells #[.slice (some ⟨mq,0,none⟩) k k] 71)::(mq,.cells (madeCells #[.int .u8 0] k) 5)::(mf,.cells (Fc (some ⟨o,0,none⟩) (some ⟨tb,0,none⟩) P j X) 161)::(m5,.cells #[.int .i64 0] 31)::(m4,.cells #[.slice none 0 0] 71)::(m3,zI j)::(m2,.cells (Pc P) 24)::(m1,zC tb 27)::(m0,zC o 28)::rows,x.1<w3.heap.size):=fun x hx=>(ah HB).lt (ah L4) hx
 have hsz:Hid (n0<=w3.heap.size):=(ah HB).sz (ah L4)
 refine jl rfl (by omega) (gf:=170) (lb:=#[.pointer (some ⟨kn,0,none⟩),.pointer (some ⟨ka,0,none⟩),.pointer (some ⟨kb,0,none⟩)]) rfl trivial (enters_of Tryz.func170 (by kernel_rfl) rfl) (args:=#[.agg #[.int .i64 (at0 / 64),.int .i64 (at0%64),.int .i64 (at0%64+(k:Int)),.int .i64 0]]) rfl
  (fun ob W=>Q ((w3.heap.size+1,ob)::(w3.heap.size,.deferred (some []))::(kn,zI (k:Int))::(ka,zI at0)::(kb,zI 64)::(md,.cells #[.slice (some ⟨mq,0,none⟩) k k] 71)::(mq,.cells (madeCells #[.int .u8 0] k) 5)::(mf,.cells (Fc (some ⟨o,0,none⟩) (some ⟨tb,0,none⟩) P j X) 161)::(m5,.cells #[.int .i64 0] 31)::(m4,.cells #[.slice none 0 0] 71)::(m3,zI j)::(m2,.cells (Pc P) 24)::(m1,zC tb 27)::(m0,zC o 28)::rows) W) (fun ob W=>Q ((w3.heap.size+1,ob)::(w3.heap.size,.deferred (some []))::(kn,zI (k:Int))::(mq,.cells (((zs.drop (at0%64).toNat).take k).map (Value.int .u8)).toArray 5)::(md,.cells #[.slice (some ⟨mq,0,none⟩) k k] 71)::(m5,.cells #[.int .i64 0] 31)::(m4,.cells #[.slice none 0 0] 71)::rows) W) (fun W=>W.cell? ⟨kn,0,none⟩=some (.int .i64 (k:Int))) ?_ ?_ ?_ ?_ ?_ ?_ ?_ ?_
 ·intro ob
  have x:=(ah HB).new ((ah HB).new (ah L4) (.deferred (some []))) ob
  simp only[World.size_alloc] at x
  exact x
 ·intro ob W hQ
  exact(ah HB).row hQ (x:=(w3.heap.size+1,ob)) (by simp)
 ·rintro W T ⟨ob,hQ⟩ hY
  exact oN Fence.wide 2 trivial rfl (by omega) (w3.heap.size+1) kn ka kb 64 at0 (k:Int) (by omega) ha ⟨by omega,hk3⟩ T W (Bl.cell ((ah HB).row hQ (x:=(kn,zI (k:Int))) (by simp):Bl W kn #[.int .i64 (k:Int)] 3) 0 _ rfl) (Bl.cell ((ah HB).row hQ (x:=(ka,zI at0)) (by simp):Bl W ka #[.int .i64 at0] 3) 0 _ rfl) (Bl.cell ((ah HB).row hQ (x:=(kb,zI 64)) (by simp):Bl W kb #[.int .i64 64] 3) 0 _ rfl) hY
 ·intro ob W hQ
  have HLL:=hide (And.intro ((ah HB).lt hQ (x:=(w3.heap.size+1,ob)) (by simp)) trivial)
  have L6:=hide ((ah HB).new hQ (.cells #[.int .i64 (at0 / 64),.int .i64 (at0%64),.int .i64 (at0%64+(k:Int)),.int .i64 0] 204))
  clear hQ
  gi_wp2
  refine⟨?_,fun ob'=>?_⟩
  ·exact(ah HB).row (ah L6) (x:=(w3.heap.size+1,ob)) (by simp)
  ·have hpx:w3.heap.size+1<W.heap.size/\∀ x∈(w3.heap.size,Obj.deferred (some []))::(kn,zI (k:Int))::(ka,zI at0)::(kb,zI 64)::(md,.cells #[.slice (some ⟨mq,0,none⟩) k k] 71)::(mq,.cells (madeCells #[.int .u8 0] k) 5)::(mf,.cells (Fc (some ⟨o,0,none⟩) (some ⟨tb,0,none⟩) P j X) 161)::(m5,.cells #[.int .i64 0] 31)::(m4,.cells #[.slice none 0 0] 71)::(m3,zI j)::(m2,.cells (Pc P) 24)::(m1,zC tb 27)::(m0,zC o 28)::rows,x.1≠w3.heap.size+1:=by
    refine⟨?_,fun x hx=>?_⟩
    ·exact(ah HLL).1
    ·rcases List.mem_cons.1 hx with e | e
     ·rw[e];show w3.heap.size≠w3.heap.size+1;omega
     ·have:=ah hlt x e;omega
   have L7:Hid (Q ((w3.heap.size+1,ob')::(W.heap.size,.cells #[.int .i64 (at0 / 64),.int .i64 (at0%64),.int .i64 (at0%64+(k:Int)),.int .i64 0] 204)::(w3.heap.size,.deferred (some []))::(kn,zI (k:Int))::(ka,zI at0)::(kb,zI 64)::(md,.cells #[.slice (some ⟨mq,0,none⟩) k k] 71)::(mq,.cells (madeCells #[.int .u8 0] k) 5)::(mf,.cells (Fc (some ⟨o,0,none⟩) (some ⟨tb,0,none⟩) P j X) 161)::(m5,.cells #[.int .i64 0] 31)::(m4,.cells #[.slice none 0 0] 71)::(m3,zI j)::(m2,.cells (Pc P) 24)::(m1,zC tb 27)::(m0,zC o 28)::rows) ((W.alloc (.cells #[.int .i64 (at0 / 64),.int .i64 (at0%64),.int .i64 (at0%64+(k:Int)),.int .i64 0] 204)).putObj (w3.heap.size+1) ob')):=by
    refine(ah HB).obj ((ah HB).sub (ah L6) (rows':=(w3.heap.size+1,ob)::(W.heap.size,.cells #[.int .i64 (at0 / 64),.int .i64 (at0%64),.int .i64 (at0%64+(k:Int)),.int .i64 0] 204)::(w3.heap.size,.deferred (some []))::(kn,zI (k:Int))::(ka,zI at0)::(kb,zI 64)::(md,.cells #[.slice (some ⟨mq,0,none⟩) k k] 71)::(mq,.cells (madeCells #[.int .u8 0] k) 5)::(mf,.cells (Fc (some ⟨o,0,none⟩) (some ⟨tb,0,none⟩) P j X) 161)::(m5,.cells #[.int .i64 0] 31)::(m4,.cells #[.slice none 0 0] 71)::(m3,zI j)::(m2,.cells (Pc P) 24)::(m1,zC tb 27)::(m0,zC o 28)::rows) (fun x hx=>?_)) (by have:=ah hsz;omega) (fun x hx=>?_) ob'
    ·simp only[List.mem_cons] at hx ⊢
     rcases hx with e | e | e
     ·exact .inr (.inl e)
     ·exact .inl e
     ·exact .inr (.inr e)
    ·rcases List.mem_cons.1 hx with e | e
     ·rw[e];show W.heap.size≠w3.heap.size+1;omega
     ·exact hpx.2 x e
   clear L6 hpx HLL
   change Code.wpIn _ _ _ _ _ _ ((W.alloc (.cells #[.int .i64 (at0 / 64),.int .i64 (at0%64),.int .i64 (at0%64+(k:Int)),.int .i64 0] 204)).putObj (w3.heap.size+1) ob')
   generalize (W.alloc (.cells #[.int .i64 (at0 / 64),.int .i64 (at0%64),.int .i64 (at0%64+(k:Int)),.int .i64 0] 204)).putObj (w3.heap.size+1) ob'=w5 at *
   generalize W.heap.size=px at *
   have y0:=Bl.cell ((ah HB).row (ah L7) (x:=(m0,zC o 28)) (by simp):Bl w5 m0 #[.pointer (some ⟨o,0,none⟩)] 28) 0 _ rfl
   have y1:=Bl.cell ((ah HB).row (ah L7) (x:=(m1,zC tb 27)) (by simp):Bl w5 m1 #[.pointer (some ⟨tb,0,none⟩)] 27) 0 _ rfl
   have y3:=Bl.cell ((ah HB).row (ah L7) (x:=(m3,zI j)) (by simp):Bl w5 m3 #[.int .i64 j] 3) 0 _ rfl
   have yp:=Bl.cell ((ah HB).row (ah L7) (x:=(px,.cells #[.int .i64 (at0 / 64),.int .i64 (at0%64),.int .i64 (at0%64+(k:Int)),.int .i64 0] 204)) (by simp):Bl w5 px #[.int .i64 (at0 / 64),.int .i64 (at0%64),.int .i64 (at0%64+(k:Int)),.int .i64 0] 204) 0 _ rfl
   have K8:=hide (ah HKF _ w5 (fun x hx=>by simp[hx]) (ah L7))
   clear L7
   gi_wp2
   refine⟨trivial,?_⟩
   refine(CallsIn.inRound (w3.heap.size+1) (callsIn_wide.2 (ah K8))).mono ?_
   rintro e w6 ⟨rfl,L8⟩
   have K9:=hide (wR (ah HB) (ah L8) (fg:=mf) (o:=o) (cs:=(Fc (some ⟨o,0,none⟩) (some ⟨tb,0,none⟩) P j X)) (ty:=161) (by simp) rfl (by show some (Value.int .i64 (P 0))=_;rw[ah HP]) (b:Int) zs (fun v hv=>ah HKR _ v (fun x hx=>by simp[hx]) hv))
   have d0:((b:Int)==0)=false:=by simp;omega
   clear K8 L8 y0 y1 y3 yp
   gi_wp2
   refine⟨trivial,?_⟩
   refine(CallsIn.inRound (w3.heap.size+1) (callsIn_wide.2 (ah K9))).mono ?_
   rintro e w7 ⟨kk,c,rfl,Y⟩
   clear K9
   obtain⟨ob,d1,k1,L9⟩:=ah Y
   have yd:=Bl.cell ((ah HB).row L9 (x:=(md,.cells #[.slice (some ⟨mq,0,none⟩) k k] 71)) (by simp):Bl w7 md #[.slice (some ⟨mq,0,none⟩) k k] 71) 0 _ rfl
   have bp:Bl w7 px #[.int .i64 (at0 / 64),.int .i64 (at0%64),.int .i64 (at0%64+(k:Int)),.int .i64 0] 204:=(ah HB).row L9 (x:=(px,.cells #[.int .i64 (at0 / 64),.int .i64 (at0%64),.int .i64 (at0%64+(k:Int)),.int .i64 0] 204)) (by simp)
   have p1:=bp.cell 1 _ rfl
   have p2:=bp.cell 2 _ rfl
   have p3:=bp.cell 3 _ rfl
   have HL9:=hide L9
   have HD:=hide (And.intro d1 k1)
   have hcc:64<=c/\c<=maxLen:=by obtain⟨cur,_,_,_,h3,h4,_⟩:=d1;exact⟨h3,h4⟩
   obtain⟨l,hl⟩:∃ l:Nat,at0%64=(l:Int):=⟨(at0%64).toNat,by omega⟩
   have hs1:∀ u,(Instr.slice 71 (.slice (some ⟨mq,0,none⟩) k k) (some (.int .i64 0)) none none).run Tryz.prog u=.ok (.slice (cutAt (some ⟨mq,0,none⟩) k 0) k k) u:=fun u=>jq (some ⟨mq,0,none⟩) k k 0 (by omega) u
   have hs2:∀ u,(Instr.slice 71 (.slice (some ⟨kk,0,none⟩) 64 c) (some (.int .i64 (at0%64))) (some (.int .i64 (at0%64+(k:Int)))) none).run Tryz.prog u=.ok (.slice (cutAt (some ⟨kk,0,none⟩) c l) k (c - l)) u:=fun u=>by rw[hl];exact iH (some ⟨kk,0,none⟩) 64 c l k (by omega) u
   have hc3:Hid (∀ nq ty,(Builtin.copy_ #[71,71] ty #[.slice (cutAt (some ⟨mq,0,none⟩) k 0) k k,.slice (cutAt (some ⟨kk,0,none⟩) c l) k (c - l)]).run Tryz.prog (w7.drewN nq)=.ok (goInt k) ((w7.drewN nq).setRow mq (((zs.drop l).take k).map (Value.int .u8)).toArray)):=fun nq ty=>by
    have hk:Bl (w7.drewN nq) mq (madeCells #[.int .u8 0] k) 5:=(ah HB).row ((ah HB).later L9 (below_drewN (Below.refl _ _) nq)) (x:=(mq,.cells (madeCells #[.int .u8 0] k) 5)) (by simp)
    have hh:Has (w7.drewN nq) (some ⟨kk,0,none⟩) 64 zs:=d1.has ((ah HB).row ((ah HB).later L9 (below_drewN (Below.refl _ _) nq)) (x:=(kk,ob)) (by simp))
    have:=aaK (c:=k) (dn:=k) (dc:=k) (c2:=c - l) (at0:=0) hk (size_madeCells _ _) (hh.cut hcc.1 (l:=l) (k:=k) (by omega)) hk0 (Nat.le_refl _) (by omega) ty
    have e1:List.drop (0+k) (List.replicate k (Value.int .u8 0))=[]:=List.drop_eq_nil_of_le (by simp)
    rw[this,toList_madeCells_one,e1,List.take_zero,List.nil_append,List.append_nil]
   generalize cutAt (some ⟨mq,0,none⟩) k 0=q1 at *
   generalize cutAt (some ⟨kk,0,none⟩) c l=q2 at *
   obtain⟨r1,hr1⟩:∃ r1,r1=at0%64:=⟨_,rfl⟩
   obtain⟨r2,hr2⟩:∃ r2,r2=at0%64+(k:Int):=⟨_,rfl⟩
   rw[← hr2] at p2 hs2
   rw[← hr1] at p1 hs2
   have HR:=hide (And.intro hr1 hr2)
   clear hr1 hr2
   generalize c - l=cl at *
   have Hl:=hide hl
   clear L9 d1 k1 Y bp hl hcc
   gi_wp2
   refine jf 10 (by kernel_rfl) (by kernel_rfl) ?_
   simp only[List.take_succ_cons,List.take_zero,List.drop_succ_cons,List.drop_zero]
   repeat (gi_big_quiet_step (fail))
   refine wpQuietIn_nil ?_
   rintro _ ⟨nq,rfl⟩
   have hc4:=ah hc3 nq
   have L10:Hid (Q ((w3.heap.size+1,ob')::(w3.heap.size,.deferred (some []))::(kn,zI (k:Int))::(mq,.cells (((zs.drop (at0%64).toNat).take k).map (Value.int .u8)).toArray 5)::(md,.cells #[.slice (some ⟨mq,0,none⟩) k k] 71)::(m5,.cells #[.int .i64 0] 31)::(m4,.cells #[.slice none 0 0] 71)::rows) ((w7.drewN nq).setRow mq (((zs.drop l).take k).map (Value.int .u8)).toArray)):=by
    have el:(at0%64).toNat=l:=by have:=ah Hl;omega
    rw[el]
    obtain⟨o1,o2⟩:=ah HM1
    have o3:=ah HM2
    obtain⟨o4,o5⟩:=ah HM3
    have o6:=ah HM4
    obtain⟨o7,o8⟩:=ah HS
    have hkn:kn<w3.heap.size:=ah hlt (kn,zI (k:Int)) (by simp)
    have t1:=(ah HB).whole ((ah HB).sub ((ah HB).later (ah HL9) (below_drewN (Below.refl _ _) nq)) (rows':=(mq,.cells (madeCells #[.int .u8 0] k) 5)::(w3.heap.size+1,ob')::(w3.heap.size,.deferred (some []))::(kn,zI (k:Int))::(md,.cells #[.slice (some ⟨mq,0,none⟩) k k] 71)::(m5,.cells #[.int .i64 0] 31)::(m4,.cells #[.slice none 0 0] 71)::rows) (fun x hx=>by simp only[List.mem_cons] at hx ⊢;rcases hx with e | e | e | e | e | e | e | e<;>simp[e])) (by omega) (fun x hx=>by
     simp only[List.mem_cons] at hx
     rcases hx with e | e | e | e | e | e | e
     ·rw[e];show w3.heap.size+1≠mq;omega
     ·rw[e];show w3.heap.size≠mq;omega
     ·rw[e];show kn≠mq;omega
     ·rw[e];show md≠mq;omega
     ·rw[e];show m5≠mq;omega
     ·rw[e];show m4≠mq;omega
     ·have:=o8 x e;omega) (((zs.drop l).take k).map (Value.int .u8)).toArray
    exact(ah HB).sub t1 (fun x hx=>by simp only[List.mem_cons] at hx ⊢;rcases hx with e | e | e | e | e | e | e | e<;>simp[e])
   clear hc3 HL9
   generalize (w7.drewN nq).setRow mq (((zs.drop l).take k).map (Value.int .u8)).toArray=w8 at *
   gi_wp2
   have:=ah L10
   simp only[List.map_take,List.map_drop] at this
   exact this
 ·intro ob W hS
  exact(ah HB).row hS (x:=(w3.heap.size+1,ob)) (by simp)
 ·intro ob ob' W hS
  refine(ah HB).obj hS (by have:=ah hsz;omega) (fun x hx=>?_) ob'
  rcases List.mem_cons.1 hx with e | e
  ·rw[e];show w3.heap.size≠w3.heap.size+1;omega
  ·have:x.1<w3.heap.size:=by
    simp only[List.mem_cons] at e
    rcases e with e | e | e | e | e | e
    ·exact ah hlt (kn,zI (k:Int)) (by simp) |> fun q=>by rw[e];exact q
    ·exact ah hlt (mq,.cells (madeCells #[.int .u8 0] k) 5) (by simp) |> fun q=>by rw[e];exact q
    ·exact ah hlt (md,.cells #[.slice (some ⟨mq,0,none⟩) k k] 71) (by simp) |> fun q=>by rw[e];exact q
    ·exact ah hlt (m5,.cells #[.int .i64 0] 31) (by simp) |> fun q=>by rw[e];exact q
    ·exact ah hlt (m4,.cells #[.slice none 0 0] 71) (by simp) |> fun q=>by rw[e];exact q
    ·exact ah hlt x (by simp[e])
   omega
 ·intro ob W hS
  exact Bl.cell ((ah HB).row hS (x:=(kn,zI (k:Int))) (by simp):Bl W kn #[.int .i64 (k:Int)] 3) 0 _ rfl
 ·intro ob W hS
  have hkn:kn<w3.heap.size:=ah hlt (kn,zI (k:Int)) (by simp)
  obtain⟨o1,o2⟩:=ah HM1
  have o3:=ah HM2
  obtain⟨o4,o5⟩:=ah HM3
  have o6:=ah HM4
  obtain⟨o7,o8⟩:=ah HS
  have dne:∀ x∈rows,x.1≠m4/\x.1≠m5/\x.1≠w3.heap.size:=fun x hx=>by
   have:=o8 x hx
   omega
  have d4:Bl W m4 #[.slice none 0 0] 71:=(ah HB).row hS (x:=(m4,.cells #[.slice none 0 0] 71)) (by simp)
  have d5:Bl W m5 #[.int .i64 0] 31:=(ah HB).row hS (x:=(m5,.cells #[.int .i64 0] 31)) (by simp)
  have yd:=Bl.cell ((ah HB).row hS (x:=(md,.cells #[.slice (some ⟨mq,0,none⟩) k k] 71)) (by simp):Bl W md #[.slice (some ⟨mq,0,none⟩) k k] 71) 0 _ rfl
  have L10:=(ah HB).put ((ah HB).sub hS (rows':=(m4,.cells #[.slice none 0 0] 71)::(m5,.cells #[.int .i64 0] 31)::(w3.heap.size,.deferred (some []))::(mq,.cells (((zs.drop (at0%64).toNat).take k).map (Value.int .u8)).toArray 5)::rows) (fun x hx=>by simp only[List.mem_cons] at hx ⊢;rcases hx with e | e | e | e | e<;>simp[e])) (by omega) (fun x hx=>by
   simp only[List.mem_cons] at hx
   rcases hx with e | e | e | e
   ·rw[e];show m5≠m4;omega
   ·rw[e];show w3.heap.size≠m4;omega
   ·rw[e];show mq≠m4;omega
   ·exact(dne x e).1) 0 (.slice (some ⟨mq,0,none⟩) k k)
  have L11:=(ah HB).put ((ah HB).sub L10 (rows':=(m5,.cells #[.int .i64 0] 31)::(m4,.cells #[.slice (some ⟨mq,0,none⟩) k k] 71)::(w3.heap.size,.deferred (some []))::(mq,.cells (((zs.drop (at0%64).toNat).take k).map (Value.int .u8)).toArray 5)::rows) (fun x hx=>by simp only[List.mem_cons] at hx ⊢;rcases hx with e | e | e | e | e<;>simp[e])) (by omega) (fun x hx=>by
   simp only[List.mem_cons] at hx
   rcases hx with e | e | e | e
   ·rw[e];show m4≠m5;omega
   ·rw[e];show w3.heap.size≠m5;omega
   ·rw[e];show mq≠m5;omega
   ·exact(dne x e).2.1) 0 (.int .i64 0)
  have y4:=d4.cell 0 _ rfl
  have z4:=d4.free 0
  have d5':Bl (W.setCell ⟨m4,0,none⟩ (.slice (some ⟨mq,0,none⟩) k k)) m5 #[.int .i64 0] 31:=(ah HB).row L10 (x:=(m5,.cells #[.int .i64 0] 31)) (by simp)
  have y5:=d5'.cell 0 _ rfl
  have z5:=d5'.free 0
  have HKD:Hid (((W.setCell ⟨m4,0,none⟩ (.slice (some ⟨mq,0,none⟩) k k)).setCell ⟨m5,0,none⟩ (.int .i64 0)).heap[w3.heap.size]?=some (.deferred (some []))):=(ah HB).row L11 (x:=(w3.heap.size,.deferred (some []))) (by simp)
  have L12:Hid (Q ((w3.heap.size,.deferred none)::(m5,.cells #[.int .i64 0] 31)::(m4,.cells #[.slice (some ⟨mq,0,none⟩) k k] 71)::(mq,.cells (((zs.drop (at0%64).toNat).take k).map (Value.int .u8)).toArray 5)::rows) (((W.setCell ⟨m4,0,none⟩ (.slice (some ⟨mq,0,none⟩) k k)).setCell ⟨m5,0,none⟩ (.int .i64 0)).putObj w3.heap.size (.deferred none))):=(ah HB).obj ((ah HB).sub L11 (rows':=(w3.heap.size,.deferred (some []))::(m5,.cells #[.int .i64 0] 31)::(m4,.cells #[.slice (some ⟨mq,0,none⟩) k k] 71)::(mq,.cells (((zs.drop (at0%64).toNat).take k).map (Value.int .u8)).toArray 5)::rows) (fun x hx=>by simp only[List.mem_cons] at hx ⊢;rcases hx with e | e | e | e | e<;>simp[e])) (ah hsz) (fun x hx=>by
   simp only[List.mem_cons] at hx
   rcases hx with e | e | e | e
   ·rw[e];show m5≠w3.heap.size;omega
   ·rw[e];show m4≠w3.heap.size;omega
   ·rw[e];show mq≠w3.heap.size;omega
   ·exact(dne x e).2.2) (.deferred none)
  clear hS L10 L11 d4 d5 d5' dne
  gi_wp2
  refine⟨by simp,.inl ⟨_,_,rfl,run_takeDeferred (ah HKD),?_⟩⟩
  refine⟨.tuple #[.slice (some ⟨mq,0,none⟩) k k,.int .i64 0],?_,mq,rfl,?_⟩
  ·have f4:=Bl.cell ((ah HB).row (ah L12) (x:=(m4,.cells #[.slice (some ⟨mq,0,none⟩) k k] 71)) (by simp)) 0 _ rfl
   have f5:=Bl.cell ((ah HB).row (ah L12) (x:=(m5,.cells #[.int .i64 0] 31)) (by simp)) 0 _ rfl
   simp[results,Tryz.results88,go_sem,f4,f5]
  ·exact hide ((ah HB).sub (ah L12) (fun x hx=>by simp only[List.mem_cons] at hx ⊢;rcases hx with e | e<;>simp[e]))
end Go.Proofs.YtefdkpbmeoakgaaGreatDoor
