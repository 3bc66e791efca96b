/- Joined: FRoom, FWrite, FWk, EWk, FNone, ENone. -/
import Derived.Test.YtefdkpbmeoakgaaGreatDoorDnJ50
import Derived.Test.YtefdkpbmeoakgaaGreatDoorDnJ2
import Derived.Sort.QuietIn
import Derived.Test.YtefdkpbmeoakgaaGreatDoorDnJ43
import Derived.Test.YtefdkpbmeoakgaaGreatDoorDnFRead
import Derived.Test.YtefdkpbmeoakgaaGreatDoorDnJ40
import Derived.Test.YtefdkpbmeoakgaaGreatDoorDnJ39
import Derived.Test.YtefdkpbmeoakgaaGreatDoorDnJ37
import Derived.Lib.SlBytesConst
import Derived.Test.YtefdkpbmeoakgaaGreatDoorDnJ22
/- unused and room: a Write that lacks one block. Written by tools/aj6.py. -/
namespace Go.Proofs.YtefdkpbmeoakgaaGreatDoor
set_option maxRecDepth 100000
set_option maxHeartbeats 8000000
open Go.RowKit Go.Shelf Go.Maps
set_option linter.unusedVariables false
attribute [local go_sem] Oper.semAt_some
theorem aib {n0 Q}(hq:Bun n0 Q){rows:List (Nat×Obj)}{u:World}{mw mm o tb:Nat}{P:Nat->Int}{j:Int}{X:Nat->Int}{ch bf:Value}{n:Nat}{xs:List Value}(h:LsQ n0 Q 175 2 bf n xs ((mw,.cells (Wc o tb P j X ch mm bf) 169)::rows) u)(hmw:n0<=mw)(hnr:∀ x∈rows,x.1≠mw)(hP:P 0=64/\P 1=90/\P 7=33/\P 11=37)(zs:List Int)(hzb:∀ z∈zs,0<=z/\z<=255)(us:Int)(hus:bcv 64 zs 37 90=us)(hu:0<=us/\us<=53)(hx:n=0\/n=1/\∃ bl dv,xs=[.int .i64 bl,dv]/\dv.oneCell'=true/\bl≠((33:Nat):Int))(m:Int)
  (KR:∀ rows' v,(∀ x∈rows,x∈rows')->Q rows' v->Calls Tryz.prog 83 #[.pointer (some ⟨o,0,none⟩),.int .i64 ((33:Nat):Int)] v fun e v'=>∃ k c,e=.returned (.tuple #[.slice (some ⟨k,0,none⟩) 64 c,.int .i64 0])/\Hid (∃ ob,Dr c 64 zs ob/\v.heap.size<=k/\Q ((k,ob)::rows') v')) :
  Calls Tryz.prog 140 #[.pointer (some ⟨mw,0,none⟩),.int .i64 m] u fun e v=>e=.returned (.int .i64 (53 - us))/\Hid (∃ bf',Q ((mw,.cells (Wc o tb P j X ch mm bf') 169)::rows) v):=by
 have HB:=hide hq
 have HP:=hide hP
 have HN:=hide (And.intro hmw hnr)
 have L0:=hide (h.q hq)
 have LS:=hide h
 have KK:Hid (∀ v,LsQ n0 Q 175 2 bf n xs ((mw,.cells (Wc o tb P j X ch mm bf) 169)::rows) v->Calls Tryz.prog 139 #[.pointer (some ⟨mw,0,none⟩),.int .i64 33] v fun e v'=>∃ kb c,e=.returned (.tuple #[.slice (some ⟨kb,0,none⟩) 64 c,.int .i64 0])/\Hid (∃ ob bf',Dr c 64 zs ob/\Q ((kb,ob)::(mw,.cells (Wc o tb P j X ch mm bf') 169)::rows) v')):=fun v hv=>by
  refine(wU hq hv hmw hnr hP.1 33 zs hx KR).mono ?_
  rintro e v' ⟨kb,c,rfl,Y⟩
  obtain⟨ob,bf',d1,_,q1⟩:=ah Y
  exact⟨kb,c,rfl,ob,bf',d1,q1.q hq⟩
 have HZ:=hide (And.intro hzb (And.intro hus hu))
 clear h hmw hnr hP KR hx hus hzb hu hq
 have f0:=Bl.cell ((ah HB).row (ah L0) (x:=(mw,.cells (Wc o tb P j X ch mm bf) 169)) (by simp)) 2 (.int .i64 (P 0)) rfl
 have f1:=Bl.cell ((ah HB).row (ah L0) (x:=(mw,.cells (Wc o tb P j X ch mm bf) 169)) (by simp)) 3 (.int .i64 (P 1)) rfl
 have f7:=Bl.cell ((ah HB).row (ah L0) (x:=(mw,.cells (Wc o tb P j X ch mm bf) 169)) (by simp)) 9 (.int .i64 (P 7)) rfl
 have f11:=Bl.cell ((ah HB).row (ah L0) (x:=(mw,.cells (Wc o tb P j X ch mm bf) 169)) (by simp)) 13 (.int .i64 (P 11)) rfl
 rw[(ah HP).1] at f0
 rw[(ah HP).2.1] at f1
 rw[(ah HP).2.2.1] at f7
 rw[(ah HP).2.2.2] at f11
 refine(callsIn_wide (n:=3)).1 ?_
 refine callsIn_of_wp Tryz.func140 rfl trivial ?_ rfl
 simp only[Tryz.ntmps140,List.size_toArray,List.length_cons,List.length_nil,Nat.reduceAdd,Nat.reduceSub,Array.replicate_succ,Array.replicate_zero,List.push_toArray,List.append_toArray,List.nil_append,List.cons_append]
 gi_upto_region 2 with fail
 gi_big_quiet_th (fail)
 have L1:=hide ((ah LS).later (ah HB) (below_drewN (Below.refl _ _) nq))
 clear f0 f1 f7 f11 L0 LS
 generalize u.drewN nq=w1 at *
 gi_wp2
 gi_loopw [6,7] (fun sv tv wr=>(sv=.int .i64 0/\tv=.int .i64 0/\Hid (LsQ n0 Q 175 2 bf n xs ((mw,.cells (Wc o tb P j X ch mm bf) 169)::rows) wr))\/(sv=.int .i64 (53 - us)/\tv=.int .i64 512/\Hid (∃ bf',Q ((mw,.cells (Wc o tb P j X ch mm bf') 169)::rows) wr))) (fun _ tv _=>(512 - intOf tv).toNat)
 case atStart=>exact .inl ⟨by go_num,by go_num,L1⟩
 case round =>
  rcases hrel with ⟨rfl,rfl,L2⟩ | ⟨rfl,rfl,L2⟩
  ·have Q2:=(ah L2).q (ah HB)
   have f0:=Bl.cell ((ah HB).row Q2 (x:=(mw,.cells (Wc o tb P j X ch mm bf) 169)) (by simp)) 2 (.int .i64 (P 0)) rfl
   have f1:=Bl.cell ((ah HB).row Q2 (x:=(mw,.cells (Wc o tb P j X ch mm bf) 169)) (by simp)) 3 (.int .i64 (P 1)) rfl
   have f7:=Bl.cell ((ah HB).row Q2 (x:=(mw,.cells (Wc o tb P j X ch mm bf) 169)) (by simp)) 9 (.int .i64 (P 7)) rfl
   have f11:=Bl.cell ((ah HB).row Q2 (x:=(mw,.cells (Wc o tb P j X ch mm bf) 169)) (by simp)) 13 (.int .i64 (P 11)) rfl
   rw[(ah HP).1] at f0
   rw[(ah HP).2.1] at f1
   rw[(ah HP).2.2.1] at f7
   rw[(ah HP).2.2.2] at f11
   clear Q2
   gi_wp2
   refine aK 11 (by kernel_rfl) (by kernel_rfl) ?_
   simp only[List.take_succ_cons,List.take_zero,List.drop_succ_cons,List.drop_zero]
   repeat (gi_big_quiet_step (fail))
   refine wpQuietIn_nil ?_
   rintro _ ⟨nq3,rfl⟩
   have K3:=hide (ah KK _ ((ah L2).later (ah HB) (below_drewN (Below.refl _ _) nq3)))
   generalize wr.drewN nq3=w3 at *
   clear f0 f1 f7 f11 L2
   gi_wp2
   refine⟨trivial,?_⟩
   refine(callsIn_wide.2 (ah K3)).mono ?_
   rintro e w4 ⟨kb,c,rfl,Y⟩
   clear K3
   gi_wp2
   refine ay ?_
   repeat (gi_big_quiet_step (fail))
   refine wpQuietIn_nil ?_
   rintro _ ⟨nq4,rfl⟩
   obtain⟨ob,bf',d1,q1⟩:=ah Y
   have L4:=hide ((ah HB).later q1 (below_drewN (Below.refl _ _) nq4))
   have HD:=hide d1
   clear Y d1 q1
   generalize w4.drewN nq4=w5 at *
   have f0:=Bl.cell ((ah HB).row (ah L4) (x:=(mw,.cells (Wc o tb P j X ch mm bf') 169)) (by simp)) 2 (.int .i64 (P 0)) rfl
   have f1:=Bl.cell ((ah HB).row (ah L4) (x:=(mw,.cells (Wc o tb P j X ch mm bf') 169)) (by simp)) 3 (.int .i64 (P 1)) rfl
   have f7:=Bl.cell ((ah HB).row (ah L4) (x:=(mw,.cells (Wc o tb P j X ch mm bf') 169)) (by simp)) 9 (.int .i64 (P 7)) rfl
   have f11:=Bl.cell ((ah HB).row (ah L4) (x:=(mw,.cells (Wc o tb P j X ch mm bf') 169)) (by simp)) 13 (.int .i64 (P 11)) rfl
   rw[(ah HP).1] at f0
   rw[(ah HP).2.1] at f1
   rw[(ah HP).2.2.1] at f7
   rw[(ah HP).2.2.2] at f11
   gi_upto_region 8 with fail
   gi_big_quiet_th (fail)
   have L5:=hide ((ah HB).later (ah L4) (below_drewN (Below.refl _ _) nq))
   clear L4 f0 f1 f7 f11
   generalize w5.drewN nq=w6 at *
   have K6:=hide (count_any (some ⟨kb,0,none⟩) 64 c zs 37 90 w6 ((ah HD).has ((ah HB).row (ah L5) (x:=(kb,ob)) (by simp))) (ah HZ).1 (by omega))
   rw[(ah HZ).2.1] at K6
   obtain⟨u1,u2⟩:=(ah HZ).2.2
   gi_wp2
   refine⟨trivial,?_⟩
   refine(callsIn_wide.2 (ah K6)).mono ?_
   rintro e w7 ⟨rfl,m7,rfl⟩
   have L7:Hid (∃ bf',Q ((mw,.cells (Wc o tb P j X ch mm bf') 169)::rows) (w6.drewN m7)):=⟨bf',(ah HB).pop ((ah HB).later (ah L5) (below_drewN (Below.refl _ _) m7))⟩
   clear K6 L5
   generalize w6.drewN m7=w8 at *
   gi_wp2
   go_roundw
   case rel=>exact .inr ⟨by go_num,by go_num,L7⟩
   case measure=>simp[intOf]
  ·obtain⟨bf',q2⟩:=ah L2
   have f0:=Bl.cell ((ah HB).row q2 (x:=(mw,.cells (Wc o tb P j X ch mm bf') 169)) (by simp)) 2 (.int .i64 (P 0)) rfl
   have f1:=Bl.cell ((ah HB).row q2 (x:=(mw,.cells (Wc o tb P j X ch mm bf') 169)) (by simp)) 3 (.int .i64 (P 1)) rfl
   have f7:=Bl.cell ((ah HB).row q2 (x:=(mw,.cells (Wc o tb P j X ch mm bf') 169)) (by simp)) 9 (.int .i64 (P 7)) rfl
   have f11:=Bl.cell ((ah HB).row q2 (x:=(mw,.cells (Wc o tb P j X ch mm bf') 169)) (by simp)) 13 (.int .i64 (P 11)) rfl
   rw[(ah HP).1] at f0
   rw[(ah HP).2.1] at f1
   rw[(ah HP).2.2.1] at f7
   rw[(ah HP).2.2.2] at f11
   clear q2
   gi_wp2
   go_ret
   exact⟨rfl,L2⟩
theorem LsQ.sub {n0 Q}(hq:Bun n0 Q){e:TypeId}{size:Nat}{val:Value}{n:Nat}{xs:List Value}{rows eH:List (Nat×Obj)}{v:World}(h:LsQ n0 Q e size val n xs rows v)(hs:∀ x∈eH,x∈rows):LsQ n0 Q e size val n xs eH v:=by
 rcases h with ⟨a,b,c,h⟩ | ⟨g,c,cur,h1,h2,h3,h4,h5,h6,h7,h8,h9⟩
 ·exact .inl ⟨a,b,c,hq.sub h hs⟩
 ·exact .inr ⟨g,c,cur,h1,h2,fun x hx=>h3 x (hs x hx),h4,h5,h6,h7,h8,hq.sub h9 (fun x hx=>by
   rcases List.mem_cons.1 hx with e | e
   ·rw[e];simp
   ·exact List.mem_cons_of_mem _ (hs x e))⟩
theorem adW {n0 Q}(hq:Bun n0 Q){rows:List (Nat×Obj)}{u:World}{mw mm o tb:Nat}{P:Nat->Int}{j:Int}{X:Nat->Int}{ch:Value}{me:MapEntry}(h:Q ((mm,.map #[me] 1)::(mw,.cells (Wc o tb P j X ch mm (.slice none 0 0)) 169)::rows) u)(hmw:n0<=mw)(hne:mm≠mw)(hnr:∀ x∈rows,x.1≠mw)(hP:P 0=64/\P 1=90/\P 7=33/\P 11=37)(pb pa:Int)(hpl:jJ P j=0/\oL P j=((35:Nat):Int)/\oM P j=pa)(zs ys:List Int)(hzb:∀ z∈zs,0<=z/\z<=255)(us:Int)(hus:bcv 64 zs 37 90=us)(hu:0<=us/\us<53)
  (KR:∀ rows' v,(∀ x∈rows,x∈rows')->Q rows' v->Calls Tryz.prog 83 #[.pointer (some ⟨o,0,none⟩),.int .i64 ((33:Nat):Int)] v fun e v'=>∃ k c,e=.returned (.tuple #[.slice (some ⟨k,0,none⟩) 64 c,.int .i64 0])/\Hid (∃ ob,Dr c 64 zs ob/\v.heap.size<=k/\Q ((k,ob)::rows') v'))
  (KS:∀ rows' v,(∀ x∈rows,x∈rows')->Q rows' v->Calls Tryz.prog 83 #[.pointer (some ⟨o,0,none⟩),.int .i64 ((35:Nat):Int)] v fun e v'=>∃ k c,e=.returned (.tuple #[.slice (some ⟨k,0,none⟩) 64 c,.int .i64 0])/\Hid (∃ ob,Dr c 64 ys ob/\v.heap.size<=k/\Q ((k,ob)::rows') v')) :
  Calls Tryz.prog 94 #[.pointer (some ⟨mw,0,none⟩)] u fun e v=>e=.returned (.int .i64 0)/\Hid (∃ bf',Q ((mw,.cells (Wc o tb P j X ch mm bf') 169)::(mm,.map #[me] 1)::rows) v):=by
 have HB:=hide hq
 have KP:Hid (∀ v,Calls Tryz.prog 48 #[Pv P,.int .i64 j] v fun e w'=>e=.returned (.tuple #[.int .i64 35,.int .i64 pa,.int .i64 0])/\Below v.heap.size v w'):=fun v=>by
  have:=iI P j v
  rwa [hpl.1,hpl.2.1,hpl.2.2] at this
 have KK:Hid (∀ v,Q ((mm,.map #[me] 1)::(mw,.cells (Wc o tb P j X ch mm (.slice none 0 0)) 169)::rows) v->Calls Tryz.prog 139 #[.pointer (some ⟨mw,0,none⟩),.int .i64 35] v fun e v'=>∃ kb c,e=.returned (.tuple #[.slice (some ⟨kb,0,none⟩) 64 c,.int .i64 0])/\Hid (Calls Tryz.prog 140 #[.pointer (some ⟨mw,0,none⟩),.int .i64 1] v' fun e v=>e=.returned (.int .i64 (53 - us))/\Hid (∃ bf',Q ((mw,.cells (Wc o tb P j X ch mm bf') 169)::(mm,.map #[me] 1)::rows) v))):=fun v hv=>by
  have hv0:LsQ n0 Q 175 2 (.slice none 0 0) 0 [] ((mw,.cells (Wc o tb P j X ch mm (.slice none 0 0)) 169)::(mm,.map #[me] 1)::rows) v:=.inl ⟨rfl,rfl,rfl,hq.sub hv (fun x hx=>by simp only[List.mem_cons] at hx ⊢;rcases hx with e | e | e<;>simp[e])⟩
  have akT:∀ x∈(mm,Obj.map #[me] 1)::rows,x.1≠mw:=fun x hx=>by
   rcases List.mem_cons.1 hx with e | e
   ·rw[e];exact hne
   ·exact hnr x e
  refine(wU hq hv0 hmw akT hP.1 35 ys (.inl rfl) (fun rows' v' hs hv'=>KS rows' v' (fun x hx=>hs x (List.mem_cons_of_mem _ hx)) hv')).mono ?_
  rintro e v' ⟨kb,c,rfl,Y⟩
  obtain⟨ob,bf',d1,_,q1⟩:=ah Y
  refine⟨kb,c,rfl,?_⟩
  exact aib hq (q1.sub hq (eH:=(mw,.cells (Wc o tb P j X ch mm bf') 169)::(mm,.map #[me] 1)::rows) (fun x hx=>List.mem_cons_of_mem _ hx)) hmw akT hP zs hzb us hus ⟨hu.1,by omega⟩ (.inr ⟨rfl,((35:Nat):Int),.slice (some ⟨kb,0,none⟩) 64 c,rfl,rfl,by omega⟩) 1 (fun rows' v' hs hv'=>KR rows' v' (fun x hx=>hs x (List.mem_cons_of_mem _ hx)) hv')
 have L0:=hide h
 have bw:Bl u mw (Wc o tb P j X ch mm (.slice none 0 0)) 169:=hq.row h (x:=(mw,.cells (Wc o tb P j X ch mm (.slice none 0 0)) 169)) (by simp)
 have p0:=bw.cell 2 (.int .i64 (P 0)) rfl
 have p1:=bw.cell 3 (.int .i64 (P 1)) rfl
 have p2:=bw.cell 4 (.int .i64 (P 2)) rfl
 have p3:=bw.cell 5 (.int .i64 (P 3)) rfl
 have p4:=bw.cell 6 (.int .i64 (P 4)) rfl
 have p5:=bw.cell 7 (.int .i64 (P 5)) rfl
 have p6:=bw.cell 8 (.int .i64 (P 6)) rfl
 have p7:=bw.cell 9 (.int .i64 (P 7)) rfl
 have p8:=bw.cell 10 (.int .i64 (P 8)) rfl
 have p9:=bw.cell 11 (.int .i64 (P 9)) rfl
 have p10:=bw.cell 12 (.int .i64 (P 10)) rfl
 have p11:=bw.cell 13 (.int .i64 (P 11)) rfl
 have f14:=bw.cell 14 (.int .i64 j) rfl
 have f29:=bw.cell 29 (.map (some mm)) rfl
 have hlen:∀ ty,(Builtin.len_ #[165] ty #[.map (some mm)]).run Tryz.prog u=.ok (.int .i64 1) u:=ab4 u mm me (hq.row h (x:=(mm,.map #[me] 1)) (by simp))
 have HU:=hide hu
 clear hq h hmw hne hnr hP hpl KR KS hus hu hzb bw
 refine(callsIn_wide (n:=3)).1 ?_
 refine callsIn_of_wp Tryz.func94 rfl trivial ?_ rfl
 simp only[Tryz.ntmps94,List.size_toArray,List.length_cons,List.length_nil,Nat.reduceAdd,Nat.reduceSub,Array.replicate_succ,Array.replicate_zero,List.push_toArray,List.append_toArray,List.nil_append,List.cons_append]
 gi_wp2
 refine aK 10 (by kernel_rfl) (by kernel_rfl) ?_
 simp only[List.take_succ_cons,List.take_zero,List.drop_succ_cons,List.drop_zero]
 repeat (gi_big_quiet_step (fail))
 refine wpQuietIn_nil ?_
 rintro _ ⟨nq,rfl⟩
 have L1:=hide ((ah HB).later (ah L0) (below_drewN (Below.refl _ _) nq))
 generalize u.drewN nq=w1 at *
 clear L0 p0 p1 p2 p3 p4 p5 p6 p7 p8 p9 p10 p11 f14 f29 hlen
 gi_wp2
 refine⟨trivial,?_⟩
 refine(callsIn_wide.2 (ah KP w1)).mono ?_
 rintro e w2 ⟨rfl,hb2⟩
 have L2:=hide ((ah HB).later (ah L1) hb2)
 clear KP L1 hb2
 gi_wp2
 refine ay ?_
 repeat (gi_big_quiet_step (fail))
 refine wpQuietIn_nil ?_
 rintro _ ⟨nq2,rfl⟩
 have L3:=(ah HB).later (ah L2) (below_drewN (Below.refl _ _) nq2)
 have K3:=hide (ah KK _ L3)
 clear L2 L3 KK
 generalize w2.drewN nq2=w3 at *
 gi_wp2
 refine⟨trivial,?_⟩
 refine(callsIn_wide.2 (ah K3)).mono ?_
 rintro e w4 ⟨kb,c,rfl,K4⟩
 clear K3
 gi_wp2
 refine⟨trivial,?_⟩
 refine(callsIn_wide.2 (ah K4)).mono ?_
 rintro e w5 ⟨rfl,L5⟩
 obtain⟨u1,u2⟩:=ah HU
 clear K4
 gi_wp2
 go_ret
 exact⟨rfl,L5⟩
theorem abL {n0}{Q Q1 Q2 Q3:List (Nat×Obj)->World->Prop}(hq:Bun n0 Q)(hq1:Bun n0 Q1)(hq2:Bun n0 Q2)(hq3:Bun n0 Q3){rows:List (Nat×Obj)}{u:World}(h:Q rows u)(P:Nat->Int)(o tb:Nat)(j:Int)(X Y:Nat->Int)(at0:Int)(k l dl dc:Nat)(da:Option Addr)(ys:List Int)(hP:P 0=64/\P 1=90/\P 7=33/\P 11=37)(hc:bH P=0)(ha:0<=at0/\at0<=1000000)(hk:at0 / 64=(k:Int))(hl:at0%64=(l:Int))(hk8:k<8)(hd:0<dl)(hfit:l+dl<=64)(hdc:dl<=dc)(hm:¬ mfb P<=(k:Int))(he:¬ P 0*mfb P - (dl:Int)<at0)(hX:X (3+k)=0)(hX2:0<=X 2/\X 2<=1000000/\at0 / 64<=X 2 / 64/\X 2<at0+(dl:Int))(pa:Int)(hpl:jJ P j=0/\oL P j=((35:Nat):Int)/\oM P j=pa)(zs zt:List Int)(hzb:∀ z∈zs,0<=z/\z<=255)(us:Int)(hus:bcv 64 zs 37 90=us)(hu:0<=us/\us<53)(b:Nat)(fr:Bool)
  (HD:∀ rows' v,(∀ x∈rows,x∈rows')->Q rows' v->Has v da dl ys)
  (KO:∀ rows' v,(∀ x∈rows,x∈rows')->Q rows' v->Calls Tryz.prog 91 #[.pointer (some ⟨o,0,none⟩),.pointer (some ⟨tb,0,none⟩),Pv P,.int .i64 j] v fun e v'=>e=.returned (.tuple #[.agg (Fc (some ⟨o,0,none⟩) (some ⟨tb,0,none⟩) P j X),.int .i64 0])/\Hid (Q rows' v'))
  (KF:∀ rows' v,(∀ x∈rows,x∈rows')->Q rows' v->Calls Tryz.prog 61 #[.pointer (some ⟨tb,0,none⟩),.pointer (some ⟨o,0,none⟩),.int .i64 j,.int .i64 (k:Int)] v fun e v'=>e=.returned (.tuple #[.int .i64 0,.int .i64 0])/\Hid (Q rows' v'))
  (KR:∀ rows' v,(∀ x∈rows,x∈rows')->Q rows' v->Calls Tryz.prog 83 #[.pointer (some ⟨o,0,none⟩),.int .i64 ((33:Nat):Int)] v fun e v'=>∃ k c,e=.returned (.tuple #[.slice (some ⟨k,0,none⟩) 64 c,.int .i64 0])/\Hid (∃ ob,Dr c 64 zs ob/\v.heap.size<=k/\Q ((k,ob)::rows') v'))
  (KS:∀ rows' v,(∀ x∈rows,x∈rows')->Q rows' v->Calls Tryz.prog 83 #[.pointer (some ⟨o,0,none⟩),.int .i64 ((35:Nat):Int)] v fun e v'=>∃ k c,e=.returned (.tuple #[.slice (some ⟨k,0,none⟩) 64 c,.int .i64 0])/\Hid (∃ ob,Dr c 64 zt ob/\v.heap.size<=k/\Q ((k,ob)::rows') v'))
  (KM:∀ rows' v,(∀ x∈rows,x∈rows')->Q rows' v->Calls Tryz.prog 142 #[.pointer (some ⟨tb,0,none⟩),.pointer (some ⟨o,0,none⟩),.int .i64 j,.int .i64 (k:Int)] v fun e v'=>e=.returned (.tuple #[.int .i64 (b:Int),.bool fr,.int .i64 0])/\Hid (Q1 rows' v'))
  (KG:∀ rows' v,(∀ x∈rows,x∈rows')->Q1 rows' v->Calls Tryz.prog 54 #[.pointer (some ⟨tb,0,none⟩),.pointer (some ⟨o,0,none⟩),.int .i64 j] v fun e v'=>e=.returned (.tuple #[Iv Y,.int .i64 0])/\Hid (Q1 rows' v'))
  (KP:∀ rows' v,(∀ x∈rows,x∈rows')->Q1 rows' v->Calls Tryz.prog 23 #[.pointer (some ⟨tb,0,none⟩),.pointer (some ⟨o,0,none⟩),.int .i64 j,.agg #[.int .i64 (Y 0),.int .i64 (Y 1),.int .i64 (at0+(dl:Int)),.int .i64 (Y 3),.int .i64 (Y 4),.int .i64 (Y 5),.int .i64 (Y 6),.int .i64 (Y 7),.int .i64 (Y 8),.int .i64 (Y 9),.int .i64 (Y 10),.int .i64 (Y 11),.int .i64 (Y 12)]] v fun e v'=>e=.returned (.int .i64 0)/\Hid (Q2 rows' v'))
  (KD:X 0=1/\(∀ bk rows' v,(bk,.cells (List.replicate l (Value.int .u8 0)++ys.map (Value.int .u8)++List.replicate (64 - (l+dl)) (Value.int .u8 0)).toArray 5)∈rows'->(∀ x∈rows,x∈rows')->Q2 rows' v->Calls Tryz.prog 153 #[.pointer (some ⟨o,0,none⟩),.int .i64 (b:Int),.slice (some ⟨bk,0,none⟩) 64 64] v fun e v'=>e=.returned (.int .i64 0)/\Hid (Q3 rows' v'))\/X 0=2/\(∀ bk rows' v,(bk,.cells (List.replicate l (Value.int .u8 0)++ys.map (Value.int .u8)++List.replicate (64 - (l+dl)) (Value.int .u8 0)).toArray 5)∈rows'->(∀ x∈rows,x∈rows')->Q2 rows' v->Calls Tryz.prog 51 #[.pointer (some ⟨o,0,none⟩),.int .i64 (b:Int),.slice (some ⟨bk,0,none⟩) 64 64] v fun e v'=>e=.returned (.int .i64 0)/\Hid (Q3 rows' v'))) :
  Calls Tryz.prog 60 #[.pointer (some ⟨o,0,none⟩),.pointer (some ⟨tb,0,none⟩),Pv P,.int .i64 j,.int .i64 at0,.slice da dl dc] u fun e u'=>e=.returned (.int .i64 0)/\Hid (Q3 rows u'):=by
 have HB:=hide hq
 have H0:=hide (hq.new h (.cells (Pc P) 24))
 have HS:=hide (And.intro (hq.sz h) (fun x hx=>hq.lt h hx:∀ x∈rows,x.1<u.heap.size))
 have KE:Hid (∀ v,Calls Tryz.prog 90 #[Pv P,.int .i64 at0,.int .i64 (dl:Int)] v fun e v'=>e=.returned (.bool false)/\Below v.heap.size v v'):=fun v=>by
  have:=agi P at0 (dl:Int) v hc (by omega)
  rwa [show (decide (P 0*mfb P - (dl:Int)<at0))=false by simpa using he] at this
 have HKO:=hide KO
 have KW:Hid (∀ v mw mm,n0<=mm->mm<mw->(∀ x∈rows,x.1<mm)->Q ((mw,.cells (Wc o tb P j X (.slice none 0 0) mm (.slice none 0 0)) 169)::(mm,.map #[] 0)::rows) v->Calls Tryz.prog 92 #[.pointer (some ⟨mw,0,none⟩),.int .i64 at0] v fun e v'=>e=.returned (.int .i64 0)/\Hid (Calls Tryz.prog 93 #[.pointer (some ⟨mw,0,none⟩),.int .i64 at0,.slice da dl dc] v' fun e v'=>e=.returned (.int .i64 0)/\Hid (Calls Tryz.prog 94 #[.pointer (some ⟨mw,0,none⟩)] v' fun e v'=>e=.returned (.int .i64 0)/\Hid (Calls Tryz.prog 95 #[.pointer (some ⟨mw,0,none⟩),.int .i64 (at0+(dl:Int))] v' fun e v'=>e=.returned (.int .i64 0)/\Hid (Q3 rows v'))))):=fun v mw mm n1 n2 n3 hv=>by
  refine(zX hq hv (fg:=mw) (cs:=(Wc o tb P j X (.slice none 0 0) mm (.slice none 0 0))) (ty:=169) (by simp) (X 2) at0 (by show some (Value.int .i64 (P 0))=_;rw[hP.1]) rfl ⟨hX2.1,hX2.2.1⟩ ha hX2.2.2.1).mono ?_
  rintro e v1 ⟨rfl,L1⟩
  refine⟨rfl,?_⟩
  refine(agc hq (mw:=mw) (mm:=mm) (o:=o) (tb:=tb) (P:=P) (j:=j) (X:=X) (bf:=.slice none 0 0) (rows:=rows) (hq.sub (ah L1) (fun x hx=>by simp only[List.mem_cons] at hx ⊢;rcases hx with e | e | e<;>simp[e])) n1 (by omega) (by omega) (fun x hx=>by have:=n3 x hx;omega) at0 k l dl dc da ys hP.1 hc ha hk hl hk8 hd hfit hdc hm hX HD KF).mono ?_
  rintro e v2 ⟨rfl,L2⟩
  refine⟨rfl,?_⟩
  obtain⟨bk,g,c,cur,⟨b1,b2,b3,b4,b5,b6⟩,q2⟩:=ah L2
  have anX:mw<v1.heap.size:=hq.lt (ah L1) (x:=(mw,.cells (Wc o tb P j X (.slice none 0 0) mm (.slice none 0 0)) 169)) (by simp)
  refine(adW hq (mm:=mm) (mw:=mw) (o:=o) (tb:=tb) (P:=P) (j:=j) (X:=X) (ch:=.slice (some ⟨g,0,none⟩) 1 c) (me:=⟨mW (k:Int),.agg #[],0⟩) (rows:=(g,.cells cur 211)::(bk,.cells (List.replicate l (Value.int .u8 0)++ys.map (Value.int .u8)++List.replicate (64 - (l+dl)) (Value.int .u8 0)).toArray 5)::rows) (hq.sub q2 (fun x hx=>by simp only[List.mem_cons,List.nil_append] at hx ⊢;rcases hx with e | e | e | e | e<;>simp[e])) (by omega) (by omega) (fun x hx=>by
   simp only[List.mem_cons] at hx
   rcases hx with e | e | e
   ·rw[e];show g≠mw;omega
   ·rw[e];show bk≠mw;omega
   ·have:=n3 x e;omega) hP 0 pa hpl zs zt hzb us hus hu (fun rows' v' hs hv'=>KR rows' v' (fun x hx=>hs x (by simp[hx])) hv') (fun rows' v' hs hv'=>KS rows' v' (fun x hx=>hs x (by simp[hx])) hv')).mono ?_
  rintro e v3 ⟨rfl,L3⟩
  refine⟨rfl,?_⟩
  obtain⟨bf',q3⟩:=ah L3
  have e3:∀ i,i<3->cur[i]?=([.int .i64 (k:Int),.int .i64 0,.slice (some ⟨bk,0,none⟩) 64 64]:List Value)[i]?:=fun i hi=>by
   rw[← b6,List.getElem?_take_of_lt hi]
   simp
  exact aif hq hq1 hq2 hq3 (mw:=mw) (mm:=mm) (o:=o) (tb:=tb) (g:=g) (c:=c) (bk:=bk) (P:=P) (j:=j) (X:=X) (Y:=Y) (bf:=bf') (cur:=cur) (bz:=(List.replicate l (Value.int .u8 0)++ys.map (Value.int .u8)++List.replicate (64 - (l+dl)) (Value.int .u8 0)).toArray) (rows:=rows) (hq.sub q3 (fun x hx=>by simp only[List.mem_cons] at hx ⊢;rcases hx with e | e | e | e<;>simp[e])) (by have:=hq.sz (ah L1);omega) ⟨by omega,by omega,fun x hx=>by have:=n3 x hx;omega⟩ k (e3 0 (by omega)) (e3 1 (by omega)) (e3 2 (by omega)) (at0+(dl:Int)) hX2.2.2.2 b fr KM KG KP (KD.imp (fun q=>⟨q.1,q.2 bk⟩) (fun q=>⟨q.1,q.2 bk⟩))
 have hn1:¬ at0<0:=by omega
 have hl2:¬ (dl:Int) > 4096:=by omega
 have hl0:((dl:Int)==0)=false:=by simp;omega
 have hs1:-9223372036854775808<=at0+(dl:Int)/\at0+(dl:Int)<=9223372036854775807:=by omega
 clear hq hq1 hq2 hq3 h hP hc ha hk hl hk8 hd hfit hdc hm he hX hX2 hpl hzb hus hu HD KO KF KR KS KM KG KP KD
 go_enter Tryz.func60,Tryz.ntmps60
 go_upto_region 1 with fail
 change Code.wp _ _ _ _ (u.alloc (.cells (Pc P) 24))
 generalize u.alloc (.cells (Pc P) 24)=w0 at *
 generalize u.heap.size=m at *
 have bp:Bl w0 m (Pc P) 24:=(ah HB).row (ah H0) (x:=(m,.cells (Pc P) 24)) (by simp)
 have p0:=bp.cell 0 (.int .i64 (P 0)) rfl
 have p1:=bp.cell 1 (.int .i64 (P 1)) rfl
 have p2:=bp.cell 2 (.int .i64 (P 2)) rfl
 have p3:=bp.cell 3 (.int .i64 (P 3)) rfl
 have p4:=bp.cell 4 (.int .i64 (P 4)) rfl
 have p5:=bp.cell 5 (.int .i64 (P 5)) rfl
 have p6:=bp.cell 6 (.int .i64 (P 6)) rfl
 have p7:=bp.cell 7 (.int .i64 (P 7)) rfl
 have p8:=bp.cell 8 (.int .i64 (P 8)) rfl
 have p9:=bp.cell 9 (.int .i64 (P 9)) rfl
 have p10:=bp.cell 10 (.int .i64 (P 10)) rfl
 have p11:=bp.cell 11 (.int .i64 (P 11)) rfl
 clear bp
 go_wp2_with fail
 go_at_call 90
 refine(ah KE _).mono ?_
 rintro e w1 ⟨rfl,hb⟩
 have L:=hide ((ah HB).later (ah H0) hb)
 clear KE H0 hb p0 p1 p2 p3 p4 p5 p6 p7 p8 p9 p10 p11
 have bp:Bl w1 m (Pc P) 24:=(ah HB).row (ah L) (x:=(m,.cells (Pc P) 24)) (by simp)
 have K1:=hide (ah HKO _ w1 (fun x hx=>List.mem_cons_of_mem _ hx) (ah L))
 have p0:=bp.cell 0 (.int .i64 (P 0)) rfl
 have p1:=bp.cell 1 (.int .i64 (P 1)) rfl
 have p2:=bp.cell 2 (.int .i64 (P 2)) rfl
 have p3:=bp.cell 3 (.int .i64 (P 3)) rfl
 have p4:=bp.cell 4 (.int .i64 (P 4)) rfl
 have p5:=bp.cell 5 (.int .i64 (P 5)) rfl
 have p6:=bp.cell 6 (.int .i64 (P 6)) rfl
 have p7:=bp.cell 7 (.int .i64 (P 7)) rfl
 have p8:=bp.cell 8 (.int .i64 (P 8)) rfl
 have p9:=bp.cell 9 (.int .i64 (P 9)) rfl
 have p10:=bp.cell 10 (.int .i64 (P 10)) rfl
 have p11:=bp.cell 11 (.int .i64 (P 11)) rfl
 clear bp HKO L
 go_wp2_with fail
 go_at_call 91
 refine(ah K1).mono ?_
 rintro e w2 ⟨rfl,L1⟩
 have L2:Hid (Q ((w2.heap.size,.cells (Fc (some ⟨o,0,none⟩) (some ⟨tb,0,none⟩) P j X) 161)::(m,.cells (Pc P) 24)::rows) (w2.alloc (.cells (Fc (some ⟨o,0,none⟩) (some ⟨tb,0,none⟩) P j X) 161))):=(ah HB).new (ah L1) _
 clear K1 L1 p0 p1 p2 p3 p4 p5 p6 p7 p8 p9 p10 p11
 go_upto_region 6 with (refine wpList_store_row rfl 161 _ _ rfl w2.heap.size (Fc (some ⟨o,0,none⟩) (some ⟨tb,0,none⟩) P j X) rfl rfl 161 Fz (World.alloc_heap_new _ _) (by kernel_rfl) rfl (by simp[Value.oneCell']) ?_;rw[World.setRow_alloc_new])
 change Code.wp _ _ _ _ (w2.alloc (.cells (Fc (some ⟨o,0,none⟩) (some ⟨tb,0,none⟩) P j X) 161))
 generalize w2.alloc (.cells (Fc (some ⟨o,0,none⟩) (some ⟨tb,0,none⟩) P j X) 161)=w3 at *
 generalize w2.heap.size=mf at *
 have hmk:=@run_makeMap Tryz.prog
 go_upto_region 8 with fail
 have hbl:∀ (v:World) (mm:Nat),(Instr.build 169 #[(0,.agg (Fc (some ⟨o,0,none⟩) (some ⟨tb,0,none⟩) P j X)),(2,.map (some mm))]).run Tryz.prog v=.ok (.agg (Wc o tb P j X (.slice none 0 0) mm (.slice none 0 0))) v:=fun v mm=>by kernel_rfl
 have L3:Hid (Q ((w3.heap.size+1,.cells (Wc o tb P j X (.slice none 0 0) w3.heap.size (.slice none 0 0)) 169)::(w3.heap.size,.map #[] 0)::rows) ((w3.alloc (.map #[] 0)).alloc (.cells (Wc o tb P j X (.slice none 0 0) w3.heap.size (.slice none 0 0)) 169))):=by
  have x:=(ah HB).new ((ah HB).new (ah L2) (.map #[] 0)) (.cells (Wc o tb P j X (.slice none 0 0) w3.heap.size (.slice none 0 0)) 169)
  simp only[World.size_alloc] at x
  exact(ah HB).sub x (fun x hx=>by simp only[List.mem_cons] at hx ⊢;rcases hx with e | e | e<;>simp[e])
 have K5:=hide (ah KW _ (w3.heap.size+1) w3.heap.size ((ah HB).sz (ah L2)) (by omega) (fun x hx=>(ah HB).lt (ah L2) (by simp[hx])) (ah L3))
 have RF:Hid (w3.heap[mf]?=some (.cells (Fc (some ⟨o,0,none⟩) (some ⟨tb,0,none⟩) P j X) 161)):=(ah HB).row (ah L2) (x:=(mf,.cells (Fc (some ⟨o,0,none⟩) (some ⟨tb,0,none⟩) P j X) 161)) (by simp)
 clear L2 L3 KW
 go_upto_region 9 with (refine wpList_load_row rfl 161 _ rfl mf rfl 161 _ (0,0) _ (ah RF) Tryz.underlying161 rfl (by kernel_rfl) ?_;clear RF)
 change Code.wp _ _ _ _ ((w3.alloc (.map #[] 0)).alloc (.cells (Wc o tb P j X (.slice none 0 0) w3.heap.size (.slice none 0 0)) 169))
 clear hbl hmk
 generalize (w3.alloc (.map #[] 0)).alloc (.cells (Wc o tb P j X (.slice none 0 0) w3.heap.size (.slice none 0 0)) 169)=w4 at *
 generalize w3.heap.size+1=mw at *
 go_wp2_with fail
 go_at_call 92
 refine(ah K5).mono ?_
 rintro e w5 ⟨rfl,K6⟩
 clear K5
 go_wp2_with fail
 go_at_call 93
 refine(ah K6).mono ?_
 rintro e w6 ⟨rfl,K7⟩
 clear K6
 go_wp2_with fail
 go_at_call 94
 refine(ah K7).mono ?_
 rintro e w7 ⟨rfl,K8⟩
 clear K7
 go_wp2_with fail
 go_at_call 95
 refine(ah K8).mono ?_
 rintro e w8 ⟨rfl,K9⟩
 clear K8
 go_wp2_with fail
 go_ret
 exact⟨rfl,K9⟩
def fx2:Nat->Int:=nI x1 (pof 0) ((37:Nat):Int)
def fx3:Nat->Int:=fun i=>if i=2 then 5 else fx2 i
def fW:Nat->List Int:=fun q=>if q=35 then put ((fun j=>if j=33 then setB (fV 33) 37 true else fV j) 35) 0 (aZ 32 (dP fx2)) else (fun j=>if j=33 then setB (fV 33) 37 true else fV j) q
def fW2:Nat->List Int:=fun q=>if q=35 then put (fW 35) 0 (aZ 32 (dP fx3)) else fW q
def fZ:List Int:=[0,0,0,97,98]++List.replicate 59 0
def fW3:Nat->List Int:=fun q=>if q=37 then fZ else fW2 q
def fE3:Nat->Bool:=fun q=>if q=37 then true else aE q
theorem aii:fV 35=tbZ x1 xD:=rfl
theorem ajq {X Y:Nat->Int}(h:bM X):pR (((tbZ X Y).drop 0).take 32)/\Iv (bD (((tbZ X Y).drop 0).take 32))=Iv X:=by
 rw[ahh]
 exact⟨agH h,agG h⟩
theorem ak4:ku (fV 33) (fun _=>false) 37 aG.n=37:=ak5
theorem amz:bcv 64 (fV 33) 37 90=0:=by decide
theorem qB:aP 0=64/\aP 1=90/\aP 7=33/\aP 11=37:=by
 refine⟨?_,?_,?_,?_⟩<;>rw[gB]<;>rfl
theorem rV (w:World):Calls Tryz.prog 5 #[] w fun e w'=>e=.returned (Pv aP)/\Below w.heap.size w w':=by
 have K:Hid (∀ u,Calls Tryz.prog 13 #[.int .i64 64,.int .i64 90,.int .i64 6,.int .i64 30] u fun e w'=>e=.returned (.tuple #[Pv aP,.int .i64 0])/\Below u.heap.size u w'):=fun u=>by
  have:=abl 64 90 6 30 _ _ _ _ u (fun h=>by have:=je.2 h;revert this;decide) (by decide) rfl rfl rfl rfl (by decide)
  rw[← afx,← kZ uQ] at this
  exact this
 have HZ:=hide (Bl.new w #[.int .i64 0,.int .i64 0,.int .i64 0,.int .i64 0,.int .i64 0,.int .i64 0,.int .i64 0,.int .i64 0,.int .i64 0,.int .i64 0,.int .i64 0,.int .i64 0] 24)
 have HB:=hide ((Below.refl w.heap.size w).alloc (Nat.le_refl _) (.cells #[.int .i64 0,.int .i64 0,.int .i64 0,.int .i64 0,.int .i64 0,.int .i64 0,.int .i64 0,.int .i64 0,.int .i64 0,.int .i64 0,.int .i64 0,.int .i64 0] 24))
 generalize aP=p at *
 go_enter Tryz.func5,Tryz.ntmps5
 go_wp2_with fail
 go_at_call 13
 refine(ah K _).mono ?_
 rintro e w1 ⟨rfl,hb⟩
 have HZ2:=hide (((ah HZ).call hb).alloc (.cells (Pc p) 24))
 have HB2:=hide (((ah HB).trans (hb.mono (ah HB).size)).alloc ((ah HB).trans (hb.mono (ah HB).size)).size (.cells (Pc p) 24))
 have HN:=hide (Bl.new w1 (Pc p) 24)
 clear HZ HB hb K
 go_upto_region 2 with fail
 change Code.wp _ _ _ _ (w1.alloc (.cells (Pc p) 24))
 generalize w1.alloc (.cells (Pc p) 24)=w2 at *
 generalize w1.heap.size=g1 at *
 have z0:=(ah HZ2).cell 0 (.int .i64 0) rfl
 have z1:=(ah HZ2).cell 1 (.int .i64 0) rfl
 have z2:=(ah HZ2).cell 2 (.int .i64 0) rfl
 have z3:=(ah HZ2).cell 3 (.int .i64 0) rfl
 have z4:=(ah HZ2).cell 4 (.int .i64 0) rfl
 have z5:=(ah HZ2).cell 5 (.int .i64 0) rfl
 have z6:=(ah HZ2).cell 6 (.int .i64 0) rfl
 have z7:=(ah HZ2).cell 7 (.int .i64 0) rfl
 have z8:=(ah HZ2).cell 8 (.int .i64 0) rfl
 have z9:=(ah HZ2).cell 9 (.int .i64 0) rfl
 have z10:=(ah HZ2).cell 10 (.int .i64 0) rfl
 have z11:=(ah HZ2).cell 11 (.int .i64 0) rfl
 have n0:=(ah HN).cell 0 (.int .i64 (p 0)) rfl
 have n1:=(ah HN).cell 1 (.int .i64 (p 1)) rfl
 have n2:=(ah HN).cell 2 (.int .i64 (p 2)) rfl
 have n3:=(ah HN).cell 3 (.int .i64 (p 3)) rfl
 have n4:=(ah HN).cell 4 (.int .i64 (p 4)) rfl
 have n5:=(ah HN).cell 5 (.int .i64 (p 5)) rfl
 have n6:=(ah HN).cell 6 (.int .i64 (p 6)) rfl
 have n7:=(ah HN).cell 7 (.int .i64 (p 7)) rfl
 have n8:=(ah HN).cell 8 (.int .i64 (p 8)) rfl
 have n9:=(ah HN).cell 9 (.int .i64 (p 9)) rfl
 have n10:=(ah HN).cell 10 (.int .i64 (p 10)) rfl
 have n11:=(ah HN).cell 11 (.int .i64 (p 11)) rfl
 have fz:=(ah HZ2).free
 go_wp2_with fail
 have hW:Below w.heap.size w (au w2 w.heap.size 0 [.int .i64 (p 0),.int .i64 (p 1),.int .i64 (p 2),.int .i64 (p 3),.int .i64 (p 4),.int .i64 (p 5),.int .i64 (p 6),.int .i64 (p 7),.int .i64 (p 8),.int .i64 (p 9),.int .i64 (p 10),.int .i64 (p 11)]):=aN (Nat.le_refl _) _ _ _ _ (ah HB2)
 have hA:=aI [.int .i64 (p 0),.int .i64 (p 1),.int .i64 (p 2),.int .i64 (p 3),.int .i64 (p 4),.int .i64 (p 5),.int .i64 (p 6),.int .i64 (p 7),.int .i64 (p 8),.int .i64 (p 9),.int .i64 (p 10),.int .i64 (p 11)] _ _ (ah HZ2) rfl
 change bodyPost _ _ _ _ _ (au w2 w.heap.size 0 [.int .i64 (p 0),.int .i64 (p 1),.int .i64 (p 2),.int .i64 (p 3),.int .i64 (p 4),.int .i64 (p 5),.int .i64 (p 6),.int .i64 (p 7),.int .i64 (p 8),.int .i64 (p 9),.int .i64 (p 10),.int .i64 (p 11)])
 generalize au w2 w.heap.size 0 [.int .i64 (p 0),.int .i64 (p 1),.int .i64 (p 2),.int .i64 (p 3),.int .i64 (p 4),.int .i64 (p 5),.int .i64 (p 6),.int .i64 (p 7),.int .i64 (p 8),.int .i64 (p 9),.int .i64 (p 10),.int .i64 (p 11)]=wf at *
 refine bodyPost_ret (v:=Pv p) ?_ rfl ⟨rfl,hW⟩
 simp[results,Tryz.results5,go_sem,hA.cell 0 _ rfl,hA.cell 1 _ rfl,hA.cell 2 _ rfl,hA.cell 3 _ rfl,hA.cell 4 _ rfl,hA.cell 5 _ rfl,hA.cell 6 _ rfl,hA.cell 7 _ rfl,hA.cell 8 _ rfl,hA.cell 9 _ rfl,hA.cell 10 _ rfl,hA.cell 11 _ rfl]
def ex2:Nat->Int:=nI xD (pof 0) ((37:Nat):Int)
def ex3:Nat->Int:=fun i=>if i=2 then 16 else ex2 i
theorem aaH:bM ex2:=by unfold bM;decide
theorem nP:bM ex3:=by unfold bM;decide
def eB:List Int:=[2,0,98,0,0,0,0,0,0,0,0,0,0,0,0,0]
def eV0:Nat->List Int:=fun _=>fl 0
def eW:Nat->List Int:=fun q=>if q=35 then put ((fun j=>if j=33 then setB (fV 33) 37 true else fV j) 35) 32 (aZ 32 (dP ex2)) else (fun j=>if j=33 then setB (fV 33) 37 true else fV j) q
def eW2:Nat->List Int:=fun q=>if q=35 then put (eW 35) 32 (aZ 32 (dP ex3)) else eW q
def eZ:List Int:=eB++List.replicate 48 0
def eW3:Nat->List Int:=fun q=>if q=37 then eZ else eW2 q
theorem akX:eW 35=tbZ x1 ex2:=by
 unfold eW
 rw[if_pos rfl]
 show put (fV 35) 32 _=_
 rw[aii,ahi]
theorem ak8:eW2 35=tbZ x1 ex3:=by
 unfold eW2
 rw[if_pos rfl,akX,ahi]
theorem aio:eW3 35=tbZ x1 ex3:=by
 unfold eW3
 rw[if_neg (by omega),ak8]
theorem zZ {X Y:Nat->Int}(h:bM Y):pR (((tbZ X Y).drop 32).take 32)/\Iv (bD (((tbZ X Y).drop 32).take 32))=Iv Y:=by
 rw[ahg]
 exact⟨agH h,agG h⟩
theorem aij {w:World}{g o tb a:Nat}{rows:List (Nat×Obj)}(ht:(tb,tbO a aP)∈rows)(ha:(a,alO g aP)∈rows)(h0:1<w.heap.size):al7 w aP aG g o 1 eV0 (fun _=>false) (fun _=>false) rows tb 3 0 aE fV ((37:Nat):Int) 0 true aE eW:=by
 intro v fg tg og vO hsub rt ro hwf hfg hv
 have hi:pR (((fV 35).drop 32).take 32)/\Iv (bD (((fV 35).drop 32).take 32))=Iv xD:=by rw[aii];exact zZ lM
 refine afY (a:=a) (bk:=35) (at0:=32) (s0:=0) (X:=xD) (X1:=ex2) hv (hsub _ ht) h0 hwf hfg nN.1 nN.2.1 nN.2.2 (by decide) (by decide) hi.1 hi.2 (by omega) (fun v=>oq aP 0 32 v sS.1 sS.2.1 sS.2.2 akZ (by omega)) ?_
 intro v2 xg fc m0 m1 m2 eH rf r0 r1 r2 hx hne hfx amq hsub2 hv2
 rw[show xD (pof 0)=0 by decide]
 exact uw hv2 aA (hsub2 _ (hsub _ ht)) (hsub2 _ (hsub _ ha)) (hsub2 _ rt) (hsub2 _ ro) hwf h0 amq rf r0 r1 r2 hx hne nN.1 nN.2.1 nN.2.2 (by decide) (by decide) (by decide) hfx ak4 (by decide) aaH
theorem aaI {w}{g o a tb:Nat}{rows u E V V'}(L:Lp w aP aG E g o rows 1 V (fun _=>false) V' (fun _=>false) u)(ht:(tb,tbO a aP)∈rows)(h0:1<w.heap.size)(he:E 35=true){X Y:Nat->Int}(hV:V' 35=tbZ X Y)(hX:bM Y) :
  Calls Tryz.prog 61 #[.pointer (some ⟨tb,0,none⟩),.pointer (some ⟨o,0,none⟩),.int .i64 3,.int .i64 0] u fun r u'=>r=.returned (.tuple #[.int .i64 (Y 3),.int .i64 0])/\Hid (Lp w aP aG E g o rows 1 V (fun _=>false) V' (fun _=>false) u'):=by
 have hi:pR (((V' 35).drop 32).take 32)/\Iv (bD (((V' 35).drop 32).take 32))=Iv Y:=by rw[hV];exact zZ hX
 refine acC (Q:=fun u'=>Lp w aP aG E g o rows 1 V (fun _=>false) V' (fun _=>false) u') ?_
 exact afZ (a:=a) (bk:=35) (at0:=32) (s0:=0) L ht h0 nN.1 nN.2.1 nN.2.2 (by decide) he hi.1 hi.2 (by omega) (fun v=>oq aP 0 32 v sS.1 sS.2.1 sS.2.2 akZ (by omega)) aeP
theorem mJ {w}{g o a tb:Nat}{rows u E V V'}(L:Lp w aP aG E g o rows 1 V (fun _=>false) V' (fun _=>false) u)(ht:(tb,tbO a aP)∈rows)(h0:1<w.heap.size)(he:E 35=true){X Y:Nat->Int}(hV:V' 35=tbZ X Y)(hX:bM Y) :
  Calls Tryz.prog 54 #[.pointer (some ⟨tb,0,none⟩),.pointer (some ⟨o,0,none⟩),.int .i64 3] u fun e u'=>e=.returned (.tuple #[Iv Y,.int .i64 0])/\Hid (Lp w aP aG E g o rows 1 V (fun _=>false) V' (fun _=>false) u'):=by
 have hi:pR (((V' 35).drop 32).take 32)/\Iv (bD (((V' 35).drop 32).take 32))=Iv Y:=by rw[hV];exact zZ hX
 exact tu (a:=a) L Y 3 ht h0 nN.1 nN.2.1 nN.2.2 (by decide) he hi.1 hi.2
theorem agk {w}{g o a tb:Nat}{rows u E V V'}(L:Lp w aP aG E g o rows 1 V (fun _=>false) V' (fun _=>false) u)(ht:(tb,tbO a aP)∈rows)(h0:1<w.heap.size)(he:E 35=true){X Y:Nat->Int}(hV:V' 35=tbZ X Y)(hX:bM X) :
  Calls Tryz.prog 54 #[.pointer (some ⟨tb,0,none⟩),.pointer (some ⟨o,0,none⟩),.int .i64 2] u fun e u'=>e=.returned (.tuple #[Iv X,.int .i64 0])/\Hid (Lp w aP aG E g o rows 1 V (fun _=>false) V' (fun _=>false) u'):=by
 have hi:pR (((V' 35).drop 0).take 32)/\Iv (bD (((V' 35).drop 0).take 32))=Iv X:=by rw[hV];exact ajq hX
 exact tu (a:=a) L X 2 ht h0 ai6.1 ai6.2.1 ai6.2.2 (by decide) he hi.1 hi.2
theorem ajC {w}{g o a tb dc:Nat}{da:Option Addr}{rows u}(L:Lp w aP aG aE g o rows 1 eV0 (fun _=>false) fV (fun _=>false) u)(ht:(tb,tbO a aP)∈rows)(ha:(a,alO g aP)∈rows)(h0:1<w.heap.size)(hdc:16<=dc)(hd:∀ rows' v,(∀ x∈rows,x∈rows')->Lp w aP aG aE g o rows' 1 eV0 (fun _=>false) fV (fun _=>false) v->Has v da 16 eB) :
  Calls Tryz.prog 60 #[.pointer (some ⟨o,0,none⟩),.pointer (some ⟨tb,0,none⟩),Pv aP,.int .i64 3,.int .i64 0,.slice da 16 dc] u fun e v=>e=.returned (.int .i64 0)/\Hid (Lp w aP aG fE3 g o rows 1 eV0 (fun _=>false) eW3 (fun _=>false) v):=by
 refine abL (n0:=w.heap.size) (Q:=fun rows v=>Lp w aP aG aE g o rows 1 eV0 (fun _=>false) fV (fun _=>false) v) (Q1:=fun rows v=>Lp w aP aG aE g o rows 1 eV0 (fun _=>false) eW (fun _=>false) v) (Q2:=fun rows v=>Lp w aP aG aE g o rows 1 eV0 (fun _=>false) eW2 (fun _=>false) v) (Q3:=fun rows v=>Lp w aP aG fE3 g o rows 1 eV0 (fun _=>false) eW3 (fun _=>false) v) (bF h0) (bF h0) (bF h0) (bF h0) L aP o tb 3 xD ex2 0 0 0 16 dc da eB qB aPG.chk (by omega) (by omega) (by omega) (by omega) (by omega) (by omega) hdc (by rw[sQ];omega) (by rw[sQ,qB.1];omega) (by decide) ⟨by decide,by decide,by decide,by decide⟩ ((32:Nat):Int) ⟨nN.1,nN.2.1,nN.2.2⟩ (fV 33) (fV 35) (L.vb (by decide)).2 0 amz (by omega) 37 true hd ?_ ?_ ?_ ?_ ?_ ?_ ?_ ?_
 ·intro rows' v hs hv
  exact aaD (bF (E:=aE) (V':=fV) h0) hv aP _ _ xD 3 aPG.chk (by decide) (fun eH v2 hs2 hv2=>mJ hv2 (hs2 _ (hs _ ht)) h0 (by decide) aii lM)
 ·intro rows' v hs hv
  exact aaI hv (hs _ ht) h0 (by decide) aii lM
 ·intro rows' v hs hv
  exact rP hv (b:=33) (by decide)
 ·intro rows' v hs hv
  exact rP hv (b:=35) (by decide)
 ·intro rows' v hs hv
  exact aeT hv h0 rfl (aij (hs _ ht) (hs _ ha) h0)
 ·intro rows' v hs hv
  exact mJ hv (hs _ ht) h0 (by decide) akX aaH
 ·intro rows' v hs hv
  exact sZ (a:=a) hv ex3 3 (hs _ ht) h0 nN.1 nN.2.1 nN.2.2 (by decide) (by decide) nP
 ·refine .inr ⟨by decide,?_⟩
  intro bk rows' v hb hs hv
  have hdr:Dr 64 64 eZ (.cells (List.replicate 0 (Value.int .u8 0)++eB.map (Value.int .u8)++List.replicate (64 - (0+16)) (Value.int .u8 0)).toArray 5):=⟨_,rfl,rfl,rfl,Nat.le_refl _,by unfold maxLen;omega,rfl⟩
  have hrow:=hdr.row (hv.row hb) (by omega) (by unfold eZ;decide)
  exact aaC hv (b:=37) (.inr ⟨by rw[qB.2.2.2];omega,by decide,rfl⟩) (some ⟨bk,0,none⟩) 64 eZ hrow
theorem ajD {w}{g o a tb:Nat}{rows u}(L:Lp w aP aG fE3 g o rows 1 eV0 (fun _=>false) eW3 (fun _=>false) u)(ht:(tb,tbO a aP)∈rows)(h0:1<w.heap.size) :
  Calls Tryz.prog 88 #[.pointer (some ⟨o,0,none⟩),.pointer (some ⟨tb,0,none⟩),Pv aP,.int .i64 3,.int .i64 0,.int .i64 16] u fun e v=>∃ g2,e=.returned (.tuple #[.slice (some ⟨g2,0,none⟩) 16 16,.int .i64 0])/\Hid (Lp w aP aG fE3 g o ((g2,.cells (eB.map (Value.int .u8)).toArray 5)::rows) 1 eV0 (fun _=>false) eW3 (fun _=>false) v):=by
 refine adX (Q:=fun rows v=>Lp w aP aG fE3 g o rows 1 eV0 (fun _=>false) eW3 (fun _=>false) v) (bF h0) L aP o tb 3 ex3 0 16 37 16 eZ qB.1 (by omega) (by omega) (by decide) (by omega) (by decide) (by decide) (by omega) rfl ?_ ?_ ?_
 ·intro rows' v hs hv
  exact aaD (bF (E:=fE3) (V':=eW3) h0) hv aP _ _ ex3 3 aPG.chk (by decide) (fun eH v2 hs2 hv2=>mJ hv2 (hs2 _ (hs _ ht)) h0 (by decide) aio nP)
 ·intro rows' v hs hv
  exact aaI hv (hs _ ht) h0 (by decide) aio nP
 ·intro rows' v hs hv
  exact rP hv (b:=37) (by decide)
theorem Lp.old {w P G E g o rows i V F V' K u}{k:Nat}{ob:Obj}(h:Lp w P G E g o rows i V F V' K u)(hk:w.heap[k]?=some ob):Lp w P G E g o ((k,ob)::rows) i V F V' K u:=by
 obtain⟨E0,cg,lg,dg,X,C,L,D,S,N,h,r⟩:=h
 have hlt:=(Array.getElem?_eq_some_iff.1 hk).1
 exact⟨E0,cg,lg,dg,X,C,L,D,S,N,h.add ((h.hl.bel.block k hlt).trans hk) (fun hs=>by have:=h.hl.ge k hs;omega),r⟩
theorem ako:jJ aP 4=0/\oL aP 4=((36:Nat):Int)/\oM aP 4=((0:Nat):Int):=by
 have h0:jJ aP 4=0:=by
  unfold jJ
  rw[if_neg (by rw[aPG.chk];omega),if_neg (by rw[gB];decide)]
 refine⟨h0,?_,?_⟩
 ·unfold oL
  rw[if_pos h0,gB,gB]
  rfl
 ·unfold oM
  rw[if_pos h0,gB]
  rfl
theorem amd:((fV 36).drop 0).take 32=List.replicate 32 0:=by decide
theorem wZ (w:World)(hT:Tab w)(u:World)(mp:Nat)(hu:Below w.heap.size w u)(hB:Bl u mp (Pc aP) 24):Calls Tryz.prog 6 #[Pv aP] u fun e w'=>∃ g a t o,e=.returned (.tuple #[.pointer (some ⟨g,0,none⟩),.pointer (some ⟨t,0,none⟩),.pointer (some ⟨o,0,none⟩)])/\Hid (Lp w aP aG aE g o [(t,tbO a aP),(a,alO g aP),(mp,.cells (Pc aP) 24)] 1 eV0 (fun _=>false) fV (fun _=>false) w'):=by
 refine(aeg u (hT.kept (hu.block 1 hT.lt))).mono ?_
 rintro e w' ⟨g,a,t,o,rfl,Y⟩
 refine⟨g,a,t,o,rfl,?_⟩
 exact hide ((((ah Y).old (k:=mp) hB).sub (rows':=[(t,tbO a aP),(a,alO g aP),(mp,.cells (Pc aP) 24)]) (fun x hx=>by
   simp only[List.mem_cons,List.not_mem_nil,or_false] at hx ⊢
   rcases hx with h | h | h<;>simp[h])).ag5 hu)
theorem nO (s:ByteArray):nameB s=(decide (1<=s.size)&&decide (s.size<=13)&&!(s.data.toList==[46])&&!(s.data.toList==[46,46])&&(iF s).all gZ):=by
 unfold nameB
 rw[ByteArray.toList_eq]
theorem nmA:nameB (⟨#[97]⟩:ByteArray)=true:=by rw[nO];decide
theorem nmB:nameB (⟨#[98]⟩:ByteArray)=true:=by rw[nO];decide
theorem nmD:nameB (⟨#[46,46]⟩:ByteArray)=false:=by rw[nO];decide
theorem nmU:nameB (⟨#[65]⟩:ByteArray)=false:=by rw[nO];decide
theorem aaJ:aZ 16 (iZ 2 (⟨#[98]⟩:ByteArray))=eB:=by decide
theorem aac:aip eB/\agN eB=2/\agM eB=(⟨#[98]⟩:ByteArray):=by
 have h1:agN eB=2:=by decide
 have h2:agM eB=(⟨#[98]⟩:ByteArray):=by decide
 refine⟨?_,h1,h2⟩
 unfold aip
 rw[h1,h2]
 refine⟨?_,aaJ⟩
 unfold ajT
 rw[if_neg (by decide),if_pos nmB,if_pos (by decide)]
theorem alX:jJ aP 9=2:=by
 unfold jJ
 rw[if_neg (by rw[aPG.chk];omega),if_pos (by rw[gB];decide)]
theorem ail {w}{g o a t:Nat}{rows v}(hv:Lp w aP aG aE g o rows 1 eV0 (fun _=>false) fV (fun _=>false) v)(ht:(t,tbO a aP)∈rows)(ha:(a,alO g aP)∈rows)(h0:1<w.heap.size) :
  Calls Tryz.prog 8 #[.pointer (some ⟨o,0,none⟩),.pointer (some ⟨t,0,none⟩),Pv aP,.int .i64 3,.string (⟨#[98]⟩:ByteArray),.int .i64 2] v fun e v'=>e=.returned (.int .i64 0)/\Hid (Lp w aP aG fE3 g o rows 1 eV0 (fun _=>false) eW3 (fun _=>false) v'):=by
 refine xw (Q:=fun rows v=>Lp w aP aG aE g o rows 1 eV0 (fun _=>false) fV (fun _=>false) v) (Q3:=fun rows v=>Lp w aP aG fE3 g o rows 1 eV0 (fun _=>false) eW3 (fun _=>false) v) (bF h0) (bF h0) hv aP o t 3 (⟨#[98]⟩:ByteArray) 2 eB ?_ ?_ ?_
 ·intro u
  have:=xQ (⟨#[98]⟩:ByteArray) 2 u nmB (by omega) (by decide)
  rw[aaJ] at this
  exact this
 ·intro vO v1 hs1 hv1
  exact qm (bF (E:=aE) (V':=fV) h0) hv1 aP _ _ xD 3 rfl rfl (by rw[sQ,qB.1];omega) (fun v=>jL aP v aPG.chk) (fun abj v9 hs9 hv9=>mJ (a:=a) hv9 (hs9 _ (hs1 _ ht)) h0 (by decide) aii lM) (fun f abj v9 hf hv9=>qj (bF (E:=aE) (V':=fV) h0) hv9 f _ _ hf none 0 rfl)
 ·intro rows' v' k hs hh hv'
  exact ajC (a:=a) hv' (hs _ ht) (hs _ ha) h0 (Nat.le_refl _) hh
theorem ain {w}{g o a t:Nat}{rows v}(hv:Lp w aP aG fE3 g o rows 1 eV0 (fun _=>false) eW3 (fun _=>false) v)(ht:(t,tbO a aP)∈rows)(h0:1<w.heap.size) :
  Calls Tryz.prog 7 #[.pointer (some ⟨o,0,none⟩),.pointer (some ⟨t,0,none⟩),Pv aP,.int .i64 3,.string (⟨#[98]⟩:ByteArray)] v fun e v'=>e=.returned (.tuple #[.int .i64 2,.int .i64 0])/\Hid (Lp w aP aG fE3 g o rows 1 eV0 (fun _=>false) eW3 (fun _=>false) v'):=by
 refine aen (Q:=fun rows v=>Lp w aP aG fE3 g o rows 1 eV0 (fun _=>false) eW3 (fun _=>false) v) (bF h0) hv aP o t 3 (⟨#[98]⟩:ByteArray) 2 ?_
 intro vO v1 hs1 hv1
 refine ael (Q:=fun rows v=>Lp w aP aG fE3 g o rows 1 eV0 (fun _=>false) eW3 (fun _=>false) v) (bF h0) hv1 aP o t 3 (⟨#[98]⟩:ByteArray) 2 nmB ?_
 intro eH v2 hs2 hv2
 refine aej (Q:=fun rows v=>Lp w aP aG fE3 g o rows 1 eV0 (fun _=>false) eW3 (fun _=>false) v) (bF h0) hv2 aP o t ex3 3 rfl rfl (by rw[sQ,qB.1];omega) (fun v=>jL aP v aPG.chk) ?_ eB rfl 2 (⟨#[98]⟩:ByteArray) (by decide) ?_ ?_
 ·intro abj v9 hs9 hv9
  exact mJ (a:=a) hv9 (hs9 _ (hs2 _ (hs1 _ ht))) h0 (by decide) aio nP
 ·intro abj v9 hs9 hv9
  exact ajD (a:=a) hv9 (hs9 _ (hs2 _ (hs1 _ ht))) h0
 ·intro abj v9 g9 c9 cur hm hcs hc ht9 hv9
  have hrow:Bl v9 g9 cur 5:=hv9.row hm
  have hR:Row v9.heap.size v9 (some ⟨g9,0,none⟩) 16 16 eB:=by
   refine⟨rfl,Nat.le_refl _,⟨by omega,by omega⟩,by decide,fun _=>⟨g9,0,rfl,(Array.getElem?_eq_some_iff.1 hrow).1,fun j hj=>?_⟩⟩
   rw[Nat.zero_add]
   refine hrow.cell j _ ?_
   have h1:(cur.toList.take 16)[j]?=(eB.map (Value.int .u8))[j]?:=by rw[ht9]
   rw[List.getElem?_take_of_lt hj,List.getElem?_map,Array.getElem?_toList] at h1
   rw[h1]
   have:j<eB.length:=hj
   simp[List.getElem?_eq_getElem this]
  have:=vw (some ⟨g9,0,none⟩) 16 16 eB v9 hR aac.1
  rw[aac.2.1,aac.2.2] at this
  refine this.mono ?_
  rintro e v' ⟨rfl,hb⟩
  exact⟨rfl,hide (hv9.later hb)⟩
theorem abW (w:World)(hT:Tab w):Calls Tryz.prog 4 #[] w fun e w'=>e=.returned (.bool true)/\Below w.heap.size w w':=by
 have h0:1<w.heap.size:=hT.lt
 have KS:Hid (∀ u,Calls Tryz.prog 5 #[] u fun e w'=>e=.returned (Pv aP)/\Below u.heap.size u w'):=fun u=>rV u
 have KM:Hid (∀ u mp,Below w.heap.size w u->Bl u mp (Pc aP) 24->Calls Tryz.prog 6 #[Pv aP] u fun e w'=>∃ g a t o,e=.returned (.tuple #[.pointer (some ⟨g,0,none⟩),.pointer (some ⟨t,0,none⟩),.pointer (some ⟨o,0,none⟩)])/\Hid (Lp w aP aG aE g o [(t,tbO a aP),(a,alO g aP),(mp,.cells (Pc aP) 24)] 1 eV0 (fun _=>false) fV (fun _=>false) w')):=fun u mp hu hB=>wZ w hT u mp hu hB
 have KW:Hid (∀ g a t o mp v,Lp w aP aG aE g o [(t,tbO a aP),(a,alO g aP),(mp,.cells (Pc aP) 24)] 1 eV0 (fun _=>false) fV (fun _=>false) v->Calls Tryz.prog 8 #[.pointer (some ⟨o,0,none⟩),.pointer (some ⟨t,0,none⟩),Pv aP,.int .i64 3,.string (⟨#[98]⟩:ByteArray),.int .i64 2] v fun e v'=>e=.returned (.int .i64 0)/\Hid (Lp w aP aG fE3 g o [(t,tbO a aP),(a,alO g aP),(mp,.cells (Pc aP) 24)] 1 eV0 (fun _=>false) eW3 (fun _=>false) v')):=fun g a t o mp v hv=>ail (a:=a) hv (by simp) (by simp) h0
 have KR:Hid (∀ g a t o mp v,Lp w aP aG fE3 g o [(t,tbO a aP),(a,alO g aP),(mp,.cells (Pc aP) 24)] 1 eV0 (fun _=>false) eW3 (fun _=>false) v->Calls Tryz.prog 7 #[.pointer (some ⟨o,0,none⟩),.pointer (some ⟨t,0,none⟩),Pv aP,.int .i64 3,.string (⟨#[98]⟩:ByteArray)] v fun e v'=>e=.returned (.tuple #[.int .i64 2,.int .i64 0])/\Hid (Below w.heap.size w v')):=fun g a t o mp v hv=>(ain (a:=a) hv (by simp) h0).mono (fun e v' ⟨x,y⟩=>⟨x,hide (ah y).bel⟩)
 have KB:Hid (∀ g a t o mp v,Lp w aP aG aE g o [(t,tbO a aP),(a,alO g aP),(mp,.cells (Pc aP) 24)] 1 eV0 (fun _=>false) fV (fun _=>false) v->Bl v mp (Pc aP) 24):=fun g a t o mp v hv=>hv.row (x:=(mp,.cells (Pc aP) 24)) (by simp)
 have KB3:Hid (∀ g a t o mp v,Lp w aP aG fE3 g o [(t,tbO a aP),(a,alO g aP),(mp,.cells (Pc aP) 24)] 1 eV0 (fun _=>false) eW3 (fun _=>false) v->Bl v mp (Pc aP) 24):=fun g a t o mp v hv=>hv.row (x:=(mp,.cells (Pc aP) 24)) (by simp)
 clear hT h0
 generalize aP=p at *
 go_enter Tryz.func4,Tryz.ntmps4
 go_wp2_with fail
 go_at_call 5
 refine(ah KS _).mono ?_
 rintro e w2 ⟨rfl,hb2⟩
 have KM2:=hide (ah KM (w2.alloc (.cells (Pc p) 24)) w2.heap.size (hb2.alloc hb2.size _) (Bl.new w2 (Pc p) 24))
 have bp:=Bl.new w2 (Pc p) 24
 clear KS hb2 KM
 go_upto_region 2 with (refine wpList_store_row rfl 24 _ _ rfl w2.heap.size (Pc p) rfl rfl 24 #[.int .i64 0,.int .i64 0,.int .i64 0,.int .i64 0,.int .i64 0,.int .i64 0,.int .i64 0,.int .i64 0,.int .i64 0,.int .i64 0,.int .i64 0,.int .i64 0] (World.alloc_heap_new _ _) (by kernel_rfl) rfl (by simp[Value.oneCell']) ?_;rw[World.setRow_alloc_new])
 change Code.wp _ _ _ _ (w2.alloc (.cells (Pc p) 24))
 generalize w2.alloc (.cells (Pc p) 24)=w3 at *
 generalize w2.heap.size=mp at *
 have y0:=bp.cell 0 (.int .i64 (p 0)) rfl
 have y1:=bp.cell 1 (.int .i64 (p 1)) rfl
 have y2:=bp.cell 2 (.int .i64 (p 2)) rfl
 have y3:=bp.cell 3 (.int .i64 (p 3)) rfl
 have y4:=bp.cell 4 (.int .i64 (p 4)) rfl
 have y5:=bp.cell 5 (.int .i64 (p 5)) rfl
 have y6:=bp.cell 6 (.int .i64 (p 6)) rfl
 have y7:=bp.cell 7 (.int .i64 (p 7)) rfl
 have y8:=bp.cell 8 (.int .i64 (p 8)) rfl
 have y9:=bp.cell 9 (.int .i64 (p 9)) rfl
 have y10:=bp.cell 10 (.int .i64 (p 10)) rfl
 have y11:=bp.cell 11 (.int .i64 (p 11)) rfl
 clear bp
 go_wp2_with fail
 go_at_call 6
 refine(ah KM2).mono ?_
 rintro e v1 ⟨g,a,t,o,rfl,L⟩
 clear KM2 y0 y1 y2 y3 y4 y5 y6 y7 y8 y9 y10 y11
 have bp:=ah KB g a t o mp v1 (ah L)
 have y0:=bp.cell 0 (.int .i64 (p 0)) rfl
 have y1:=bp.cell 1 (.int .i64 (p 1)) rfl
 have y2:=bp.cell 2 (.int .i64 (p 2)) rfl
 have y3:=bp.cell 3 (.int .i64 (p 3)) rfl
 have y4:=bp.cell 4 (.int .i64 (p 4)) rfl
 have y5:=bp.cell 5 (.int .i64 (p 5)) rfl
 have y6:=bp.cell 6 (.int .i64 (p 6)) rfl
 have y7:=bp.cell 7 (.int .i64 (p 7)) rfl
 have y8:=bp.cell 8 (.int .i64 (p 8)) rfl
 have y9:=bp.cell 9 (.int .i64 (p 9)) rfl
 have y10:=bp.cell 10 (.int .i64 (p 10)) rfl
 have y11:=bp.cell 11 (.int .i64 (p 11)) rfl
 have KW2:=hide (ah KW g a t o mp v1 (ah L))
 clear bp L KW KB
 go_wp2_with fail
 go_at_call 8
 refine(ah KW2).mono ?_
 rintro e v2 ⟨rfl,L⟩
 clear KW2 y0 y1 y2 y3 y4 y5 y6 y7 y8 y9 y10 y11
 have bp:=ah KB3 g a t o mp v2 (ah L)
 have y0:=bp.cell 0 (.int .i64 (p 0)) rfl
 have y1:=bp.cell 1 (.int .i64 (p 1)) rfl
 have y2:=bp.cell 2 (.int .i64 (p 2)) rfl
 have y3:=bp.cell 3 (.int .i64 (p 3)) rfl
 have y4:=bp.cell 4 (.int .i64 (p 4)) rfl
 have y5:=bp.cell 5 (.int .i64 (p 5)) rfl
 have y6:=bp.cell 6 (.int .i64 (p 6)) rfl
 have y7:=bp.cell 7 (.int .i64 (p 7)) rfl
 have y8:=bp.cell 8 (.int .i64 (p 8)) rfl
 have y9:=bp.cell 9 (.int .i64 (p 9)) rfl
 have y10:=bp.cell 10 (.int .i64 (p 10)) rfl
 have y11:=bp.cell 11 (.int .i64 (p 11)) rfl
 have KR2:=hide (ah KR g a t o mp v2 (ah L))
 clear bp L KR KB3
 go_wp2_with fail
 go_at_call 7
 refine(ah KR2).mono ?_
 rintro e v3 ⟨rfl,Y⟩
 clear KR2 y0 y1 y2 y3 y4 y5 y6 y7 y8 y9 y10 y11
 go_wp2_with fail
 go_ret
 exact⟨rfl,ah Y⟩
theorem abX (w:World)(hT:Tab w):Calls Tryz.prog 3 #[] w fun e w'=>e=.returned (.bool true)/\Below w.heap.size w w':=by
 have h0:1<w.heap.size:=hT.lt
 have KW:=hide (abW w hT)
 have KS:Hid (∀ u,Calls Tryz.prog 5 #[] u fun e w'=>e=.returned (Pv aP)/\Below u.heap.size u w'):=fun u=>rV u
 have KM:Hid (∀ u mp,Below w.heap.size w u->Bl u mp (Pc aP) 24->Calls Tryz.prog 6 #[Pv aP] u fun e w'=>∃ g a t o,e=.returned (.tuple #[.pointer (some ⟨g,0,none⟩),.pointer (some ⟨t,0,none⟩),.pointer (some ⟨o,0,none⟩)])/\Hid (Lp w aP aG aE g o [(t,tbO a aP),(a,alO g aP),(mp,.cells (Pc aP) 24)] 1 eV0 (fun _=>false) fV (fun _=>false) w')):=fun u mp hu hB=>wZ w hT u mp hu hB
 have Ca:Hid (∀ g a t o mp v,Lp w aP aG aE g o [(t,tbO a aP),(a,alO g aP),(mp,.cells (Pc aP) 24)] 1 eV0 (fun _=>false) fV (fun _=>false) v->Calls Tryz.prog 7 #[.pointer (some ⟨o,0,none⟩),.pointer (some ⟨t,0,none⟩),Pv aP,.int .i64 2,.string (⟨#[97]⟩:ByteArray)] v fun e v'=>e=.returned (.tuple #[.int .i64 0,.int .i64 13])/\Hid (Lp w aP aG aE g o [(t,tbO a aP),(a,alO g aP),(mp,.cells (Pc aP) 24)] 1 eV0 (fun _=>false) fV (fun _=>false) v')):=fun g a t o mp v hv=>xE (bF (E:=aE) (V':=fV) h0) hv aP _ _ 2 (⟨#[97]⟩:ByteArray) 13 (by omega) (fun vO v1 hs1 hv1=>rZ (bF (E:=aE) (V':=fV) h0) hv1 aP _ _ 2 (⟨#[97]⟩:ByteArray) nmA 13 (by omega) (fun eH v2 hs2 hv2=>rY (bF (E:=aE) (V':=fV) h0) hv2 aP _ _ x1 2 13 (.inr ⟨rfl,rfl⟩) (fun akn v3 hs3 hv3=>agk (a:=a) hv3 (hs3 _ (hs2 _ (hs1 _ (by simp)))) h0 (by decide) aii acz)))
 have Cb:Hid (∀ g a t o mp v,Lp w aP aG aE g o [(t,tbO a aP),(a,alO g aP),(mp,.cells (Pc aP) 24)] 1 eV0 (fun _=>false) fV (fun _=>false) v->Calls Tryz.prog 8 #[.pointer (some ⟨o,0,none⟩),.pointer (some ⟨t,0,none⟩),Pv aP,.int .i64 4,.string (⟨#[97]⟩:ByteArray),.int .i64 1] v fun e v'=>e=.returned (.int .i64 11)/\Hid (Lp w aP aG aE g o [(t,tbO a aP),(a,alO g aP),(mp,.cells (Pc aP) 24)] 1 eV0 (fun _=>false) fV (fun _=>false) v')):=fun g a t o mp v hv=>xC (bF (E:=aE) (V':=fV) h0) hv aP _ _ 4 (⟨#[97]⟩:ByteArray) 1 11 (by omega) (fun v2=>(xQ (⟨#[97]⟩:ByteArray) 1 v2 nmA (by omega) (by decide)).mono (fun e u' ⟨k,e1,_,hb⟩=>⟨⟨_,_,e1⟩,hb⟩)) (fun vO v1 hs1 hv1=>rY (bF (E:=aE) (V':=fV) h0) hv1 aP _ _ dB 4 11 (.inl ⟨rfl,rfl⟩) (fun eH v2 hs2 hv2=>acA (a:=a) hv2 4 (hs2 _ (hs1 _ (by simp))) h0 ako.1 ako.2.1 ako.2.2 (by decide) (by decide) amd))
 have Cc:Hid (∀ g a t o mp v,Lp w aP aG aE g o [(t,tbO a aP),(a,alO g aP),(mp,.cells (Pc aP) 24)] 1 eV0 (fun _=>false) fV (fun _=>false) v->Calls Tryz.prog 8 #[.pointer (some ⟨o,0,none⟩),.pointer (some ⟨t,0,none⟩),Pv aP,.int .i64 3,.string (⟨#[46,46]⟩:ByteArray),.int .i64 1] v fun e v'=>e=.returned (.int .i64 16)/\Hid (Lp w aP aG aE g o [(t,tbO a aP),(a,alO g aP),(mp,.cells (Pc aP) 24)] 1 eV0 (fun _=>false) fV (fun _=>false) v')):=fun g a t o mp v hv=>jc (bF (E:=aE) (V':=fV) h0) hv aP _ _ 3 (⟨#[46,46]⟩:ByteArray) 1 16 (by omega) (fun v2=>sG (⟨#[46,46]⟩:ByteArray) 1 v2 (by decide) nmD)
 have Cd:Hid (∀ g a t o mp v,Lp w aP aG aE g o [(t,tbO a aP),(a,alO g aP),(mp,.cells (Pc aP) 24)] 1 eV0 (fun _=>false) fV (fun _=>false) v->Calls Tryz.prog 8 #[.pointer (some ⟨o,0,none⟩),.pointer (some ⟨t,0,none⟩),Pv aP,.int .i64 3,.string (⟨#[97]⟩:ByteArray),.int .i64 0] v fun e v'=>e=.returned (.int .i64 3)/\Hid (Lp w aP aG aE g o [(t,tbO a aP),(a,alO g aP),(mp,.cells (Pc aP) 24)] 1 eV0 (fun _=>false) fV (fun _=>false) v')):=fun g a t o mp v hv=>jc (bF (E:=aE) (V':=fV) h0) hv aP _ _ 3 (⟨#[97]⟩:ByteArray) 0 3 (by omega) (fun v2=>qy (⟨#[97]⟩:ByteArray) 0 v2 nmA (.inl (by omega)))
 have Ce:Hid (∀ g a t o mp v,Lp w aP aG aE g o [(t,tbO a aP),(a,alO g aP),(mp,.cells (Pc aP) 24)] 1 eV0 (fun _=>false) fV (fun _=>false) v->Calls Tryz.prog 9 #[.pointer (some ⟨o,0,none⟩),.pointer (some ⟨t,0,none⟩),Pv aP,.int .i64 3,.string (⟨#[97]⟩:ByteArray),.int .i64 65536] v fun e v'=>e=.returned (.int .i64 3)/\Hid (Lp w aP aG aE g o [(t,tbO a aP),(a,alO g aP),(mp,.cells (Pc aP) 24)] 1 eV0 (fun _=>false) fV (fun _=>false) v')):=fun g a t o mp v hv=>acf (bF (E:=aE) (V':=fV) h0) hv aP _ _ 3 (⟨#[97]⟩:ByteArray) 65536 3 (by omega) (fun v2=>qy (⟨#[97]⟩:ByteArray) 65536 v2 nmA (.inr (by omega)))
 have Cf:Hid (∀ g a t o mp v,Lp w aP aG aE g o [(t,tbO a aP),(a,alO g aP),(mp,.cells (Pc aP) 24)] 1 eV0 (fun _=>false) fV (fun _=>false) v->Calls Tryz.prog 10 #[.pointer (some ⟨o,0,none⟩),.pointer (some ⟨t,0,none⟩),Pv aP,.int .i64 3,.string (⟨#[97]⟩:ByteArray)] v fun e v'=>e=.returned (.int .i64 11)/\Hid (Lp w aP aG aE g o [(t,tbO a aP),(a,alO g aP),(mp,.cells (Pc aP) 24)] 1 eV0 (fun _=>false) fV (fun _=>false) v')):=fun g a t o mp v hv=>aae (bF (E:=aE) (V':=fV) h0) hv aP _ _ 3 (⟨#[97]⟩:ByteArray) 11 (by omega) (fun vO v1 hs1 hv1=>ace (bF (E:=aE) (V':=fV) h0) hv1 aP o t 3 (⟨#[97]⟩:ByteArray) nmA (fun eH v2 hs2 hv2=>qm (bF (E:=aE) (V':=fV) h0) hv2 aP _ _ xD 3 rfl rfl (by rw[sQ,qB.1];omega) (fun v=>jL aP v aPG.chk) (fun abj v9 hs9 hv9=>mJ (a:=a) hv9 (hs9 _ (hs2 _ (hs1 _ (by simp)))) h0 (by decide) aii lM) (fun f abj v9 hf hv9=>qj (bF (E:=aE) (V':=fV) h0) hv9 f _ _ hf none 0 rfl)))
 have Cg:Hid (∀ g a t o mp v,Lp w aP aG aE g o [(t,tbO a aP),(a,alO g aP),(mp,.cells (Pc aP) 24)] 1 eV0 (fun _=>false) fV (fun _=>false) v->Calls Tryz.prog 11 #[.pointer (some ⟨o,0,none⟩),.pointer (some ⟨t,0,none⟩),Pv aP,.int .i64 9] v fun e v'=>e=.returned (.tuple #[.slice none 0 0,.int .i64 2])/\Hid (Lp w aP aG aE g o [(t,tbO a aP),(a,alO g aP),(mp,.cells (Pc aP) 24)] 1 eV0 (fun _=>false) fV (fun _=>false) v')):=fun g a t o mp v hv=>xB (bF (E:=aE) (V':=fV) h0) hv aP _ _ 9 2 (by omega) (fun vO v1 hs1 hv1=>ql (bF (E:=aE) (V':=fV) h0) hv1 aP _ _ 9 2 (by omega) (fun eH v2 hs2 hv2=>(aaU _ _ v2 (hv2.row (x:=(t,tbO a aP)) (hs2 _ (hs1 _ (by simp)))) alX).mono (fun e u' ⟨x,y⟩=>⟨x,hv2.later y⟩)))
 have Ch:Hid (∀ g a t o mp v,Lp w aP aG aE g o [(t,tbO a aP),(a,alO g aP),(mp,.cells (Pc aP) 24)] 1 eV0 (fun _=>false) fV (fun _=>false) v->Calls Tryz.prog 7 #[.pointer (some ⟨o,0,none⟩),.pointer none,Pv aP,.int .i64 3,.string (⟨#[97]⟩:ByteArray)] v fun e v'=>e=.returned (.tuple #[.int .i64 0,.int .i64 1])/\Hid (Lp w aP aG aE g o [(t,tbO a aP),(a,alO g aP),(mp,.cells (Pc aP) 24)] 1 eV0 (fun _=>false) fV (fun _=>false) v')):=fun g a t o mp v hv=>xE (bF (E:=aE) (V':=fV) h0) hv aP _ none 3 (⟨#[97]⟩:ByteArray) 1 (by omega) (fun vO v1 hs1 hv1=>rZ (bF (E:=aE) (V':=fV) h0) hv1 aP _ none 3 (⟨#[97]⟩:ByteArray) nmA 1 (by omega) (fun eH v2 hs2 hv2=>ql (bF (E:=aE) (V':=fV) h0) hv2 aP _ none 3 1 (by omega) (fun akn v3 hs3 hv3=>(aeU _ _ v3).mono (fun e u' ⟨x,y⟩=>⟨x,hv3.later y⟩))))
 have CL:Hid (∀ g a t o mp v,Lp w aP aG aE g o [(t,tbO a aP),(a,alO g aP),(mp,.cells (Pc aP) 24)] 1 eV0 (fun _=>false) fV (fun _=>false) v->Calls Tryz.prog 12 #[.pointer (some ⟨o,0,none⟩)] v fun e u1=>e=.returned (.int .i64 0)/\Hid (Bl u1 mp (Pc aP) 24/\Below w.heap.size w u1/\(∀ v2,Below u1.heap.size u1 v2->Calls Tryz.prog 11 #[.pointer (some ⟨o,0,none⟩),.pointer (some ⟨t,0,none⟩),Pv aP,.int .i64 3] v2 fun e v'=>e=.returned (.tuple #[.slice none 0 0,.int .i64 22])/\Below u1.heap.size u1 v')/\∀ v2,Below u1.heap.size u1 v2->Calls Tryz.prog 8 #[.pointer (some ⟨o,0,none⟩),.pointer (some ⟨t,0,none⟩),Pv aP,.int .i64 3,.string (⟨#[65]⟩:ByteArray),.int .i64 0] v2 fun e v'=>e=.returned (.int .i64 16)/\Below u1.heap.size u1 v')):=fun g a t o mp v hv=>by
  refine(ahU hv ajN).mono ?_
  rintro e u1 ⟨rfl,Y⟩
  refine⟨rfl,(ah Y).lo.row (x:=(mp,.cells (Pc aP) 24)) (by simp),(ah Y).lo.bel,fun v2 hv2=>?_,fun v2 hv2=>?_⟩
  ·have hrow:u1.heap[t]?=some (tbO a aP):=(ah Y).lo.row (x:=(t,tbO a aP)) (by simp)
   have hlt:t<u1.heap.size:=(Array.getElem?_eq_some_iff.1 hrow).1
   have hQ:Below u1.heap.size u1 v2/\∀ x∈([]:List (Nat×Obj)),v2.heap[x.1]?=some x.2:=⟨hv2,fun x hx=>by cases hx⟩
   refine(xB (uN u1) hQ aP _ _ 3 22 (by omega) (fun vO v1 hs1 hv1=>ql (uN u1) hv1 aP _ _ 3 22 (by omega) (fun eH v3 hs2 hv3=>?_))).mono ?_
   ·refine(acB (a:=a) (bk:=35) (at0:=32) _ 3 22 v3 ((hv3.1.block t hlt).trans hrow) nN.1 nN.2.1 nN.2.2 (by omega) (fun v4 hv4=>?_)).mono (fun e u' ⟨x,y⟩=>⟨x,(uN u1).later hv3 y⟩)
    obtain⟨cg,lg,dg,X,C,L,D,S,l,_,ov⟩:=(ah Y).later (hv3.1.trans (hv4.mono hv3.1.size))
    exact abv l.hl.gv ov _
   ·rintro e v' ⟨rfl,q⟩
    exact⟨rfl,(ah q).1⟩
  ·have hQ:Below u1.heap.size u1 v2/\∀ x∈([]:List (Nat×Obj)),v2.heap[x.1]?=some x.2:=⟨hv2,fun x hx=>by cases hx⟩
   refine(jc (uN u1) hQ aP _ _ 3 (⟨#[65]⟩:ByteArray) 0 16 (by omega) (fun v3=>sG (⟨#[65]⟩:ByteArray) 0 v3 (by decide) nmU)).mono ?_
   rintro e v' ⟨rfl,q⟩
   exact⟨rfl,(ah q).1⟩
 clear hT h0
 generalize aP=p at *
 go_enter Tryz.func3,Tryz.ntmps3
 go_wp2_with fail
 go_at_call 4
 refine(ah KW).mono ?_
 rintro e w1 ⟨rfl,hb1⟩
 have HB1:=hide hb1
 clear KW hb1
 go_wp2_with fail
 go_at_call 5
 refine(ah KS _).mono ?_
 rintro e w2 ⟨rfl,hb2⟩
 have HB2:=hide ((ah HB1).trans (hb2.mono (ah HB1).size))
 have KM2:=hide (ah KM (w2.alloc (.cells (Pc p) 24)) w2.heap.size ((ah HB2).alloc (ah HB2).size _) (Bl.new w2 (Pc p) 24))
 have bp:=Bl.new w2 (Pc p) 24
 clear KS HB1 hb2 HB2 KM
 go_upto_region 4 with (refine wpList_store_row rfl 24 _ _ rfl w2.heap.size (Pc p) rfl rfl 24 #[.int .i64 0,.int .i64 0,.int .i64 0,.int .i64 0,.int .i64 0,.int .i64 0,.int .i64 0,.int .i64 0,.int .i64 0,.int .i64 0,.int .i64 0,.int .i64 0] (World.alloc_heap_new _ _) (by kernel_rfl) rfl (by simp[Value.oneCell']) ?_;rw[World.setRow_alloc_new])
 change Code.wp _ _ _ _ (w2.alloc (.cells (Pc p) 24))
 generalize w2.alloc (.cells (Pc p) 24)=w3 at *
 generalize w2.heap.size=mp at *
 have y0:=bp.cell 0 (.int .i64 (p 0)) rfl
 have y1:=bp.cell 1 (.int .i64 (p 1)) rfl
 have y2:=bp.cell 2 (.int .i64 (p 2)) rfl
 have y3:=bp.cell 3 (.int .i64 (p 3)) rfl
 have y4:=bp.cell 4 (.int .i64 (p 4)) rfl
 have y5:=bp.cell 5 (.int .i64 (p 5)) rfl
 have y6:=bp.cell 6 (.int .i64 (p 6)) rfl
 have y7:=bp.cell 7 (.int .i64 (p 7)) rfl
 have y8:=bp.cell 8 (.int .i64 (p 8)) rfl
 have y9:=bp.cell 9 (.int .i64 (p 9)) rfl
 have y10:=bp.cell 10 (.int .i64 (p 10)) rfl
 have y11:=bp.cell 11 (.int .i64 (p 11)) rfl
 clear bp
 go_wp2_with fail
 go_at_call 6
 refine(ah KM2).mono ?_
 rintro e v0 ⟨g,a,t,o,rfl,L⟩
 clear KM2 y0 y1 y2 y3 y4 y5 y6 y7 y8 y9 y10 y11
 have bp:Bl v0 mp (Pc p) 24:=(ah L).row (x:=(mp,.cells (Pc p) 24)) (by simp)
 have y0:=bp.cell 0 (.int .i64 (p 0)) rfl
 have y1:=bp.cell 1 (.int .i64 (p 1)) rfl
 have y2:=bp.cell 2 (.int .i64 (p 2)) rfl
 have y3:=bp.cell 3 (.int .i64 (p 3)) rfl
 have y4:=bp.cell 4 (.int .i64 (p 4)) rfl
 have y5:=bp.cell 5 (.int .i64 (p 5)) rfl
 have y6:=bp.cell 6 (.int .i64 (p 6)) rfl
 have y7:=bp.cell 7 (.int .i64 (p 7)) rfl
 have y8:=bp.cell 8 (.int .i64 (p 8)) rfl
 have y9:=bp.cell 9 (.int .i64 (p 9)) rfl
 have y10:=bp.cell 10 (.int .i64 (p 10)) rfl
 have y11:=bp.cell 11 (.int .i64 (p 11)) rfl
 clear bp
 go_wp2_with fail
 go_at_call 7
 refine(ah Ca g a t o mp _ (ah L)).mono ?_
 rintro e v1 ⟨rfl,L1⟩
 clear Ca L y0 y1 y2 y3 y4 y5 y6 y7 y8 y9 y10 y11
 have L:=hide (ah L1)
 clear L1
 have bp:Bl v1 mp (Pc p) 24:=(ah L).row (x:=(mp,.cells (Pc p) 24)) (by simp)
 have y0:=bp.cell 0 (.int .i64 (p 0)) rfl
 have y1:=bp.cell 1 (.int .i64 (p 1)) rfl
 have y2:=bp.cell 2 (.int .i64 (p 2)) rfl
 have y3:=bp.cell 3 (.int .i64 (p 3)) rfl
 have y4:=bp.cell 4 (.int .i64 (p 4)) rfl
 have y5:=bp.cell 5 (.int .i64 (p 5)) rfl
 have y6:=bp.cell 6 (.int .i64 (p 6)) rfl
 have y7:=bp.cell 7 (.int .i64 (p 7)) rfl
 have y8:=bp.cell 8 (.int .i64 (p 8)) rfl
 have y9:=bp.cell 9 (.int .i64 (p 9)) rfl
 have y10:=bp.cell 10 (.int .i64 (p 10)) rfl
 have y11:=bp.cell 11 (.int .i64 (p 11)) rfl
 clear bp
 go_wp2_with fail
 go_at_call 8
 refine(ah Cb g a t o mp _ (ah L)).mono ?_
 rintro e v2 ⟨rfl,L1⟩
 clear Cb L y0 y1 y2 y3 y4 y5 y6 y7 y8 y9 y10 y11
 have L:=hide (ah L1)
 clear L1
 have bp:Bl v2 mp (Pc p) 24:=(ah L).row (x:=(mp,.cells (Pc p) 24)) (by simp)
 have y0:=bp.cell 0 (.int .i64 (p 0)) rfl
 have y1:=bp.cell 1 (.int .i64 (p 1)) rfl
 have y2:=bp.cell 2 (.int .i64 (p 2)) rfl
 have y3:=bp.cell 3 (.int .i64 (p 3)) rfl
 have y4:=bp.cell 4 (.int .i64 (p 4)) rfl
 have y5:=bp.cell 5 (.int .i64 (p 5)) rfl
 have y6:=bp.cell 6 (.int .i64 (p 6)) rfl
 have y7:=bp.cell 7 (.int .i64 (p 7)) rfl
 have y8:=bp.cell 8 (.int .i64 (p 8)) rfl
 have y9:=bp.cell 9 (.int .i64 (p 9)) rfl
 have y10:=bp.cell 10 (.int .i64 (p 10)) rfl
 have y11:=bp.cell 11 (.int .i64 (p 11)) rfl
 clear bp
 go_wp2_with fail
 go_at_call 8
 refine(ah Cc g a t o mp _ (ah L)).mono ?_
 rintro e v3 ⟨rfl,L1⟩
 clear Cc L y0 y1 y2 y3 y4 y5 y6 y7 y8 y9 y10 y11
 have L:=hide (ah L1)
 clear L1
 have bp:Bl v3 mp (Pc p) 24:=(ah L).row (x:=(mp,.cells (Pc p) 24)) (by simp)
 have y0:=bp.cell 0 (.int .i64 (p 0)) rfl
 have y1:=bp.cell 1 (.int .i64 (p 1)) rfl
 have y2:=bp.cell 2 (.int .i64 (p 2)) rfl
 have y3:=bp.cell 3 (.int .i64 (p 3)) rfl
 have y4:=bp.cell 4 (.int .i64 (p 4)) rfl
 have y5:=bp.cell 5 (.int .i64 (p 5)) rfl
 have y6:=bp.cell 6 (.int .i64 (p 6)) rfl
 have y7:=bp.cell 7 (.int .i64 (p 7)) rfl
 have y8:=bp.cell 8 (.int .i64 (p 8)) rfl
 have y9:=bp.cell 9 (.int .i64 (p 9)) rfl
 have y10:=bp.cell 10 (.int .i64 (p 10)) rfl
 have y11:=bp.cell 11 (.int .i64 (p 11)) rfl
 clear bp
 go_wp2_with fail
 go_at_call 8
 refine(ah Cd g a t o mp _ (ah L)).mono ?_
 rintro e v4 ⟨rfl,L1⟩
 clear Cd L y0 y1 y2 y3 y4 y5 y6 y7 y8 y9 y10 y11
 have L:=hide (ah L1)
 clear L1
 have bp:Bl v4 mp (Pc p) 24:=(ah L).row (x:=(mp,.cells (Pc p) 24)) (by simp)
 have y0:=bp.cell 0 (.int .i64 (p 0)) rfl
 have y1:=bp.cell 1 (.int .i64 (p 1)) rfl
 have y2:=bp.cell 2 (.int .i64 (p 2)) rfl
 have y3:=bp.cell 3 (.int .i64 (p 3)) rfl
 have y4:=bp.cell 4 (.int .i64 (p 4)) rfl
 have y5:=bp.cell 5 (.int .i64 (p 5)) rfl
 have y6:=bp.cell 6 (.int .i64 (p 6)) rfl
 have y7:=bp.cell 7 (.int .i64 (p 7)) rfl
 have y8:=bp.cell 8 (.int .i64 (p 8)) rfl
 have y9:=bp.cell 9 (.int .i64 (p 9)) rfl
 have y10:=bp.cell 10 (.int .i64 (p 10)) rfl
 have y11:=bp.cell 11 (.int .i64 (p 11)) rfl
 clear bp
 go_wp2_with fail
 go_at_call 9
 refine(ah Ce g a t o mp _ (ah L)).mono ?_
 rintro e v5 ⟨rfl,L1⟩
 clear Ce L y0 y1 y2 y3 y4 y5 y6 y7 y8 y9 y10 y11
 have L:=hide (ah L1)
 clear L1
 have bp:Bl v5 mp (Pc p) 24:=(ah L).row (x:=(mp,.cells (Pc p) 24)) (by simp)
 have y0:=bp.cell 0 (.int .i64 (p 0)) rfl
 have y1:=bp.cell 1 (.int .i64 (p 1)) rfl
 have y2:=bp.cell 2 (.int .i64 (p 2)) rfl
 have y3:=bp.cell 3 (.int .i64 (p 3)) rfl
 have y4:=bp.cell 4 (.int .i64 (p 4)) rfl
 have y5:=bp.cell 5 (.int .i64 (p 5)) rfl
 have y6:=bp.cell 6 (.int .i64 (p 6)) rfl
 have y7:=bp.cell 7 (.int .i64 (p 7)) rfl
 have y8:=bp.cell 8 (.int .i64 (p 8)) rfl
 have y9:=bp.cell 9 (.int .i64 (p 9)) rfl
 have y10:=bp.cell 10 (.int .i64 (p 10)) rfl
 have y11:=bp.cell 11 (.int .i64 (p 11)) rfl
 clear bp
 go_wp2_with fail
 go_at_call 10
 refine(ah Cf g a t o mp _ (ah L)).mono ?_
 rintro e v6 ⟨rfl,L1⟩
 clear Cf L y0 y1 y2 y3 y4 y5 y6 y7 y8 y9 y10 y11
 have L:=hide (ah L1)
 clear L1
 have bp:Bl v6 mp (Pc p) 24:=(ah L).row (x:=(mp,.cells (Pc p) 24)) (by simp)
 have y0:=bp.cell 0 (.int .i64 (p 0)) rfl
 have y1:=bp.cell 1 (.int .i64 (p 1)) rfl
 have y2:=bp.cell 2 (.int .i64 (p 2)) rfl
 have y3:=bp.cell 3 (.int .i64 (p 3)) rfl
 have y4:=bp.cell 4 (.int .i64 (p 4)) rfl
 have y5:=bp.cell 5 (.int .i64 (p 5)) rfl
 have y6:=bp.cell 6 (.int .i64 (p 6)) rfl
 have y7:=bp.cell 7 (.int .i64 (p 7)) rfl
 have y8:=bp.cell 8 (.int .i64 (p 8)) rfl
 have y9:=bp.cell 9 (.int .i64 (p 9)) rfl
 have y10:=bp.cell 10 (.int .i64 (p 10)) rfl
 have y11:=bp.cell 11 (.int .i64 (p 11)) rfl
 clear bp
 go_wp2_with fail
 go_at_call 11
 refine(ah Cg g a t o mp _ (ah L)).mono ?_
 rintro e v7 ⟨rfl,L1⟩
 clear Cg L y0 y1 y2 y3 y4 y5 y6 y7 y8 y9 y10 y11
 have L:=hide (ah L1)
 clear L1
 have bp:Bl v7 mp (Pc p) 24:=(ah L).row (x:=(mp,.cells (Pc p) 24)) (by simp)
 have y0:=bp.cell 0 (.int .i64 (p 0)) rfl
 have y1:=bp.cell 1 (.int .i64 (p 1)) rfl
 have y2:=bp.cell 2 (.int .i64 (p 2)) rfl
 have y3:=bp.cell 3 (.int .i64 (p 3)) rfl
 have y4:=bp.cell 4 (.int .i64 (p 4)) rfl
 have y5:=bp.cell 5 (.int .i64 (p 5)) rfl
 have y6:=bp.cell 6 (.int .i64 (p 6)) rfl
 have y7:=bp.cell 7 (.int .i64 (p 7)) rfl
 have y8:=bp.cell 8 (.int .i64 (p 8)) rfl
 have y9:=bp.cell 9 (.int .i64 (p 9)) rfl
 have y10:=bp.cell 10 (.int .i64 (p 10)) rfl
 have y11:=bp.cell 11 (.int .i64 (p 11)) rfl
 clear bp
 go_wp2_with fail
 go_at_call 7
 refine(ah Ch g a t o mp _ (ah L)).mono ?_
 rintro e v8 ⟨rfl,L1⟩
 clear Ch L y0 y1 y2 y3 y4 y5 y6 y7 y8 y9 y10 y11
 have L:=hide (ah L1)
 clear L1
 go_wp2_with fail
 go_at_call 12
 refine(ah CL g a t o mp _ (ah L)).mono ?_
 rintro e u1 ⟨rfl,Y⟩
 obtain⟨bp,hbw,hli,hin⟩:=ah Y
 have HBW:=hide hbw
 have HLI:=hide (hli u1 (Below.refl _ _))
 have HIN:=hide hin
 have HBP:=hide bp
 clear CL L Y hbw hli hin
 have y0:=bp.cell 0 (.int .i64 (p 0)) rfl
 have y1:=bp.cell 1 (.int .i64 (p 1)) rfl
 have y2:=bp.cell 2 (.int .i64 (p 2)) rfl
 have y3:=bp.cell 3 (.int .i64 (p 3)) rfl
 have y4:=bp.cell 4 (.int .i64 (p 4)) rfl
 have y5:=bp.cell 5 (.int .i64 (p 5)) rfl
 have y6:=bp.cell 6 (.int .i64 (p 6)) rfl
 have y7:=bp.cell 7 (.int .i64 (p 7)) rfl
 have y8:=bp.cell 8 (.int .i64 (p 8)) rfl
 have y9:=bp.cell 9 (.int .i64 (p 9)) rfl
 have y10:=bp.cell 10 (.int .i64 (p 10)) rfl
 have y11:=bp.cell 11 (.int .i64 (p 11)) rfl
 clear bp
 go_wp2_with fail
 go_at_call 11
 refine(ah HLI).mono ?_
 rintro e u2 ⟨rfl,hb⟩
 have HI2:=hide (ah HIN u2 hb)
 have bp:Bl u2 mp (Pc p) 24:=(hb.block mp (Array.getElem?_eq_some_iff.1 (ah HBP)).1).trans (ah HBP)
 clear HLI HIN HBP hb y0 y1 y2 y3 y4 y5 y6 y7 y8 y9 y10 y11
 have y0:=bp.cell 0 (.int .i64 (p 0)) rfl
 have y1:=bp.cell 1 (.int .i64 (p 1)) rfl
 have y2:=bp.cell 2 (.int .i64 (p 2)) rfl
 have y3:=bp.cell 3 (.int .i64 (p 3)) rfl
 have y4:=bp.cell 4 (.int .i64 (p 4)) rfl
 have y5:=bp.cell 5 (.int .i64 (p 5)) rfl
 have y6:=bp.cell 6 (.int .i64 (p 6)) rfl
 have y7:=bp.cell 7 (.int .i64 (p 7)) rfl
 have y8:=bp.cell 8 (.int .i64 (p 8)) rfl
 have y9:=bp.cell 9 (.int .i64 (p 9)) rfl
 have y10:=bp.cell 10 (.int .i64 (p 10)) rfl
 have y11:=bp.cell 11 (.int .i64 (p 11)) rfl
 clear bp
 go_wp2_with fail
 go_at_call 8
 refine(ah HI2).mono ?_
 rintro e u3 ⟨rfl,hb⟩
 have HE:=hide ((ah HBW).trans (hb.mono (ah HBW).size))
 clear HBW HI2 hb y0 y1 y2 y3 y4 y5 y6 y7 y8 y9 y10 y11
 go_wp2_with fail
 go_ret
 exact⟨rfl,ah HE⟩
end Go.Proofs.YtefdkpbmeoakgaaGreatDoor
