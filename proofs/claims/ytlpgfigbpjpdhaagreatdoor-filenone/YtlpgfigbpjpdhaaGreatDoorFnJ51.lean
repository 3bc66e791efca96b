/- Joined: FRoom, FWrite, FWk, FNone. -/
import Derived.Test.YtlpgfigbpjpdhaaGreatDoorFnJ50
import Derived.Test.YtlpgfigbpjpdhaaGreatDoorFnJ2
import Derived.Sort.QuietIn
import Derived.Test.YtlpgfigbpjpdhaaGreatDoorFnJ45
import Derived.Test.YtlpgfigbpjpdhaaGreatDoorFnFRead
import Derived.Test.YtlpgfigbpjpdhaaGreatDoorFnJ43
import Derived.Test.YtlpgfigbpjpdhaaGreatDoorFnJ41
import Derived.Test.YtlpgfigbpjpdhaaGreatDoorFnJ39
import Derived.Lib.SlBytesConst
/- unused and room: a Write that lacks one block. Written by tools/aju.py. -/
namespace Go.Proofs.YtlpgfigbpjpdhaaGreatDoor
set_option maxRecDepth 100000
set_option maxHeartbeats 8000000
open Go.RowKit Go.Shelf Go.Maps
set_option linter.unusedVariables false
attribute [local go_sem] Oper.semAt_some
theorem ahP {n0 Q}(hq:Bun n0 Q){rows:List (Nat×Obj)}{u:World}{mw mm o tb:Nat}{P:Nat->Int}{j:Int}{X:Nat->Int}{ch bf:Value}{n:Nat}{xs:List Value}(h:LsQ n0 Q 97 2 bf n xs ((mw,.cells (Wc o tb P j X ch mm bf) 85)::rows) u)(hmw:n0<=mw)(hnr:∀ x∈rows,x.1≠mw)(hP:P 0=64/\P 1=90/\P 7=33/\P 11=37)(zs:List Int)(hzb:∀ z∈zs,0<=z/\z<=255)(us:Int)(hus:bcv 64 zs 37 90=us)(hu:0<=us/\us<=53)(hx:n=0\/n=1/\∃ bl dv,xs=[.int .i64 bl,dv]/\dv.oneCell'=true/\bl≠((33:Nat):Int))(m:Int)
  (KR:∀ rows' v,(∀ x∈rows,x∈rows')->Q rows' v->Calls Tryz.prog 85 #[.pointer (some ⟨o,0,none⟩),.int .i64 ((33:Nat):Int)] v fun e v'=>∃ k c,e=.returned (.tuple #[.slice (some ⟨k,0,none⟩) 64 c,.int .i64 0])/\Hid (∃ ob,Dr c 64 zs ob/\v.heap.size<=k/\Q ((k,ob)::rows') v')) :
  Calls Tryz.prog 82 #[.pointer (some ⟨mw,0,none⟩),.int .i64 m] u fun e v=>e=.returned (.int .i64 (53 - us))/\Hid (∃ bf',Q ((mw,.cells (Wc o tb P j X ch mm bf') 85)::rows) v):=by
 have HB:=hide hq
 have HP:=hide hP
 have HN:=hide (And.intro hmw hnr)
 have L0:=hide (h.q hq)
 have LS:=hide h
 have KK:Hid (∀ v,LsQ n0 Q 97 2 bf n xs ((mw,.cells (Wc o tb P j X ch mm bf) 85)::rows) v->Calls Tryz.prog 81 #[.pointer (some ⟨mw,0,none⟩),.int .i64 33] v fun e v'=>∃ kb c,e=.returned (.tuple #[.slice (some ⟨kb,0,none⟩) 64 c,.int .i64 0])/\Hid (∃ ob bf',Dr c 64 zs ob/\Q ((kb,ob)::(mw,.cells (Wc o tb P j X ch mm bf') 85)::rows) v')):=fun v hv=>by
  refine(wY hq hv hmw hnr hP.1 33 zs hx KR).mono ?_
  rintro e v' ⟨kb,c,rfl,Y⟩
  obtain⟨ob,bf',d1,_,q1⟩:=ah Y
  exact⟨kb,c,rfl,ob,bf',d1,q1.q hq⟩
 have HZ:=hide (And.intro hzb (And.intro hus hu))
 clear h hmw hnr hP KR hx hus hzb hu hq
 have f0:=Bl.cell ((ah HB).row (ah L0) (x:=(mw,.cells (Wc o tb P j X ch mm bf) 85)) (by simp)) 2 (.int .i64 (P 0)) rfl
 have f1:=Bl.cell ((ah HB).row (ah L0) (x:=(mw,.cells (Wc o tb P j X ch mm bf) 85)) (by simp)) 3 (.int .i64 (P 1)) rfl
 have f7:=Bl.cell ((ah HB).row (ah L0) (x:=(mw,.cells (Wc o tb P j X ch mm bf) 85)) (by simp)) 9 (.int .i64 (P 7)) rfl
 have f11:=Bl.cell ((ah HB).row (ah L0) (x:=(mw,.cells (Wc o tb P j X ch mm bf) 85)) (by simp)) 13 (.int .i64 (P 11)) rfl
 rw[(ah HP).1] at f0
 rw[(ah HP).2.1] at f1
 rw[(ah HP).2.2.1] at f7
 rw[(ah HP).2.2.2] at f11
 refine(callsIn_wide (n:=3)).1 ?_
 refine callsIn_of_wp Tryz.func82 rfl trivial ?_ rfl
 simp only[Tryz.ntmps82,List.size_toArray,List.length_cons,List.length_nil,Nat.reduceAdd,Nat.reduceSub,Array.replicate_succ,Array.replicate_zero,List.push_toArray,List.append_toArray,List.nil_append,List.cons_append]
 gi_upto_region 2 with fail
 gi_big_quiet_th (fail)
 have L1:=hide ((ah LS).later (ah HB) (below_drewN (Below.refl _ _) nq))
 clear f0 f1 f7 f11 L0 LS
 generalize u.drewN nq=w1 at *
 gi_wp2
 gi_loopw [6,7] (fun sv tv wr=>(sv=.int .i64 0/\tv=.int .i64 0/\Hid (LsQ n0 Q 97 2 bf n xs ((mw,.cells (Wc o tb P j X ch mm bf) 85)::rows) wr))\/(sv=.int .i64 (53 - us)/\tv=.int .i64 512/\Hid (∃ bf',Q ((mw,.cells (Wc o tb P j X ch mm bf') 85)::rows) wr))) (fun _ tv _=>(512 - intOf tv).toNat)
 case atStart=>exact .inl ⟨by go_num,by go_num,L1⟩
 case round =>
  rcases hrel with ⟨rfl,rfl,L2⟩ | ⟨rfl,rfl,L2⟩
  ·have Q2:=(ah L2).q (ah HB)
   have f0:=Bl.cell ((ah HB).row Q2 (x:=(mw,.cells (Wc o tb P j X ch mm bf) 85)) (by simp)) 2 (.int .i64 (P 0)) rfl
   have f1:=Bl.cell ((ah HB).row Q2 (x:=(mw,.cells (Wc o tb P j X ch mm bf) 85)) (by simp)) 3 (.int .i64 (P 1)) rfl
   have f7:=Bl.cell ((ah HB).row Q2 (x:=(mw,.cells (Wc o tb P j X ch mm bf) 85)) (by simp)) 9 (.int .i64 (P 7)) rfl
   have f11:=Bl.cell ((ah HB).row Q2 (x:=(mw,.cells (Wc o tb P j X ch mm bf) 85)) (by simp)) 13 (.int .i64 (P 11)) rfl
   rw[(ah HP).1] at f0
   rw[(ah HP).2.1] at f1
   rw[(ah HP).2.2.1] at f7
   rw[(ah HP).2.2.2] at f11
   clear Q2
   gi_wp2
   refine aQ 11 (by kernel_rfl) (by kernel_rfl) ?_
   simp only[List.take_succ_cons,List.take_zero,List.drop_succ_cons,List.drop_zero]
   repeat (gi_big_quiet_step (fail))
   refine wpQuietIn_nil ?_
   rintro _ ⟨nq3,rfl⟩
   have K3:=hide (ah KK _ ((ah L2).later (ah HB) (below_drewN (Below.refl _ _) nq3)))
   generalize wr.drewN nq3=w3 at *
   clear f0 f1 f7 f11 L2
   gi_wp2
   refine⟨trivial,?_⟩
   refine(callsIn_wide.2 (ah K3)).mono ?_
   rintro e w4 ⟨kb,c,rfl,Y⟩
   clear K3
   gi_wp2
   refine ay ?_
   repeat (gi_big_quiet_step (fail))
   refine wpQuietIn_nil ?_
   rintro _ ⟨nq4,rfl⟩
   obtain⟨ob,bf',d1,q1⟩:=ah Y
   have L4:=hide ((ah HB).later q1 (below_drewN (Below.refl _ _) nq4))
   have HD:=hide d1
   clear Y d1 q1
   generalize w4.drewN nq4=w5 at *
   have f0:=Bl.cell ((ah HB).row (ah L4) (x:=(mw,.cells (Wc o tb P j X ch mm bf') 85)) (by simp)) 2 (.int .i64 (P 0)) rfl
   have f1:=Bl.cell ((ah HB).row (ah L4) (x:=(mw,.cells (Wc o tb P j X ch mm bf') 85)) (by simp)) 3 (.int .i64 (P 1)) rfl
   have f7:=Bl.cell ((ah HB).row (ah L4) (x:=(mw,.cells (Wc o tb P j X ch mm bf') 85)) (by simp)) 9 (.int .i64 (P 7)) rfl
   have f11:=Bl.cell ((ah HB).row (ah L4) (x:=(mw,.cells (Wc o tb P j X ch mm bf') 85)) (by simp)) 13 (.int .i64 (P 11)) rfl
   rw[(ah HP).1] at f0
   rw[(ah HP).2.1] at f1
   rw[(ah HP).2.2.1] at f7
   rw[(ah HP).2.2.2] at f11
   gi_upto_region 8 with fail
   gi_big_quiet_th (fail)
   have L5:=hide ((ah HB).later (ah L4) (below_drewN (Below.refl _ _) nq))
   clear L4 f0 f1 f7 f11
   generalize w5.drewN nq=w6 at *
   have K6:=hide (count_any (some ⟨kb,0,none⟩) 64 c zs 37 90 w6 ((ah HD).has ((ah HB).row (ah L5) (x:=(kb,ob)) (by simp))) (ah HZ).1 (by omega))
   rw[(ah HZ).2.1] at K6
   obtain⟨u1,u2⟩:=(ah HZ).2.2
   gi_wp2
   refine⟨trivial,?_⟩
   refine(callsIn_wide.2 (ah K6)).mono ?_
   rintro e w7 ⟨rfl,m7,rfl⟩
   have L7:Hid (∃ bf',Q ((mw,.cells (Wc o tb P j X ch mm bf') 85)::rows) (w6.drewN m7)):=⟨bf',(ah HB).pop ((ah HB).later (ah L5) (below_drewN (Below.refl _ _) m7))⟩
   clear K6 L5
   generalize w6.drewN m7=w8 at *
   gi_wp2
   go_roundw
   case rel=>exact .inr ⟨by go_num,by go_num,L7⟩
   case measure=>simp[intOf]
  ·obtain⟨bf',q2⟩:=ah L2
   have f0:=Bl.cell ((ah HB).row q2 (x:=(mw,.cells (Wc o tb P j X ch mm bf') 85)) (by simp)) 2 (.int .i64 (P 0)) rfl
   have f1:=Bl.cell ((ah HB).row q2 (x:=(mw,.cells (Wc o tb P j X ch mm bf') 85)) (by simp)) 3 (.int .i64 (P 1)) rfl
   have f7:=Bl.cell ((ah HB).row q2 (x:=(mw,.cells (Wc o tb P j X ch mm bf') 85)) (by simp)) 9 (.int .i64 (P 7)) rfl
   have f11:=Bl.cell ((ah HB).row q2 (x:=(mw,.cells (Wc o tb P j X ch mm bf') 85)) (by simp)) 13 (.int .i64 (P 11)) rfl
   rw[(ah HP).1] at f0
   rw[(ah HP).2.1] at f1
   rw[(ah HP).2.2.1] at f7
   rw[(ah HP).2.2.2] at f11
   clear q2
   gi_wp2
   go_ret
   exact⟨rfl,L2⟩
theorem LsQ.sub {n0 Q}(hq:Bun n0 Q){e:TypeId}{size:Nat}{val:Value}{n:Nat}{xs:List Value}{rows iL:List (Nat×Obj)}{v:World}(h:LsQ n0 Q e size val n xs rows v)(hs:∀ x∈iL,x∈rows):LsQ n0 Q e size val n xs iL v:=by
 rcases h with ⟨a,b,c,h⟩ | ⟨g,c,cur,h1,h2,h3,h4,h5,h6,h7,h8,h9⟩
 ·exact .inl ⟨a,b,c,hq.sub h hs⟩
 ·exact .inr ⟨g,c,cur,h1,h2,fun x hx=>h3 x (hs x hx),h4,h5,h6,h7,h8,hq.sub h9 (fun x hx=>by
   rcases List.mem_cons.1 hx with e | e
   ·rw[e];simp
   ·exact List.mem_cons_of_mem _ (hs x e))⟩
theorem adN {n0 Q}(hq:Bun n0 Q){rows:List (Nat×Obj)}{u:World}{mw mm o tb:Nat}{P:Nat->Int}{j:Int}{X:Nat->Int}{ch:Value}{me:MapEntry}(h:Q ((mm,.map #[me] 1)::(mw,.cells (Wc o tb P j X ch mm (.slice none 0 0)) 85)::rows) u)(hmw:n0<=mw)(hne:mm≠mw)(hnr:∀ x∈rows,x.1≠mw)(hP:P 0=64/\P 1=90/\P 7=33/\P 11=37)(pb pa:Int)(hpl:jc P j=0/\oN P j=((35:Nat):Int)/\oO P j=pa)(zs ys:List Int)(hzb:∀ z∈zs,0<=z/\z<=255)(us:Int)(hus:bcv 64 zs 37 90=us)(hu:0<=us/\us<53)
  (KR:∀ rows' v,(∀ x∈rows,x∈rows')->Q rows' v->Calls Tryz.prog 85 #[.pointer (some ⟨o,0,none⟩),.int .i64 ((33:Nat):Int)] v fun e v'=>∃ k c,e=.returned (.tuple #[.slice (some ⟨k,0,none⟩) 64 c,.int .i64 0])/\Hid (∃ ob,Dr c 64 zs ob/\v.heap.size<=k/\Q ((k,ob)::rows') v'))
  (KS:∀ rows' v,(∀ x∈rows,x∈rows')->Q rows' v->Calls Tryz.prog 85 #[.pointer (some ⟨o,0,none⟩),.int .i64 ((35:Nat):Int)] v fun e v'=>∃ k c,e=.returned (.tuple #[.slice (some ⟨k,0,none⟩) 64 c,.int .i64 0])/\Hid (∃ ob,Dr c 64 ys ob/\v.heap.size<=k/\Q ((k,ob)::rows') v')) :
  Calls Tryz.prog 35 #[.pointer (some ⟨mw,0,none⟩)] u fun e v=>e=.returned (.int .i64 0)/\Hid (∃ bf',Q ((mw,.cells (Wc o tb P j X ch mm bf') 85)::(mm,.map #[me] 1)::rows) v):=by
 have HB:=hide hq
 have KP:Hid (∀ v,Calls Tryz.prog 64 #[Pv P,.int .i64 j] v fun e w'=>e=.returned (.tuple #[.int .i64 35,.int .i64 pa,.int .i64 0])/\Below v.heap.size v w'):=fun v=>by
  have:=iG P j v
  rwa [hpl.1,hpl.2.1,hpl.2.2] at this
 have KK:Hid (∀ v,Q ((mm,.map #[me] 1)::(mw,.cells (Wc o tb P j X ch mm (.slice none 0 0)) 85)::rows) v->Calls Tryz.prog 81 #[.pointer (some ⟨mw,0,none⟩),.int .i64 35] v fun e v'=>∃ kb c,e=.returned (.tuple #[.slice (some ⟨kb,0,none⟩) 64 c,.int .i64 0])/\Hid (Calls Tryz.prog 82 #[.pointer (some ⟨mw,0,none⟩),.int .i64 1] v' fun e v=>e=.returned (.int .i64 (53 - us))/\Hid (∃ bf',Q ((mw,.cells (Wc o tb P j X ch mm bf') 85)::(mm,.map #[me] 1)::rows) v))):=fun v hv=>by
  have hv0:LsQ n0 Q 97 2 (.slice none 0 0) 0 [] ((mw,.cells (Wc o tb P j X ch mm (.slice none 0 0)) 85)::(mm,.map #[me] 1)::rows) v:=.inl ⟨rfl,rfl,rfl,hq.sub hv (fun x hx=>by simp only[List.mem_cons] at hx ⊢;rcases hx with e | e | e<;>simp[e])⟩
  have alk:∀ x∈(mm,Obj.map #[me] 1)::rows,x.1≠mw:=fun x hx=>by
   rcases List.mem_cons.1 hx with e | e
   ·rw[e];exact hne
   ·exact hnr x e
  refine(wY hq hv0 hmw alk hP.1 35 ys (.inl rfl) (fun rows' v' hs hv'=>KS rows' v' (fun x hx=>hs x (List.mem_cons_of_mem _ hx)) hv')).mono ?_
  rintro e v' ⟨kb,c,rfl,Y⟩
  obtain⟨ob,bf',d1,_,q1⟩:=ah Y
  refine⟨kb,c,rfl,?_⟩
  exact ahP hq (q1.sub hq (iL:=(mw,.cells (Wc o tb P j X ch mm bf') 85)::(mm,.map #[me] 1)::rows) (fun x hx=>List.mem_cons_of_mem _ hx)) hmw alk hP zs hzb us hus ⟨hu.1,by omega⟩ (.inr ⟨rfl,((35:Nat):Int),.slice (some ⟨kb,0,none⟩) 64 c,rfl,rfl,by omega⟩) 1 (fun rows' v' hs hv'=>KR rows' v' (fun x hx=>hs x (List.mem_cons_of_mem _ hx)) hv')
 have L0:=hide h
 have bw:Bl u mw (Wc o tb P j X ch mm (.slice none 0 0)) 85:=hq.row h (x:=(mw,.cells (Wc o tb P j X ch mm (.slice none 0 0)) 85)) (by simp)
 have p0:=bw.cell 2 (.int .i64 (P 0)) rfl
 have p1:=bw.cell 3 (.int .i64 (P 1)) rfl
 have p2:=bw.cell 4 (.int .i64 (P 2)) rfl
 have p3:=bw.cell 5 (.int .i64 (P 3)) rfl
 have p4:=bw.cell 6 (.int .i64 (P 4)) rfl
 have p5:=bw.cell 7 (.int .i64 (P 5)) rfl
 have p6:=bw.cell 8 (.int .i64 (P 6)) rfl
 have p7:=bw.cell 9 (.int .i64 (P 7)) rfl
 have p8:=bw.cell 10 (.int .i64 (P 8)) rfl
 have p9:=bw.cell 11 (.int .i64 (P 9)) rfl
 have p10:=bw.cell 12 (.int .i64 (P 10)) rfl
 have p11:=bw.cell 13 (.int .i64 (P 11)) rfl
 have f14:=bw.cell 14 (.int .i64 j) rfl
 have f29:=bw.cell 29 (.map (some mm)) rfl
 have hlen:∀ ty,(Builtin.len_ #[81] ty #[.map (some mm)]).run Tryz.prog u=.ok (.int .i64 1) u:=abw u mm me (hq.row h (x:=(mm,.map #[me] 1)) (by simp))
 have HU:=hide hu
 clear hq h hmw hne hnr hP hpl KR KS hus hu hzb bw
 refine(callsIn_wide (n:=3)).1 ?_
 refine callsIn_of_wp Tryz.func35 rfl trivial ?_ rfl
 simp only[Tryz.ntmps35,List.size_toArray,List.length_cons,List.length_nil,Nat.reduceAdd,Nat.reduceSub,Array.replicate_succ,Array.replicate_zero,List.push_toArray,List.append_toArray,List.nil_append,List.cons_append]
 gi_wp2
 refine aQ 10 (by kernel_rfl) (by kernel_rfl) ?_
 simp only[List.take_succ_cons,List.take_zero,List.drop_succ_cons,List.drop_zero]
 repeat (gi_big_quiet_step (fail))
 refine wpQuietIn_nil ?_
 rintro _ ⟨nq,rfl⟩
 have L1:=hide ((ah HB).later (ah L0) (below_drewN (Below.refl _ _) nq))
 generalize u.drewN nq=w1 at *
 clear L0 p0 p1 p2 p3 p4 p5 p6 p7 p8 p9 p10 p11 f14 f29 hlen
 gi_wp2
 refine⟨trivial,?_⟩
 refine(callsIn_wide.2 (ah KP w1)).mono ?_
 rintro e w2 ⟨rfl,hb2⟩
 have L2:=hide ((ah HB).later (ah L1) hb2)
 clear KP L1 hb2
 gi_wp2
 refine ay ?_
 repeat (gi_big_quiet_step (fail))
 refine wpQuietIn_nil ?_
 rintro _ ⟨nq2,rfl⟩
 have L3:=(ah HB).later (ah L2) (below_drewN (Below.refl _ _) nq2)
 have K3:=hide (ah KK _ L3)
 clear L2 L3 KK
 generalize w2.drewN nq2=w3 at *
 gi_wp2
 refine⟨trivial,?_⟩
 refine(callsIn_wide.2 (ah K3)).mono ?_
 rintro e w4 ⟨kb,c,rfl,K4⟩
 clear K3
 gi_wp2
 refine⟨trivial,?_⟩
 refine(callsIn_wide.2 (ah K4)).mono ?_
 rintro e w5 ⟨rfl,L5⟩
 obtain⟨u1,u2⟩:=ah HU
 clear K4
 gi_wp2
 go_ret
 exact⟨rfl,L5⟩
theorem abC {n0}{Q Q1 Q2 Q3:List (Nat×Obj)->World->Prop}(hq:Bun n0 Q)(hq1:Bun n0 Q1)(hq2:Bun n0 Q2)(hq3:Bun n0 Q3){rows:List (Nat×Obj)}{u:World}(h:Q rows u)(P:Nat->Int)(o tb:Nat)(j:Int)(X Y:Nat->Int)(at0:Int)(k l dl dc:Nat)(da:Option Addr)(ys:List Int)(hP:P 0=64/\P 1=90/\P 7=33/\P 11=37)(hc:aW P=0)(ha:0<=at0/\at0<=1000000)(hk:at0 / 64=(k:Int))(hl:at0%64=(l:Int))(hk8:k<8)(hd:0<dl)(hfit:l+dl<=64)(hdc:dl<=dc)(hm:¬ mfb P<=(k:Int))(he:¬ P 0*mfb P - (dl:Int)<at0)(hX:X (3+k)=0)(hX0:X 0=1)(hX2:0<=X 2/\X 2<=1000000/\at0 / 64<=X 2 / 64/\X 2<at0+(dl:Int))(pa:Int)(hpl:jc P j=0/\oN P j=((35:Nat):Int)/\oO P j=pa)(zs zt:List Int)(hzb:∀ z∈zs,0<=z/\z<=255)(us:Int)(hus:bcv 64 zs 37 90=us)(hu:0<=us/\us<53)(b:Nat)(fr:Bool)
  (HD:∀ rows' v,(∀ x∈rows,x∈rows')->Q rows' v->Has v da dl ys)
  (KO:∀ rows' v,(∀ x∈rows,x∈rows')->Q rows' v->Calls Tryz.prog 32 #[.pointer (some ⟨o,0,none⟩),.pointer (some ⟨tb,0,none⟩),Pv P,.int .i64 j] v fun e v'=>e=.returned (.tuple #[.agg (Fc (some ⟨o,0,none⟩) (some ⟨tb,0,none⟩) P j X),.int .i64 0])/\Hid (Q rows' v'))
  (KF:∀ rows' v,(∀ x∈rows,x∈rows')->Q rows' v->Calls Tryz.prog 49 #[.pointer (some ⟨tb,0,none⟩),.pointer (some ⟨o,0,none⟩),.int .i64 j,.int .i64 (k:Int)] v fun e v'=>e=.returned (.tuple #[.int .i64 0,.int .i64 0])/\Hid (Q rows' v'))
  (KR:∀ rows' v,(∀ x∈rows,x∈rows')->Q rows' v->Calls Tryz.prog 85 #[.pointer (some ⟨o,0,none⟩),.int .i64 ((33:Nat):Int)] v fun e v'=>∃ k c,e=.returned (.tuple #[.slice (some ⟨k,0,none⟩) 64 c,.int .i64 0])/\Hid (∃ ob,Dr c 64 zs ob/\v.heap.size<=k/\Q ((k,ob)::rows') v'))
  (KS:∀ rows' v,(∀ x∈rows,x∈rows')->Q rows' v->Calls Tryz.prog 85 #[.pointer (some ⟨o,0,none⟩),.int .i64 ((35:Nat):Int)] v fun e v'=>∃ k c,e=.returned (.tuple #[.slice (some ⟨k,0,none⟩) 64 c,.int .i64 0])/\Hid (∃ ob,Dr c 64 zt ob/\v.heap.size<=k/\Q ((k,ob)::rows') v'))
  (KM:∀ rows' v,(∀ x∈rows,x∈rows')->Q rows' v->Calls Tryz.prog 84 #[.pointer (some ⟨tb,0,none⟩),.pointer (some ⟨o,0,none⟩),.int .i64 j,.int .i64 (k:Int)] v fun e v'=>e=.returned (.tuple #[.int .i64 (b:Int),.bool fr,.int .i64 0])/\Hid (Q1 rows' v'))
  (KG:∀ rows' v,(∀ x∈rows,x∈rows')->Q1 rows' v->Calls Tryz.prog 38 #[.pointer (some ⟨tb,0,none⟩),.pointer (some ⟨o,0,none⟩),.int .i64 j] v fun e v'=>e=.returned (.tuple #[Iv Y,.int .i64 0])/\Hid (Q1 rows' v'))
  (KP:∀ rows' v,(∀ x∈rows,x∈rows')->Q1 rows' v->Calls Tryz.prog 29 #[.pointer (some ⟨tb,0,none⟩),.pointer (some ⟨o,0,none⟩),.int .i64 j,.agg #[.int .i64 (Y 0),.int .i64 (Y 1),.int .i64 (at0+(dl:Int)),.int .i64 (Y 3),.int .i64 (Y 4),.int .i64 (Y 5),.int .i64 (Y 6),.int .i64 (Y 7),.int .i64 (Y 8),.int .i64 (Y 9),.int .i64 (Y 10),.int .i64 (Y 11),.int .i64 (Y 12)]] v fun e v'=>e=.returned (.int .i64 0)/\Hid (Q2 rows' v'))
  (KD:∀ bk rows' v,(bk,.cells (List.replicate l (Value.int .u8 0)++ys.map (Value.int .u8)++List.replicate (64 - (l+dl)) (Value.int .u8 0)).toArray 5)∈rows'->(∀ x∈rows,x∈rows')->Q2 rows' v->Calls Tryz.prog 97 #[.pointer (some ⟨o,0,none⟩),.int .i64 (b:Int),.slice (some ⟨bk,0,none⟩) 64 64] v fun e v'=>e=.returned (.int .i64 0)/\Hid (Q3 rows' v')) :
  Calls Tryz.prog 9 #[.pointer (some ⟨o,0,none⟩),.pointer (some ⟨tb,0,none⟩),Pv P,.int .i64 j,.int .i64 at0,.slice da dl dc] u fun e u'=>e=.returned (.int .i64 0)/\Hid (Q3 rows u'):=by
 have HB:=hide hq
 have H0:=hide (hq.new h (.cells (Pc P) 24))
 have HS:=hide (And.intro (hq.sz h) (fun x hx=>hq.lt h hx:∀ x∈rows,x.1<u.heap.size))
 have KE:Hid (∀ v,Calls Tryz.prog 31 #[Pv P,.int .i64 at0,.int .i64 (dl:Int)] v fun e v'=>e=.returned (.bool false)/\Below v.heap.size v v'):=fun v=>by
  have:=lF P at0 (dl:Int) v hc (by omega)
  rwa [show (decide (P 0*mfb P - (dl:Int)<at0))=false by simpa using he] at this
 have HKO:=hide KO
 have KW:Hid (∀ v mw mm,n0<=mm->mm<mw->(∀ x∈rows,x.1<mm)->Q ((mw,.cells (Wc o tb P j X (.slice none 0 0) mm (.slice none 0 0)) 85)::(mm,.map #[] 0)::rows) v->Calls Tryz.prog 33 #[.pointer (some ⟨mw,0,none⟩),.int .i64 at0] v fun e v'=>e=.returned (.int .i64 0)/\Hid (Calls Tryz.prog 34 #[.pointer (some ⟨mw,0,none⟩),.int .i64 at0,.slice da dl dc] v' fun e v'=>e=.returned (.int .i64 0)/\Hid (Calls Tryz.prog 35 #[.pointer (some ⟨mw,0,none⟩)] v' fun e v'=>e=.returned (.int .i64 0)/\Hid (Calls Tryz.prog 36 #[.pointer (some ⟨mw,0,none⟩),.int .i64 (at0+(dl:Int))] v' fun e v'=>e=.returned (.int .i64 0)/\Hid (Q3 rows v'))))):=fun v mw mm n1 n2 n3 hv=>by
  refine(zS hq hv (fg:=mw) (cs:=(Wc o tb P j X (.slice none 0 0) mm (.slice none 0 0))) (ty:=85) (by simp) (X 2) at0 (by show some (Value.int .i64 (P 0))=_;rw[hP.1]) rfl ⟨hX2.1,hX2.2.1⟩ ha hX2.2.2.1).mono ?_
  rintro e v1 ⟨rfl,L1⟩
  refine⟨rfl,?_⟩
  refine(afW hq (mw:=mw) (mm:=mm) (o:=o) (tb:=tb) (P:=P) (j:=j) (X:=X) (bf:=.slice none 0 0) (rows:=rows) (hq.sub (ah L1) (fun x hx=>by simp only[List.mem_cons] at hx ⊢;rcases hx with e | e | e<;>simp[e])) n1 (by omega) (by omega) (fun x hx=>by have:=n3 x hx;omega) at0 k l dl dc da ys hP.1 hc ha hk hl hk8 hd hfit hdc hm hX HD KF).mono ?_
  rintro e v2 ⟨rfl,L2⟩
  refine⟨rfl,?_⟩
  obtain⟨bk,g,c,cur,⟨b1,b2,b3,b4,b5,b6⟩,q2⟩:=ah L2
  have anY:mw<v1.heap.size:=hq.lt (ah L1) (x:=(mw,.cells (Wc o tb P j X (.slice none 0 0) mm (.slice none 0 0)) 85)) (by simp)
  refine(adN hq (mm:=mm) (mw:=mw) (o:=o) (tb:=tb) (P:=P) (j:=j) (X:=X) (ch:=.slice (some ⟨g,0,none⟩) 1 c) (me:=⟨mP (k:Int),.agg #[],0⟩) (rows:=(g,.cells cur 150)::(bk,.cells (List.replicate l (Value.int .u8 0)++ys.map (Value.int .u8)++List.replicate (64 - (l+dl)) (Value.int .u8 0)).toArray 5)::rows) (hq.sub q2 (fun x hx=>by simp only[List.mem_cons,List.nil_append] at hx ⊢;rcases hx with e | e | e | e | e<;>simp[e])) (by omega) (by omega) (fun x hx=>by
   simp only[List.mem_cons] at hx
   rcases hx with e | e | e
   ·rw[e];show g≠mw;omega
   ·rw[e];show bk≠mw;omega
   ·have:=n3 x e;omega) hP 0 pa hpl zs zt hzb us hus hu (fun rows' v' hs hv'=>KR rows' v' (fun x hx=>hs x (by simp[hx])) hv') (fun rows' v' hs hv'=>KS rows' v' (fun x hx=>hs x (by simp[hx])) hv')).mono ?_
  rintro e v3 ⟨rfl,L3⟩
  refine⟨rfl,?_⟩
  obtain⟨bf',q3⟩:=ah L3
  have e3:∀ i,i<3->cur[i]?=([.int .i64 (k:Int),.int .i64 0,.slice (some ⟨bk,0,none⟩) 64 64]:List Value)[i]?:=fun i hi=>by
   rw[← b6,List.getElem?_take_of_lt hi]
   simp
  exact ahR hq hq1 hq2 hq3 (mw:=mw) (mm:=mm) (o:=o) (tb:=tb) (g:=g) (c:=c) (bk:=bk) (P:=P) (j:=j) (X:=X) (Y:=Y) (bf:=bf') (cur:=cur) (bz:=(List.replicate l (Value.int .u8 0)++ys.map (Value.int .u8)++List.replicate (64 - (l+dl)) (Value.int .u8 0)).toArray) (rows:=rows) (hq.sub q3 (fun x hx=>by simp only[List.mem_cons] at hx ⊢;rcases hx with e | e | e | e<;>simp[e])) (by have:=hq.sz (ah L1);omega) ⟨by omega,by omega,fun x hx=>by have:=n3 x hx;omega⟩ k (e3 0 (by omega)) (e3 1 (by omega)) (e3 2 (by omega)) (at0+(dl:Int)) hX2.2.2.2 hX0 b fr KM KG KP (fun rows' v hb hs hv=>KD bk rows' v hb hs hv)
 have hn1:¬ at0<0:=by omega
 have hl2:¬ (dl:Int) > 4096:=by omega
 have hl0:((dl:Int)==0)=false:=by simp;omega
 have hs1:-9223372036854775808<=at0+(dl:Int)/\at0+(dl:Int)<=9223372036854775807:=by omega
 clear hq hq1 hq2 hq3 h hP hc ha hk hl hk8 hd hfit hdc hm he hX hX0 hX2 hpl hzb hus hu HD KO KF KR KS KM KG KP KD
 go_enter Tryz.func9,Tryz.ntmps9
 go_upto_region 1 with fail
 change Code.wp _ _ _ _ (u.alloc (.cells (Pc P) 24))
 generalize u.alloc (.cells (Pc P) 24)=w0 at *
 generalize u.heap.size=m at *
 have bp:Bl w0 m (Pc P) 24:=(ah HB).row (ah H0) (x:=(m,.cells (Pc P) 24)) (by simp)
 have p0:=bp.cell 0 (.int .i64 (P 0)) rfl
 have p1:=bp.cell 1 (.int .i64 (P 1)) rfl
 have p2:=bp.cell 2 (.int .i64 (P 2)) rfl
 have p3:=bp.cell 3 (.int .i64 (P 3)) rfl
 have p4:=bp.cell 4 (.int .i64 (P 4)) rfl
 have p5:=bp.cell 5 (.int .i64 (P 5)) rfl
 have p6:=bp.cell 6 (.int .i64 (P 6)) rfl
 have p7:=bp.cell 7 (.int .i64 (P 7)) rfl
 have p8:=bp.cell 8 (.int .i64 (P 8)) rfl
 have p9:=bp.cell 9 (.int .i64 (P 9)) rfl
 have p10:=bp.cell 10 (.int .i64 (P 10)) rfl
 have p11:=bp.cell 11 (.int .i64 (P 11)) rfl
 clear bp
 go_wp2_with fail
 go_at_call 31
 refine(ah KE _).mono ?_
 rintro e w1 ⟨rfl,hb⟩
 have L:=hide ((ah HB).later (ah H0) hb)
 clear KE H0 hb p0 p1 p2 p3 p4 p5 p6 p7 p8 p9 p10 p11
 have bp:Bl w1 m (Pc P) 24:=(ah HB).row (ah L) (x:=(m,.cells (Pc P) 24)) (by simp)
 have K1:=hide (ah HKO _ w1 (fun x hx=>List.mem_cons_of_mem _ hx) (ah L))
 have p0:=bp.cell 0 (.int .i64 (P 0)) rfl
 have p1:=bp.cell 1 (.int .i64 (P 1)) rfl
 have p2:=bp.cell 2 (.int .i64 (P 2)) rfl
 have p3:=bp.cell 3 (.int .i64 (P 3)) rfl
 have p4:=bp.cell 4 (.int .i64 (P 4)) rfl
 have p5:=bp.cell 5 (.int .i64 (P 5)) rfl
 have p6:=bp.cell 6 (.int .i64 (P 6)) rfl
 have p7:=bp.cell 7 (.int .i64 (P 7)) rfl
 have p8:=bp.cell 8 (.int .i64 (P 8)) rfl
 have p9:=bp.cell 9 (.int .i64 (P 9)) rfl
 have p10:=bp.cell 10 (.int .i64 (P 10)) rfl
 have p11:=bp.cell 11 (.int .i64 (P 11)) rfl
 clear bp HKO L
 go_wp2_with fail
 go_at_call 32
 refine(ah K1).mono ?_
 rintro e w2 ⟨rfl,L1⟩
 have L2:Hid (Q ((w2.heap.size,.cells (Fc (some ⟨o,0,none⟩) (some ⟨tb,0,none⟩) P j X) 77)::(m,.cells (Pc P) 24)::rows) (w2.alloc (.cells (Fc (some ⟨o,0,none⟩) (some ⟨tb,0,none⟩) P j X) 77))):=(ah HB).new (ah L1) _
 clear K1 L1 p0 p1 p2 p3 p4 p5 p6 p7 p8 p9 p10 p11
 go_upto_region 6 with (refine wpList_store_row rfl 77 _ _ rfl w2.heap.size (Fc (some ⟨o,0,none⟩) (some ⟨tb,0,none⟩) P j X) rfl rfl 77 Fz (World.alloc_heap_new _ _) (by kernel_rfl) rfl (by simp[Value.oneCell']) ?_;rw[World.setRow_alloc_new])
 change Code.wp _ _ _ _ (w2.alloc (.cells (Fc (some ⟨o,0,none⟩) (some ⟨tb,0,none⟩) P j X) 77))
 generalize w2.alloc (.cells (Fc (some ⟨o,0,none⟩) (some ⟨tb,0,none⟩) P j X) 77)=w3 at *
 generalize w2.heap.size=mf at *
 have hmk:=@run_makeMap Tryz.prog
 go_upto_region 8 with fail
 have hbl:∀ (v:World) (mm:Nat),(Instr.build 85 #[(0,.agg (Fc (some ⟨o,0,none⟩) (some ⟨tb,0,none⟩) P j X)),(2,.map (some mm))]).run Tryz.prog v=.ok (.agg (Wc o tb P j X (.slice none 0 0) mm (.slice none 0 0))) v:=fun v mm=>by kernel_rfl
 have L3:Hid (Q ((w3.heap.size+1,.cells (Wc o tb P j X (.slice none 0 0) w3.heap.size (.slice none 0 0)) 85)::(w3.heap.size,.map #[] 0)::rows) ((w3.alloc (.map #[] 0)).alloc (.cells (Wc o tb P j X (.slice none 0 0) w3.heap.size (.slice none 0 0)) 85))):=by
  have x:=(ah HB).new ((ah HB).new (ah L2) (.map #[] 0)) (.cells (Wc o tb P j X (.slice none 0 0) w3.heap.size (.slice none 0 0)) 85)
  simp only[World.size_alloc] at x
  exact(ah HB).sub x (fun x hx=>by simp only[List.mem_cons] at hx ⊢;rcases hx with e | e | e<;>simp[e])
 have K5:=hide (ah KW _ (w3.heap.size+1) w3.heap.size ((ah HB).sz (ah L2)) (by omega) (fun x hx=>(ah HB).lt (ah L2) (by simp[hx])) (ah L3))
 have RF:Hid (w3.heap[mf]?=some (.cells (Fc (some ⟨o,0,none⟩) (some ⟨tb,0,none⟩) P j X) 77)):=(ah HB).row (ah L2) (x:=(mf,.cells (Fc (some ⟨o,0,none⟩) (some ⟨tb,0,none⟩) P j X) 77)) (by simp)
 clear L2 L3 KW
 go_upto_region 9 with (refine wpList_load_row rfl 77 _ rfl mf rfl 77 _ (0,0) _ (ah RF) Tryz.underlying77 rfl (by kernel_rfl) ?_;clear RF)
 change Code.wp _ _ _ _ ((w3.alloc (.map #[] 0)).alloc (.cells (Wc o tb P j X (.slice none 0 0) w3.heap.size (.slice none 0 0)) 85))
 clear hbl hmk
 generalize (w3.alloc (.map #[] 0)).alloc (.cells (Wc o tb P j X (.slice none 0 0) w3.heap.size (.slice none 0 0)) 85)=w4 at *
 generalize w3.heap.size+1=mw at *
 go_wp2_with fail
 go_at_call 33
 refine(ah K5).mono ?_
 rintro e w5 ⟨rfl,K6⟩
 clear K5
 go_wp2_with fail
 go_at_call 34
 refine(ah K6).mono ?_
 rintro e w6 ⟨rfl,K7⟩
 clear K6
 go_wp2_with fail
 go_at_call 35
 refine(ah K7).mono ?_
 rintro e w7 ⟨rfl,K8⟩
 clear K7
 go_wp2_with fail
 go_at_call 36
 refine(ah K8).mono ?_
 rintro e w8 ⟨rfl,K9⟩
 clear K8
 go_wp2_with fail
 go_ret
 exact⟨rfl,K9⟩
theorem rU (w:World):Calls Tryz.prog 7 #[] w fun e w'=>e=.returned (Pv aP)/\Below w.heap.size w w':=by
 have K:Hid (∀ u,Calls Tryz.prog 19 #[.int .i64 64,.int .i64 90,.int .i64 6,.int .i64 30] u fun e w'=>e=.returned (.tuple #[Pv aP,.int .i64 0])/\Below u.heap.size u w'):=fun u=>by
  have:=aaZ 64 90 6 30 _ _ _ _ u (fun h=>by have:=iU.2 h;revert this;decide) (by decide) rfl rfl rfl rfl (by decide)
  rw[← afo,← kV uO] at this
  exact this
 have HZ:=hide (Bl.new w #[.int .i64 0,.int .i64 0,.int .i64 0,.int .i64 0,.int .i64 0,.int .i64 0,.int .i64 0,.int .i64 0,.int .i64 0,.int .i64 0,.int .i64 0,.int .i64 0] 24)
 have HB:=hide ((Below.refl w.heap.size w).alloc (Nat.le_refl _) (.cells #[.int .i64 0,.int .i64 0,.int .i64 0,.int .i64 0,.int .i64 0,.int .i64 0,.int .i64 0,.int .i64 0,.int .i64 0,.int .i64 0,.int .i64 0,.int .i64 0] 24))
 generalize aP=p at *
 go_enter Tryz.func7,Tryz.ntmps7
 go_wp2_with fail
 go_at_call 19
 refine(ah K _).mono ?_
 rintro e w1 ⟨rfl,hb⟩
 have HZ2:=hide (((ah HZ).call hb).alloc (.cells (Pc p) 24))
 have HB2:=hide (((ah HB).trans (hb.mono (ah HB).size)).alloc ((ah HB).trans (hb.mono (ah HB).size)).size (.cells (Pc p) 24))
 have HN:=hide (Bl.new w1 (Pc p) 24)
 clear HZ HB hb K
 go_upto_region 2 with fail
 change Code.wp _ _ _ _ (w1.alloc (.cells (Pc p) 24))
 generalize w1.alloc (.cells (Pc p) 24)=w2 at *
 generalize w1.heap.size=g1 at *
 have z0:=(ah HZ2).cell 0 (.int .i64 0) rfl
 have z1:=(ah HZ2).cell 1 (.int .i64 0) rfl
 have z2:=(ah HZ2).cell 2 (.int .i64 0) rfl
 have z3:=(ah HZ2).cell 3 (.int .i64 0) rfl
 have z4:=(ah HZ2).cell 4 (.int .i64 0) rfl
 have z5:=(ah HZ2).cell 5 (.int .i64 0) rfl
 have z6:=(ah HZ2).cell 6 (.int .i64 0) rfl
 have z7:=(ah HZ2).cell 7 (.int .i64 0) rfl
 have z8:=(ah HZ2).cell 8 (.int .i64 0) rfl
 have z9:=(ah HZ2).cell 9 (.int .i64 0) rfl
 have z10:=(ah HZ2).cell 10 (.int .i64 0) rfl
 have z11:=(ah HZ2).cell 11 (.int .i64 0) rfl
 have n0:=(ah HN).cell 0 (.int .i64 (p 0)) rfl
 have n1:=(ah HN).cell 1 (.int .i64 (p 1)) rfl
 have n2:=(ah HN).cell 2 (.int .i64 (p 2)) rfl
 have n3:=(ah HN).cell 3 (.int .i64 (p 3)) rfl
 have n4:=(ah HN).cell 4 (.int .i64 (p 4)) rfl
 have n5:=(ah HN).cell 5 (.int .i64 (p 5)) rfl
 have n6:=(ah HN).cell 6 (.int .i64 (p 6)) rfl
 have n7:=(ah HN).cell 7 (.int .i64 (p 7)) rfl
 have n8:=(ah HN).cell 8 (.int .i64 (p 8)) rfl
 have n9:=(ah HN).cell 9 (.int .i64 (p 9)) rfl
 have n10:=(ah HN).cell 10 (.int .i64 (p 10)) rfl
 have n11:=(ah HN).cell 11 (.int .i64 (p 11)) rfl
 have fz:=(ah HZ2).free
 go_wp2_with fail
 have hW:Below w.heap.size w (au w2 w.heap.size 0 [.int .i64 (p 0),.int .i64 (p 1),.int .i64 (p 2),.int .i64 (p 3),.int .i64 (p 4),.int .i64 (p 5),.int .i64 (p 6),.int .i64 (p 7),.int .i64 (p 8),.int .i64 (p 9),.int .i64 (p 10),.int .i64 (p 11)]):=aT (Nat.le_refl _) _ _ _ _ (ah HB2)
 have hA:=aJ [.int .i64 (p 0),.int .i64 (p 1),.int .i64 (p 2),.int .i64 (p 3),.int .i64 (p 4),.int .i64 (p 5),.int .i64 (p 6),.int .i64 (p 7),.int .i64 (p 8),.int .i64 (p 9),.int .i64 (p 10),.int .i64 (p 11)] _ _ (ah HZ2) rfl
 change bodyPost _ _ _ _ _ (au w2 w.heap.size 0 [.int .i64 (p 0),.int .i64 (p 1),.int .i64 (p 2),.int .i64 (p 3),.int .i64 (p 4),.int .i64 (p 5),.int .i64 (p 6),.int .i64 (p 7),.int .i64 (p 8),.int .i64 (p 9),.int .i64 (p 10),.int .i64 (p 11)])
 generalize au w2 w.heap.size 0 [.int .i64 (p 0),.int .i64 (p 1),.int .i64 (p 2),.int .i64 (p 3),.int .i64 (p 4),.int .i64 (p 5),.int .i64 (p 6),.int .i64 (p 7),.int .i64 (p 8),.int .i64 (p 9),.int .i64 (p 10),.int .i64 (p 11)]=wf at *
 refine bodyPost_ret (v:=Pv p) ?_ rfl ⟨rfl,hW⟩
 simp[results,Tryz.results7,go_sem,hA.cell 0 _ rfl,hA.cell 1 _ rfl,hA.cell 2 _ rfl,hA.cell 3 _ rfl,hA.cell 4 _ rfl,hA.cell 5 _ rfl,hA.cell 6 _ rfl,hA.cell 7 _ rfl,hA.cell 8 _ rfl,hA.cell 9 _ rfl,hA.cell 10 _ rfl,hA.cell 11 _ rfl]
def fx2:Nat->Int:=nJ x1 (pof 0) ((37:Nat):Int)
def fx3:Nat->Int:=fun i=>if i=2 then 5 else fx2 i
theorem uz:cO fx3:=by unfold cO;decide
def fW:Nat->List Int:=fun q=>if q=35 then put ((fun j=>if j=33 then setB (fV 33) 37 true else fV j) 35) 0 (dF 32 (dV fx2)) else (fun j=>if j=33 then setB (fV 33) 37 true else fV j) q
def fW2:Nat->List Int:=fun q=>if q=35 then put (fW 35) 0 (dF 32 (dV fx3)) else fW q
def fZ:List Int:=[0,0,0,97,98]++List.replicate 59 0
def fW3:Nat->List Int:=fun q=>if q=37 then fZ else fW2 q
def fE3:Nat->Bool:=fun q=>if q=37 then true else aE q
theorem ajN:fV 35=tbZ x1 xD:=rfl
theorem alq:fW 35=tbZ fx2 xD:=by
 unfold fW
 rw[if_pos rfl]
 show put (fV 35) 0 _=_
 rw[ajN,agZ]
theorem ak5:fW2 35=tbZ fx3 xD:=by
 unfold fW2
 rw[if_pos rfl,alq,agZ]
theorem aj2:fW3 35=tbZ fx3 xD:=by
 unfold fW3
 rw[if_neg (by omega),ak5]
theorem ad7 {X Y:Nat->Int}(h:cO X):uw (((tbZ X Y).drop 0).take 32)/\Iv (aY (((tbZ X Y).drop 0).take 32))=Iv X:=by
 rw[agY]
 exact⟨ajd h,ajc h⟩
theorem ak2:jT (fV 33) (fun _=>false) 37 aG.n=37:=ak3
theorem ahO {w:World}{g o tb a:Nat}{rows:List (Nat×Obj)}(ht:(tb,tbO a aP)∈rows)(ha:(a,alO g aP)∈rows)(h0:0<w.heap.size):alX w aP aG g o 1 fV (fun _=>false) (fun _=>false) rows tb 2 0 aE fV ((37:Nat):Int) 0 true aE fW:=by
 intro v fg tg og yE hsub rt ro hwf hfg hv
 have hi:uw (((fV 35).drop 0).take 32)/\Iv (aY (((fV 35).drop 0).take 32))=Iv x1:=by rw[ajN];exact ad7 sN
 refine afR (a:=a) (bk:=35) (at0:=0) (s0:=0) (X:=x1) (X1:=fx2) hv (hsub _ ht) h0 hwf hfg lT.1 lT.2.1 lT.2.2 (by decide) (by decide) hi.1 hi.2 (by omega) (fun v=>oz aP 0 32 v sK.1 sK.2.1 sK.2.2 al0 (by omega)) ?_
 intro v2 xg fc m0 m1 m2 iL rf r0 r1 r2 hx hne hfx am1 hsub2 hv2
 rw[show x1 (pof 0)=0 by decide]
 exact uh hv2 aA (hsub2 _ (hsub _ ht)) (hsub2 _ (hsub _ ha)) (hsub2 _ rt) (hsub2 _ ro) hwf h0 am1 rf r0 r1 r2 hx hne lT.1 lT.2.1 lT.2.2 (by decide) (by decide) (by decide) hfx ak2 (by decide) ach
theorem aa6 {w}{g o a tb:Nat}{rows u E V'}(L:Lp w aP aG E g o rows 1 fV (fun _=>false) V' (fun _=>false) u)(ht:(tb,tbO a aP)∈rows)(h0:0<w.heap.size)(he:E 35=true){X Y:Nat->Int}(hV:V' 35=tbZ X Y)(hX:cO X) :
  Calls Tryz.prog 49 #[.pointer (some ⟨tb,0,none⟩),.pointer (some ⟨o,0,none⟩),.int .i64 2,.int .i64 0] u fun r u'=>r=.returned (.tuple #[.int .i64 (X 3),.int .i64 0])/\Hid (Lp w aP aG E g o rows 1 fV (fun _=>false) V' (fun _=>false) u'):=by
 have hi:uw (((V' 35).drop 0).take 32)/\Iv (aY (((V' 35).drop 0).take 32))=Iv X:=by rw[hV];exact ad7 hX
 refine acz (Q:=fun u'=>Lp w aP aG E g o rows 1 fV (fun _=>false) V' (fun _=>false) u') ?_
 exact afS (a:=a) (bk:=35) (at0:=0) (s0:=0) L ht h0 lT.1 lT.2.1 lT.2.2 (by decide) he hi.1 hi.2 (by omega) (fun v=>oz aP 0 32 v sK.1 sK.2.1 sK.2.2 al0 (by omega)) aeJ
theorem zN {w}{g o a tb:Nat}{rows u E V'}(L:Lp w aP aG E g o rows 1 fV (fun _=>false) V' (fun _=>false) u)(ht:(tb,tbO a aP)∈rows)(h0:0<w.heap.size)(he:E 35=true){X Y:Nat->Int}(hV:V' 35=tbZ X Y)(hX:cO X) :
  Calls Tryz.prog 38 #[.pointer (some ⟨tb,0,none⟩),.pointer (some ⟨o,0,none⟩),.int .i64 2] u fun e u'=>e=.returned (.tuple #[Iv X,.int .i64 0])/\Hid (Lp w aP aG E g o rows 1 fV (fun _=>false) V' (fun _=>false) u'):=by
 have hi:uw (((V' 35).drop 0).take 32)/\Iv (aY (((V' 35).drop 0).take 32))=Iv X:=by rw[hV];exact ad7 hX
 exact xZ (a:=a) L X 2 ht h0 lT.1 lT.2.1 lT.2.2 (by decide) he hi.1 hi.2
theorem am9:bcv 64 (fV 33) 37 90=0:=by decide
theorem jM:aP 0=64/\aP 1=90/\aP 7=33/\aP 11=37:=by
 refine⟨?_,?_,?_,?_⟩<;>rw[gQ]<;>rfl
theorem ajw {w}{g o a tb kd:Nat}{rows u}(L:Lp w aP aG aE g o rows 1 fV (fun _=>false) fV (fun _=>false) u)(ht:(tb,tbO a aP)∈rows)(ha:(a,alO g aP)∈rows)(h0:0<w.heap.size){fz:Nat×Nat}(hd:(kd,.cells #[.int .u8 97,.int .u8 98] 5 fz)∈rows) :
  Calls Tryz.prog 9 #[.pointer (some ⟨o,0,none⟩),.pointer (some ⟨tb,0,none⟩),Pv aP,.int .i64 2,.int .i64 3,.slice (some ⟨kd,0,none⟩) 2 2] u fun e v=>e=.returned (.int .i64 0)/\Hid (Lp w aP aG fE3 g o rows 1 fV (fun _=>false) fW3 (fun _=>false) v):=by
 refine abC (n0:=w.heap.size) (Q:=fun rows v=>Lp w aP aG aE g o rows 1 fV (fun _=>false) fV (fun _=>false) v) (Q1:=fun rows v=>Lp w aP aG aE g o rows 1 fV (fun _=>false) fW (fun _=>false) v) (Q2:=fun rows v=>Lp w aP aG aE g o rows 1 fV (fun _=>false) fW2 (fun _=>false) v) (Q3:=fun rows v=>Lp w aP aG fE3 g o rows 1 fV (fun _=>false) fW3 (fun _=>false) v) (dB h0) (dB h0) (dB h0) (dB h0) L aP o tb 2 x1 fx2 3 0 3 2 2 (some ⟨kd,0,none⟩) [97,98] jM aPG.chk (by omega) (by omega) (by omega) (by omega) (by omega) (by omega) (by omega) (by rw[nH];omega) (by rw[nH,jM.1];omega) (by decide) (by decide) ⟨by decide,by decide,by decide,by decide⟩ ((0:Nat):Int) ⟨lT.1,lT.2.1,lT.2.2⟩ (fV 33) (fV 35) (L.vb (by decide)).2 0 am9 (by omega) 37 true ?_ ?_ ?_ ?_ ?_ ?_ ?_ ?_ ?_
 ·intro rows' v hs hv
  have hb:v.heap[kd]?=some (.cells #[.int .u8 97,.int .u8 98] 5 fz):=hv.row (hs _ hd)
  refine⟨rfl,fun _=>⟨kd,0,rfl,fun i hi=>?_⟩⟩
  rcases(show i=0\/i=1 by omega) with rfl | rfl
  ·simp[World.cell?,hb]
  ·simp[World.cell?,hb]
 ·intro rows' v hs hv
  exact aa1 (dB (E:=aE) (V':=fV) h0) hv aP _ _ x1 2 aPG.chk (by decide) (fun iL v2 hs2 hv2=>zN hv2 (hs2 _ (hs _ ht)) h0 (by decide) ajN sN)
 ·intro rows' v hs hv
  exact aa6 hv (hs _ ht) h0 (by decide) ajN sN
 ·intro rows' v hs hv
  exact rM hv (b:=33) (by decide)
 ·intro rows' v hs hv
  exact rM hv (b:=35) (by decide)
 ·intro rows' v hs hv
  exact aeO hv h0 rfl (ahO (hs _ ht) (hs _ ha) h0)
 ·intro rows' v hs hv
  exact zN hv (hs _ ht) h0 (by decide) alq ach
 ·intro rows' v hs hv
  exact sU (a:=a) hv fx3 2 (hs _ ht) h0 lT.1 lT.2.1 lT.2.2 (by decide) (by decide) uz
 ·intro bk rows' v hb hs hv
  have hdr:Dr 64 64 fZ (.cells (List.replicate 3 (Value.int .u8 0)++([97,98]:List Int).map (Value.int .u8)++List.replicate (64 - (3+2)) (Value.int .u8 0)).toArray 5):=⟨_,rfl,rfl,rfl,Nat.le_refl _,by unfold maxLen;omega,rfl⟩
  have hrow:=hdr.row (hv.row hb) (by omega) (by unfold fZ;decide)
  exact ahH hv (b:=37) (by rw[jM.2.2.2];omega) (.inr ⟨by rw[jM.2.2.2];omega,by decide,rfl⟩) (some ⟨bk,0,none⟩) 64 fZ hrow
theorem ajx {w}{g o a tb:Nat}{rows u}(L:Lp w aP aG fE3 g o rows 1 fV (fun _=>false) fW3 (fun _=>false) u)(ht:(tb,tbO a aP)∈rows)(h0:0<w.heap.size) :
  Calls Tryz.prog 12 #[.pointer (some ⟨o,0,none⟩),.pointer (some ⟨tb,0,none⟩),Pv aP,.int .i64 2,.int .i64 0,.int .i64 10] u fun e v=>∃ g2,e=.returned (.tuple #[.slice (some ⟨g2,0,none⟩) 5 5,.int .i64 0])/\Hid (Lp w aP aG fE3 g o ((g2,.cells #[.int .u8 0,.int .u8 0,.int .u8 0,.int .u8 97,.int .u8 98] 5)::rows) 1 fV (fun _=>false) fW3 (fun _=>false) v):=by
 refine adO (Q:=fun rows v=>Lp w aP aG fE3 g o rows 1 fV (fun _=>false) fW3 (fun _=>false) v) (dB h0) L aP o tb 2 fx3 0 10 37 5 fZ jM.1 (by omega) (by omega) (by decide) (by omega) (by decide) (by decide) (by omega) rfl ?_ ?_ ?_
 ·intro rows' v hs hv
  exact aa1 (dB (E:=fE3) (V':=fW3) h0) hv aP _ _ fx3 2 aPG.chk (by decide) (fun iL v2 hs2 hv2=>zN hv2 (hs2 _ (hs _ ht)) h0 (by decide) aj2 uz)
 ·intro rows' v hs hv
  exact aa6 hv (hs _ ht) h0 (by decide) aj2 uz
 ·intro rows' v hs hv
  exact rM hv (b:=37) (by decide)
theorem Lp.old {w P G E g o rows i V F V' K u}{k:Nat}{ob:Obj}(h:Lp w P G E g o rows i V F V' K u)(hk:w.heap[k]?=some ob):Lp w P G E g o ((k,ob)::rows) i V F V' K u:=by
 obtain⟨E0,cg,lg,dg,X,C,L,D,S,N,h,r⟩:=h
 have hlt:=(Array.getElem?_eq_some_iff.1 hk).1
 exact⟨E0,cg,lg,dg,X,C,L,D,S,N,h.add ((h.hl.bel.block k hlt).trans hk) (fun hs=>by have:=h.hl.ge k hs;omega),r⟩
theorem wV (w:World)(hT:Tab w)(u:World)(mp:Nat)(hu:Below w.heap.size w u)(hB:Bl u mp (Pc aP) 24):Calls Tryz.prog 8 #[Pv aP,.int .i64 8,.slice none 0 0] u fun e w'=>∃ g a t o,e=.returned (.tuple #[.pointer (some ⟨g,0,none⟩),.pointer (some ⟨t,0,none⟩),.pointer (some ⟨o,0,none⟩)])/\Hid (Lp w aP aG aE g o [(t,tbO a aP),(a,alO g aP),(mp,.cells (Pc aP) 24)] 1 fV (fun _=>false) fV (fun _=>false) w'):=by
 refine(adV u (hT.kept (hu.block 0 hT.lt))).mono ?_
 rintro e w' ⟨g,a,t,o,rfl,Y⟩
 refine⟨g,a,t,o,rfl,?_⟩
 exact hide ((((ah Y).old (k:=mp) hB).sub (rows':=[(t,tbO a aP),(a,alO g aP),(mp,.cells (Pc aP) 24)]) (fun x hx=>by
   simp only[List.mem_cons,List.not_mem_nil,or_false] at hx ⊢
   rcases hx with h | h | h<;>simp[h])).acQ hu)
theorem agj (u:World):(convert 33 33 (.slice (some ⟨u.heap.size,0,none⟩) 2 2)).run Tryz.prog (u.alloc (.cells #[.int .u8 97,.int .u8 98] 5))=.ok (.slice (some ⟨u.heap.size,0,none⟩) 2 2) (u.alloc (.cells #[.int .u8 97,.int .u8 98] 5 (2,3))) :=
 Lib.run_convert_bytes_const (P:=Tryz.prog) u 33 5 #[.int .u8 97,.int .u8 98] 2 2 Tryz.underlying33 Tryz.underlying5
theorem abD (w:World)(hT:Tab w):Calls Tryz.prog 6 #[] w fun e w'=>e=.returned (.bool true)/\Below w.heap.size w w':=by
 have h0:0<w.heap.size:=hT.lt
 have KS:Hid (∀ u,Calls Tryz.prog 7 #[] u fun e w'=>e=.returned (Pv aP)/\Below u.heap.size u w'):=fun u=>rU u
 have KM:Hid (∀ u mp,Below w.heap.size w u->Bl u mp (Pc aP) 24->Calls Tryz.prog 8 #[Pv aP,.int .i64 8,.slice none 0 0] u fun e w'=>∃ g a t o,e=.returned (.tuple #[.pointer (some ⟨g,0,none⟩),.pointer (some ⟨t,0,none⟩),.pointer (some ⟨o,0,none⟩)])/\Hid (Lp w aP aG aE g o [(t,tbO a aP),(a,alO g aP),(mp,.cells (Pc aP) 24)] 1 fV (fun _=>false) fV (fun _=>false) w')):=fun u mp hu hB=>wV w hT u mp hu hB
 have KW:Hid (∀ g a t o mp v,Lp w aP aG aE g o [(t,tbO a aP),(a,alO g aP),(mp,.cells (Pc aP) 24)] 1 fV (fun _=>false) fV (fun _=>false) v->Calls Tryz.prog 9 #[.pointer (some ⟨o,0,none⟩),.pointer (some ⟨t,0,none⟩),Pv aP,.int .i64 2,.int .i64 3,.slice (some ⟨v.heap.size,0,none⟩) 2 2] (v.alloc (.cells #[.int .u8 97,.int .u8 98] 5 (2,3))) fun e v'=>e=.returned (.int .i64 0)/\Hid (Lp w aP aG fE3 g o [(t,tbO a aP),(a,alO g aP),(mp,.cells (Pc aP) 24)] 1 fV (fun _=>false) fW3 (fun _=>false) v')):=fun g a t o mp v hv=>by
  refine(ajw (a:=a) (kd:=v.heap.size) (fz:=(2,3)) (hv.new (.cells #[.int .u8 97,.int .u8 98] 5 (2,3))) (by simp) (by simp) h0 (by simp)).mono ?_
  rintro e v' ⟨rfl,Y⟩
  exact⟨rfl,hide ((ah Y).pop)⟩
 have KR:Hid (∀ g a t o mp v,Lp w aP aG fE3 g o [(t,tbO a aP),(a,alO g aP),(mp,.cells (Pc aP) 24)] 1 fV (fun _=>false) fW3 (fun _=>false) v->Calls Tryz.prog 12 #[.pointer (some ⟨o,0,none⟩),.pointer (some ⟨t,0,none⟩),Pv aP,.int .i64 2,.int .i64 0,.int .i64 10] v fun e v'=>∃ g2,e=.returned (.tuple #[.slice (some ⟨g2,0,none⟩) 5 5,.int .i64 0])/\Hid ((convert 33 9 (.slice (some ⟨g2,0,none⟩) 5 5)).run Tryz.prog v'=.ok (.string (strOfNums [0,0,0,97,98])) v'/\Below w.heap.size w v')):=fun g a t o mp v hv=>by
  refine(ajx (a:=a) hv (by simp) h0).mono ?_
  rintro e v' ⟨g2,rfl,Y⟩
  refine⟨g2,rfl,?_⟩
  have hb:Bl v' g2 #[.int .u8 0,.int .u8 0,.int .u8 0,.int .u8 97,.int .u8 98] 5:=(ah Y).row (x:=(g2,.cells #[.int .u8 0,.int .u8 0,.int .u8 0,.int .u8 97,.int .u8 98] 5)) (by simp)
  have hh:Has v' (some ⟨g2,0,none⟩) 5 [0,0,0,97,98]:=⟨rfl,fun _=>⟨g2,0,rfl,fun i hi=>by
   rcases(show i=0\/i=1\/i=2\/i=3\/i=4 by omega) with rfl | rfl | rfl | rfl | rfl
   ·exact hb.cell 0 _ rfl
   ·exact hb.cell 1 _ rfl
   ·exact hb.cell 2 _ rfl
   ·exact hb.cell 3 _ rfl
   ·exact hb.cell 4 _ rfl⟩⟩
  exact⟨hh.conv 5,(ah Y).bel⟩
 have KB:Hid (∀ g a t o mp v,Lp w aP aG aE g o [(t,tbO a aP),(a,alO g aP),(mp,.cells (Pc aP) 24)] 1 fV (fun _=>false) fV (fun _=>false) v->Bl v mp (Pc aP) 24):=fun g a t o mp v hv=>hv.row (x:=(mp,.cells (Pc aP) 24)) (by simp)
 have KB3:Hid (∀ g a t o mp v,Lp w aP aG fE3 g o [(t,tbO a aP),(a,alO g aP),(mp,.cells (Pc aP) 24)] 1 fV (fun _=>false) fW3 (fun _=>false) v->Bl v mp (Pc aP) 24):=fun g a t o mp v hv=>hv.row (x:=(mp,.cells (Pc aP) 24)) (by simp)
 have hse:strOfNums [0,0,0,97,98]={ data:=#[0,0,0,97,98] }:=by decide
 rw[hse] at KR
 clear hT h0 hse
 generalize aP=p at *
 go_enter Tryz.func6,Tryz.ntmps6
 go_wp2_with fail
 go_at_call 7
 refine(ah KS _).mono ?_
 rintro e w2 ⟨rfl,hb2⟩
 have KM2:=hide (ah KM (w2.alloc (.cells (Pc p) 24)) w2.heap.size (hb2.alloc hb2.size _) (Bl.new w2 (Pc p) 24))
 have bp:=Bl.new w2 (Pc p) 24
 clear KS hb2 KM
 go_upto_region 2 with (refine wpList_store_row rfl 24 _ _ rfl w2.heap.size (Pc p) rfl rfl 24 #[.int .i64 0,.int .i64 0,.int .i64 0,.int .i64 0,.int .i64 0,.int .i64 0,.int .i64 0,.int .i64 0,.int .i64 0,.int .i64 0,.int .i64 0,.int .i64 0] (World.alloc_heap_new _ _) (by kernel_rfl) rfl (by simp[Value.oneCell']) ?_;rw[World.setRow_alloc_new])
 change Code.wp _ _ _ _ (w2.alloc (.cells (Pc p) 24))
 generalize w2.alloc (.cells (Pc p) 24)=w3 at *
 generalize w2.heap.size=mp at *
 have y0:=bp.cell 0 (.int .i64 (p 0)) rfl
 have y1:=bp.cell 1 (.int .i64 (p 1)) rfl
 have y2:=bp.cell 2 (.int .i64 (p 2)) rfl
 have y3:=bp.cell 3 (.int .i64 (p 3)) rfl
 have y4:=bp.cell 4 (.int .i64 (p 4)) rfl
 have y5:=bp.cell 5 (.int .i64 (p 5)) rfl
 have y6:=bp.cell 6 (.int .i64 (p 6)) rfl
 have y7:=bp.cell 7 (.int .i64 (p 7)) rfl
 have y8:=bp.cell 8 (.int .i64 (p 8)) rfl
 have y9:=bp.cell 9 (.int .i64 (p 9)) rfl
 have y10:=bp.cell 10 (.int .i64 (p 10)) rfl
 have y11:=bp.cell 11 (.int .i64 (p 11)) rfl
 clear bp
 go_wp2_with fail
 go_at_call 8
 refine(ah KM2).mono ?_
 rintro e v1 ⟨g,a,t,o,rfl,L⟩
 clear KM2 y0 y1 y2 y3 y4 y5 y6 y7 y8 y9 y10 y11
 have bp:=ah KB g a t o mp v1 (ah L)
 have y0:=bp.cell 0 (.int .i64 (p 0)) rfl
 have y1:=bp.cell 1 (.int .i64 (p 1)) rfl
 have y2:=bp.cell 2 (.int .i64 (p 2)) rfl
 have y3:=bp.cell 3 (.int .i64 (p 3)) rfl
 have y4:=bp.cell 4 (.int .i64 (p 4)) rfl
 have y5:=bp.cell 5 (.int .i64 (p 5)) rfl
 have y6:=bp.cell 6 (.int .i64 (p 6)) rfl
 have y7:=bp.cell 7 (.int .i64 (p 7)) rfl
 have y8:=bp.cell 8 (.int .i64 (p 8)) rfl
 have y9:=bp.cell 9 (.int .i64 (p 9)) rfl
 have y10:=bp.cell 10 (.int .i64 (p 10)) rfl
 have y11:=bp.cell 11 (.int .i64 (p 11)) rfl
 have hcl:=agj v1
 have KW2:=hide (ah KW g a t o mp v1 (ah L))
 clear bp L KW KB
 go_wp2_with fail
 go_at_call 9
 refine(ah KW2).mono ?_
 rintro e v2 ⟨rfl,L⟩
 clear KW2 hcl y0 y1 y2 y3 y4 y5 y6 y7 y8 y9 y10 y11
 have bp:=ah KB3 g a t o mp v2 (ah L)
 have y0:=bp.cell 0 (.int .i64 (p 0)) rfl
 have y1:=bp.cell 1 (.int .i64 (p 1)) rfl
 have y2:=bp.cell 2 (.int .i64 (p 2)) rfl
 have y3:=bp.cell 3 (.int .i64 (p 3)) rfl
 have y4:=bp.cell 4 (.int .i64 (p 4)) rfl
 have y5:=bp.cell 5 (.int .i64 (p 5)) rfl
 have y6:=bp.cell 6 (.int .i64 (p 6)) rfl
 have y7:=bp.cell 7 (.int .i64 (p 7)) rfl
 have y8:=bp.cell 8 (.int .i64 (p 8)) rfl
 have y9:=bp.cell 9 (.int .i64 (p 9)) rfl
 have y10:=bp.cell 10 (.int .i64 (p 10)) rfl
 have y11:=bp.cell 11 (.int .i64 (p 11)) rfl
 have KR2:=hide (ah KR g a t o mp v2 (ah L))
 clear bp L KR KB3
 go_wp2_with fail
 go_at_call 12
 refine(ah KR2).mono ?_
 rintro e v3 ⟨g2,rfl,Y⟩
 obtain⟨hcv,hb3⟩:=ah Y
 have HB3:=hide hb3
 clear KR2 Y hb3 y0 y1 y2 y3 y4 y5 y6 y7 y8 y9 y10 y11
 go_wp2_with fail
 go_ret
 exact⟨rfl,ah HB3⟩
theorem abZ:jc aP 4=0/\oN aP 4=((36:Nat):Int)/\oO aP 4=((0:Nat):Int):=by
 have h0:jc aP 4=0:=by
  unfold jc
  rw[if_neg (by rw[aPG.chk];omega),if_neg (by rw[gQ];decide)]
 refine⟨h0,?_,?_⟩
 ·unfold oN
  rw[if_pos h0,gQ,gQ]
  rfl
 ·unfold oO
  rw[if_pos h0,gQ]
  rfl
theorem ajK:((fV 36).drop 0).take 32=List.replicate 32 0:=by decide
theorem abK (w:World)(hT:Tab w):Calls Tryz.prog 4 #[] w fun e w'=>e=.returned (.bool true)/\Below w.heap.size w w':=by
 have h0:0<w.heap.size:=hT.lt
 have KW:=hide (abD w hT)
 have KS:Hid (∀ u,Calls Tryz.prog 7 #[] u fun e w'=>e=.returned (Pv aP)/\Below u.heap.size u w'):=fun u=>rU u
 have KM:Hid (∀ u mp,Below w.heap.size w u->Bl u mp (Pc aP) 24->Calls Tryz.prog 8 #[Pv aP,.int .i64 8,.slice none 0 0] u fun e w'=>∃ g a t o,e=.returned (.tuple #[.pointer (some ⟨g,0,none⟩),.pointer (some ⟨t,0,none⟩),.pointer (some ⟨o,0,none⟩)])/\Hid (Lp w aP aG aE g o [(t,tbO a aP),(a,alO g aP),(mp,.cells (Pc aP) 24)] 1 fV (fun _=>false) fV (fun _=>false) w')):=fun u mp hu hB=>wV w hT u mp hu hB
 have Ca:Hid (∀ g a t o mp v,Lp w aP aG aE g o [(t,tbO a aP),(a,alO g aP),(mp,.cells (Pc aP) 24)] 1 fV (fun _=>false) fV (fun _=>false) v->Calls Tryz.prog 12 #[.pointer (some ⟨o,0,none⟩),.pointer (some ⟨t,0,none⟩),Pv aP,.int .i64 4,.int .i64 0,.int .i64 1] v fun e v'=>e=.returned (.tuple #[.slice none 0 0,.int .i64 11])/\Hid (Lp w aP aG aE g o [(t,tbO a aP),(a,alO g aP),(mp,.cells (Pc aP) 24)] 1 fV (fun _=>false) fV (fun _=>false) v')):=fun g a t o mp v hv=>lC (dB (E:=aE) (V':=fV) h0) hv aP _ _ 4 0 1 11 (by omega) (by omega) (by omega) (fun yE v1 hs1 hv1=>mG (dB (E:=aE) (V':=fV) h0) hv1 aP _ _ bQ 4 rfl (fun iL v2 hs2 hv2=>jZ (a:=a) hv2 4 (hs2 _ (hs1 _ (by simp))) h0 abZ.1 abZ.2.1 abZ.2.2 (by decide) (by decide) ajK))
 have Cb:Hid (∀ g a t o mp (da:Option Addr) v,Lp w aP aG aE g o [(t,tbO a aP),(a,alO g aP),(mp,.cells (Pc aP) 24)] 1 fV (fun _=>false) fV (fun _=>false) v->Calls Tryz.prog 9 #[.pointer (some ⟨o,0,none⟩),.pointer (some ⟨t,0,none⟩),Pv aP,.int .i64 4,.int .i64 0,.slice da 1 1] v fun e v'=>e=.returned (.int .i64 11)/\Hid (Lp w aP aG aE g o [(t,tbO a aP),(a,alO g aP),(mp,.cells (Pc aP) 24)] 1 fV (fun _=>false) fV (fun _=>false) v')):=fun g a t o mp da v hv=>rP (dB (E:=aE) (V':=fV) h0) hv aP _ _ 4 0 da 1 1 11 (by omega) (by omega) aPG.chk (by rw[nH,jM.1];omega) (by omega) (fun yE v1 hs1 hv1=>mG (dB (E:=aE) (V':=fV) h0) hv1 aP _ _ bQ 4 rfl (fun iL v2 hs2 hv2=>jZ (a:=a) hv2 4 (hs2 _ (hs1 _ (by simp))) h0 abZ.1 abZ.2.1 abZ.2.2 (by decide) (by decide) ajK))
 have Cc:Hid (∀ g a t o mp v,Lp w aP aG aE g o [(t,tbO a aP),(a,alO g aP),(mp,.cells (Pc aP) 24)] 1 fV (fun _=>false) fV (fun _=>false) v->Calls Tryz.prog 11 #[.pointer (some ⟨o,0,none⟩),.pointer (some ⟨t,0,none⟩),Pv aP,.int .i64 4,.int .i64 0] v fun e v'=>e=.returned (.int .i64 11)/\Hid (Lp w aP aG aE g o [(t,tbO a aP),(a,alO g aP),(mp,.cells (Pc aP) 24)] 1 fV (fun _=>false) fV (fun _=>false) v')):=fun g a t o mp v hv=>abE (dB (E:=aE) (V':=fV) h0) hv aP _ _ 4 0 11 (by omega) aPG.chk (by rw[nH,jM.1];omega) (by omega) (fun yE v1 hs1 hv1=>mG (dB (E:=aE) (V':=fV) h0) hv1 aP _ _ bQ 4 rfl (fun iL v2 hs2 hv2=>jZ (a:=a) hv2 4 (hs2 _ (hs1 _ (by simp))) h0 abZ.1 abZ.2.1 abZ.2.2 (by decide) (by decide) ajK))
 have Cd:Hid (∀ g a t o mp v,Lp w aP aG aE g o [(t,tbO a aP),(a,alO g aP),(mp,.cells (Pc aP) 24)] 1 fV (fun _=>false) fV (fun _=>false) v->Calls Tryz.prog 10 #[.pointer (some ⟨o,0,none⟩),.pointer (some ⟨t,0,none⟩),.int .i64 4] v fun e v'=>e=.returned (.tuple #[.slice none 0 0,.int .i64 11])/\Hid (Lp w aP aG aE g o [(t,tbO a aP),(a,alO g aP),(mp,.cells (Pc aP) 24)] 1 fV (fun _=>false) fV (fun _=>false) v')):=fun g a t o mp v hv=>zQ (dB (E:=aE) (V':=fV) h0) hv _ _ 4 bQ rfl (fun v2 hv2=>jZ (a:=a) hv2 4 (by simp) h0 abZ.1 abZ.2.1 abZ.2.2 (by decide) (by decide) ajK)
 have Ce:Hid (∀ g a t o mp v,Lp w aP aG aE g o [(t,tbO a aP),(a,alO g aP),(mp,.cells (Pc aP) 24)] 1 fV (fun _=>false) fV (fun _=>false) v->Calls Tryz.prog 12 #[.pointer (some ⟨o,0,none⟩),.pointer (some ⟨t,0,none⟩),Pv aP,.int .i64 (-1),.int .i64 0,.int .i64 1] v fun e v'=>e=.returned (.tuple #[.slice none 0 0,.int .i64 2])/\Hid (Lp w aP aG aE g o [(t,tbO a aP),(a,alO g aP),(mp,.cells (Pc aP) 24)] 1 fV (fun _=>false) fV (fun _=>false) v')):=fun g a t o mp v hv=>lC (dB (E:=aE) (V':=fV) h0) hv aP _ _ (-1) 0 1 2 (by omega) (by omega) (by omega) (fun yE v1 hs1 hv1=>lD (dB (E:=aE) (V':=fV) h0) hv1 aP _ _ _ 2 (by omega) (fun iL v2 hs2 hv2=>(aaL _ _ v2 (hv2.row (x:=(t,tbO a aP)) (hs2 _ (hs1 _ (by simp)))) aiM.1).mono (fun e u' ⟨x,y⟩=>⟨x,hv2.later y⟩)))
 have Cf:Hid (∀ g a t o mp v,Lp w aP aG aE g o [(t,tbO a aP),(a,alO g aP),(mp,.cells (Pc aP) 24)] 1 fV (fun _=>false) fV (fun _=>false) v->Calls Tryz.prog 12 #[.pointer (some ⟨o,0,none⟩),.pointer (some ⟨t,0,none⟩),Pv aP,.int .i64 2,.int .i64 (-1),.int .i64 1] v fun e v'=>e=.returned (.tuple #[.slice none 0 0,.int .i64 1])/\Hid (Lp w aP aG aE g o [(t,tbO a aP),(a,alO g aP),(mp,.cells (Pc aP) 24)] 1 fV (fun _=>false) fV (fun _=>false) v')):=fun g a t o mp v hv=>adP (dB (E:=aE) (V':=fV) h0) hv aP _ _ 2 (-1) 1 (by omega)
 have Cg:Hid (∀ g a t o mp v,Lp w aP aG aE g o [(t,tbO a aP),(a,alO g aP),(mp,.cells (Pc aP) 24)] 1 fV (fun _=>false) fV (fun _=>false) v->Calls Tryz.prog 12 #[.pointer (some ⟨o,0,none⟩),.pointer (some ⟨t,0,none⟩),Pv aP,.int .i64 2,.int .i64 0,.int .i64 4097] v fun e v'=>e=.returned (.tuple #[.slice none 0 0,.int .i64 5])/\Hid (Lp w aP aG aE g o [(t,tbO a aP),(a,alO g aP),(mp,.cells (Pc aP) 24)] 1 fV (fun _=>false) fV (fun _=>false) v')):=fun g a t o mp v hv=>zD (dB (E:=aE) (V':=fV) h0) hv aP _ _ 2 0 4097 (by omega) (by omega)
 have Ch:Hid (∀ g a t o mp (da:Option Addr) v,Lp w aP aG aE g o [(t,tbO a aP),(a,alO g aP),(mp,.cells (Pc aP) 24)] 1 fV (fun _=>false) fV (fun _=>false) v->Calls Tryz.prog 9 #[.pointer (some ⟨o,0,none⟩),.pointer (some ⟨t,0,none⟩),Pv aP,.int .i64 2,.int .i64 524288,.slice da 1 1] v fun e v'=>e=.returned (.int .i64 5)/\Hid (Lp w aP aG aE g o [(t,tbO a aP),(a,alO g aP),(mp,.cells (Pc aP) 24)] 1 fV (fun _=>false) fV (fun _=>false) v')):=fun g a t o mp da v hv=>wR (dB (E:=aE) (V':=fV) h0) hv aP _ _ 2 524288 da 1 1 (by omega) (by omega) aPG.chk (by rw[nH,jM.1];omega)
 have Ci:Hid (∀ g a t o mp v,Lp w aP aG aE g o [(t,tbO a aP),(a,alO g aP),(mp,.cells (Pc aP) 24)] 1 fV (fun _=>false) fV (fun _=>false) v->Calls Tryz.prog 11 #[.pointer (some ⟨o,0,none⟩),.pointer (some ⟨t,0,none⟩),Pv aP,.int .i64 2,.int .i64 1048576] v fun e v'=>e=.returned (.int .i64 5)/\Hid (Lp w aP aG aE g o [(t,tbO a aP),(a,alO g aP),(mp,.cells (Pc aP) 24)] 1 fV (fun _=>false) fV (fun _=>false) v')):=fun g a t o mp v hv=>wS (dB (E:=aE) (V':=fV) h0) hv aP _ _ 2 1048576 (by omega) aPG.chk (by rw[nH,jM.1];omega)
 have Cj:Hid (∀ g a t o mp v,Lp w aP aG aE g o [(t,tbO a aP),(a,alO g aP),(mp,.cells (Pc aP) 24)] 1 fV (fun _=>false) fV (fun _=>false) v->Calls Tryz.prog 12 #[.pointer none,.pointer (some ⟨t,0,none⟩),Pv aP,.int .i64 2,.int .i64 0,.int .i64 1] v fun e v'=>e=.returned (.tuple #[.slice none 0 0,.int .i64 1])/\Hid (Lp w aP aG aE g o [(t,tbO a aP),(a,alO g aP),(mp,.cells (Pc aP) 24)] 1 fV (fun _=>false) fV (fun _=>false) v')):=fun g a t o mp v hv=>lC (dB (E:=aE) (V':=fV) h0) hv aP none _ 2 0 1 1 (by omega) (by omega) (by omega) (fun yE v1 hs1 hv1=>lD (dB (E:=aE) (V':=fV) h0) hv1 aP _ _ _ 1 (by omega) (fun iL v2 hs2 hv2=>(vF (a:=a) (bk:=35) (at0:=0) _ 2 1 v2 (hv2.row (x:=(t,tbO a aP)) (hs2 _ (hs1 _ (by simp)))) lT.1 lT.2.1 lT.2.2 (by omega) (fun v3 _=>adb _ v3)).mono (fun e u' ⟨x,y⟩=>⟨x,hv2.later y⟩)))
 have Ck:Hid (∀ g a t o mp v,Lp w aP aG aE g o [(t,tbO a aP),(a,alO g aP),(mp,.cells (Pc aP) 24)] 1 fV (fun _=>false) fV (fun _=>false) v->Calls Tryz.prog 12 #[.pointer (some ⟨o,0,none⟩),.pointer none,Pv aP,.int .i64 2,.int .i64 0,.int .i64 1] v fun e v'=>e=.returned (.tuple #[.slice none 0 0,.int .i64 1])/\Hid (Lp w aP aG aE g o [(t,tbO a aP),(a,alO g aP),(mp,.cells (Pc aP) 24)] 1 fV (fun _=>false) fV (fun _=>false) v')):=fun g a t o mp v hv=>lC (dB (E:=aE) (V':=fV) h0) hv aP _ none 2 0 1 1 (by omega) (by omega) (by omega) (fun yE v1 hs1 hv1=>lD (dB (E:=aE) (V':=fV) h0) hv1 aP _ _ _ 1 (by omega) (fun iL v2 hs2 hv2=>(aeP _ _ v2).mono (fun e u' ⟨x,y⟩=>⟨x,hv2.later y⟩)))
 have CL:Hid (∀ g a t o mp v,Lp w aP aG aE g o [(t,tbO a aP),(a,alO g aP),(mp,.cells (Pc aP) 24)] 1 fV (fun _=>false) fV (fun _=>false) v->Calls Tryz.prog 13 #[.pointer (some ⟨o,0,none⟩)] v fun e u1=>e=.returned (.int .i64 0)/\Hid (Bl u1 mp (Pc aP) 24/\Below w.heap.size w u1/\∀ (da:Option Addr) v2,Below u1.heap.size u1 v2->Calls Tryz.prog 9 #[.pointer (some ⟨o,0,none⟩),.pointer (some ⟨t,0,none⟩),Pv aP,.int .i64 2,.int .i64 0,.slice da 1 1] v2 fun e v'=>e=.returned (.int .i64 22)/\Below u1.heap.size u1 v')):=fun g a t o mp v hv=>by
  refine(ahI hv aii).mono ?_
  rintro e u1 ⟨rfl,Y⟩
  refine⟨rfl,(ah Y).lo.row (x:=(mp,.cells (Pc aP) 24)) (by simp),(ah Y).lo.bel,fun da v2 hv2=>?_⟩
  have hrow:u1.heap[t]?=some (tbO a aP):=(ah Y).lo.row (x:=(t,tbO a aP)) (by simp)
  have hlt:t<u1.heap.size:=(Array.getElem?_eq_some_iff.1 hrow).1
  have hQ:Below u1.heap.size u1 v2/\∀ x∈([]:List (Nat×Obj)),v2.heap[x.1]?=some x.2:=⟨hv2,fun x hx=>by cases hx⟩
  refine(rP (zX u1) hQ aP _ _ 2 0 da 1 1 22 (by omega) (by omega) aPG.chk (by rw[nH,jM.1];omega) (by omega) (fun yE v1 hs1 hv1=>lD (zX u1) hv1 aP _ _ _ 22 (by omega) (fun iL v3 hs2 hv3=>?_))).mono ?_
  ·refine(vF (a:=a) (bk:=35) (at0:=0) _ 2 22 v3 ((hv3.1.block t hlt).trans hrow) lT.1 lT.2.1 lT.2.2 (by omega) (fun v4 hv4=>?_)).mono (fun e u' ⟨x,y⟩=>⟨x,(zX u1).later hv3 y⟩)
   obtain⟨cg,lg,dg,X,C,L,D,S,l,_,ov⟩:=(ah Y).later (hv3.1.trans (hv4.mono hv3.1.size))
   exact abm l.hl.gv ov _
  ·rintro e v' ⟨rfl,q⟩
   exact⟨rfl,(ah q).1⟩
 clear hT h0
 generalize aP=p at *
 go_enter Tryz.func4,Tryz.ntmps4
 go_wp2_with fail
 go_at_call 6
 refine(ah KW).mono ?_
 rintro e w1 ⟨rfl,hb1⟩
 have HB1:=hide hb1
 clear KW hb1
 go_wp2_with fail
 go_at_call 7
 refine(ah KS _).mono ?_
 rintro e w2 ⟨rfl,hb2⟩
 have HB2:=hide ((ah HB1).trans (hb2.mono (ah HB1).size))
 have KM2:=hide (ah KM (w2.alloc (.cells (Pc p) 24)) w2.heap.size ((ah HB2).alloc (ah HB2).size _) (Bl.new w2 (Pc p) 24))
 have bp:=Bl.new w2 (Pc p) 24
 clear KS HB1 hb2 HB2 KM
 go_upto_region 4 with (refine wpList_store_row rfl 24 _ _ rfl w2.heap.size (Pc p) rfl rfl 24 #[.int .i64 0,.int .i64 0,.int .i64 0,.int .i64 0,.int .i64 0,.int .i64 0,.int .i64 0,.int .i64 0,.int .i64 0,.int .i64 0,.int .i64 0,.int .i64 0] (World.alloc_heap_new _ _) (by kernel_rfl) rfl (by simp[Value.oneCell']) ?_;rw[World.setRow_alloc_new])
 change Code.wp _ _ _ _ (w2.alloc (.cells (Pc p) 24))
 generalize w2.alloc (.cells (Pc p) 24)=w3 at *
 generalize w2.heap.size=mp at *
 have y0:=bp.cell 0 (.int .i64 (p 0)) rfl
 have y1:=bp.cell 1 (.int .i64 (p 1)) rfl
 have y2:=bp.cell 2 (.int .i64 (p 2)) rfl
 have y3:=bp.cell 3 (.int .i64 (p 3)) rfl
 have y4:=bp.cell 4 (.int .i64 (p 4)) rfl
 have y5:=bp.cell 5 (.int .i64 (p 5)) rfl
 have y6:=bp.cell 6 (.int .i64 (p 6)) rfl
 have y7:=bp.cell 7 (.int .i64 (p 7)) rfl
 have y8:=bp.cell 8 (.int .i64 (p 8)) rfl
 have y9:=bp.cell 9 (.int .i64 (p 9)) rfl
 have y10:=bp.cell 10 (.int .i64 (p 10)) rfl
 have y11:=bp.cell 11 (.int .i64 (p 11)) rfl
 clear bp
 go_wp2_with fail
 go_at_call 8
 refine(ah KM2).mono ?_
 rintro e v0 ⟨g,a,t,o,rfl,L⟩
 clear KM2 y0 y1 y2 y3 y4 y5 y6 y7 y8 y9 y10 y11
 have bp:Bl v0 mp (Pc p) 24:=(ah L).row (x:=(mp,.cells (Pc p) 24)) (by simp)
 have y0:=bp.cell 0 (.int .i64 (p 0)) rfl
 have y1:=bp.cell 1 (.int .i64 (p 1)) rfl
 have y2:=bp.cell 2 (.int .i64 (p 2)) rfl
 have y3:=bp.cell 3 (.int .i64 (p 3)) rfl
 have y4:=bp.cell 4 (.int .i64 (p 4)) rfl
 have y5:=bp.cell 5 (.int .i64 (p 5)) rfl
 have y6:=bp.cell 6 (.int .i64 (p 6)) rfl
 have y7:=bp.cell 7 (.int .i64 (p 7)) rfl
 have y8:=bp.cell 8 (.int .i64 (p 8)) rfl
 have y9:=bp.cell 9 (.int .i64 (p 9)) rfl
 have y10:=bp.cell 10 (.int .i64 (p 10)) rfl
 have y11:=bp.cell 11 (.int .i64 (p 11)) rfl
 clear bp
 go_wp2_with fail
 go_at_call 12
 refine(ah Ca g a t o mp _ (ah L)).mono ?_
 rintro e v1 ⟨rfl,L1⟩
 clear Ca L y0 y1 y2 y3 y4 y5 y6 y7 y8 y9 y10 y11
 have L:=hide (ah L1)
 clear L1
 have bp:Bl v1 mp (Pc p) 24:=(ah L).row (x:=(mp,.cells (Pc p) 24)) (by simp)
 have y0:=bp.cell 0 (.int .i64 (p 0)) rfl
 have y1:=bp.cell 1 (.int .i64 (p 1)) rfl
 have y2:=bp.cell 2 (.int .i64 (p 2)) rfl
 have y3:=bp.cell 3 (.int .i64 (p 3)) rfl
 have y4:=bp.cell 4 (.int .i64 (p 4)) rfl
 have y5:=bp.cell 5 (.int .i64 (p 5)) rfl
 have y6:=bp.cell 6 (.int .i64 (p 6)) rfl
 have y7:=bp.cell 7 (.int .i64 (p 7)) rfl
 have y8:=bp.cell 8 (.int .i64 (p 8)) rfl
 have y9:=bp.cell 9 (.int .i64 (p 9)) rfl
 have y10:=bp.cell 10 (.int .i64 (p 10)) rfl
 have y11:=bp.cell 11 (.int .i64 (p 11)) rfl
 clear bp
 go_wp2_with fail
 go_at_call 9
 refine(ah Cb g a t o mp _ _ ((ah L).later ((Below.refl _ _).alloc (Nat.le_refl _) (.cells #[.int .u8 1] 5)))).mono ?_
 rintro e v2 ⟨rfl,L1⟩
 clear Cb L y0 y1 y2 y3 y4 y5 y6 y7 y8 y9 y10 y11
 have L:=hide (ah L1)
 clear L1
 have bp:Bl v2 mp (Pc p) 24:=(ah L).row (x:=(mp,.cells (Pc p) 24)) (by simp)
 have y0:=bp.cell 0 (.int .i64 (p 0)) rfl
 have y1:=bp.cell 1 (.int .i64 (p 1)) rfl
 have y2:=bp.cell 2 (.int .i64 (p 2)) rfl
 have y3:=bp.cell 3 (.int .i64 (p 3)) rfl
 have y4:=bp.cell 4 (.int .i64 (p 4)) rfl
 have y5:=bp.cell 5 (.int .i64 (p 5)) rfl
 have y6:=bp.cell 6 (.int .i64 (p 6)) rfl
 have y7:=bp.cell 7 (.int .i64 (p 7)) rfl
 have y8:=bp.cell 8 (.int .i64 (p 8)) rfl
 have y9:=bp.cell 9 (.int .i64 (p 9)) rfl
 have y10:=bp.cell 10 (.int .i64 (p 10)) rfl
 have y11:=bp.cell 11 (.int .i64 (p 11)) rfl
 clear bp
 go_wp2_with fail
 go_at_call 11
 refine(ah Cc g a t o mp _ (ah L)).mono ?_
 rintro e v3 ⟨rfl,L1⟩
 clear Cc L y0 y1 y2 y3 y4 y5 y6 y7 y8 y9 y10 y11
 have L:=hide (ah L1)
 clear L1
 go_wp2_with fail
 go_at_call 10
 refine(ah Cd g a t o mp _ (ah L)).mono ?_
 rintro e v4 ⟨rfl,L1⟩
 clear Cd L
 have L:=hide (ah L1)
 clear L1
 have bp:Bl v4 mp (Pc p) 24:=(ah L).row (x:=(mp,.cells (Pc p) 24)) (by simp)
 have y0:=bp.cell 0 (.int .i64 (p 0)) rfl
 have y1:=bp.cell 1 (.int .i64 (p 1)) rfl
 have y2:=bp.cell 2 (.int .i64 (p 2)) rfl
 have y3:=bp.cell 3 (.int .i64 (p 3)) rfl
 have y4:=bp.cell 4 (.int .i64 (p 4)) rfl
 have y5:=bp.cell 5 (.int .i64 (p 5)) rfl
 have y6:=bp.cell 6 (.int .i64 (p 6)) rfl
 have y7:=bp.cell 7 (.int .i64 (p 7)) rfl
 have y8:=bp.cell 8 (.int .i64 (p 8)) rfl
 have y9:=bp.cell 9 (.int .i64 (p 9)) rfl
 have y10:=bp.cell 10 (.int .i64 (p 10)) rfl
 have y11:=bp.cell 11 (.int .i64 (p 11)) rfl
 clear bp
 go_wp2_with fail
 go_at_call 12
 refine(ah Ce g a t o mp _ (ah L)).mono ?_
 rintro e v5 ⟨rfl,L1⟩
 clear Ce L y0 y1 y2 y3 y4 y5 y6 y7 y8 y9 y10 y11
 have L:=hide (ah L1)
 clear L1
 have bp:Bl v5 mp (Pc p) 24:=(ah L).row (x:=(mp,.cells (Pc p) 24)) (by simp)
 have y0:=bp.cell 0 (.int .i64 (p 0)) rfl
 have y1:=bp.cell 1 (.int .i64 (p 1)) rfl
 have y2:=bp.cell 2 (.int .i64 (p 2)) rfl
 have y3:=bp.cell 3 (.int .i64 (p 3)) rfl
 have y4:=bp.cell 4 (.int .i64 (p 4)) rfl
 have y5:=bp.cell 5 (.int .i64 (p 5)) rfl
 have y6:=bp.cell 6 (.int .i64 (p 6)) rfl
 have y7:=bp.cell 7 (.int .i64 (p 7)) rfl
 have y8:=bp.cell 8 (.int .i64 (p 8)) rfl
 have y9:=bp.cell 9 (.int .i64 (p 9)) rfl
 have y10:=bp.cell 10 (.int .i64 (p 10)) rfl
 have y11:=bp.cell 11 (.int .i64 (p 11)) rfl
 clear bp
 go_wp2_with fail
 go_at_call 12
 refine(ah Cf g a t o mp _ (ah L)).mono ?_
 rintro e v6 ⟨rfl,L1⟩
 clear Cf L y0 y1 y2 y3 y4 y5 y6 y7 y8 y9 y10 y11
 have L:=hide (ah L1)
 clear L1
 have bp:Bl v6 mp (Pc p) 24:=(ah L).row (x:=(mp,.cells (Pc p) 24)) (by simp)
 have y0:=bp.cell 0 (.int .i64 (p 0)) rfl
 have y1:=bp.cell 1 (.int .i64 (p 1)) rfl
 have y2:=bp.cell 2 (.int .i64 (p 2)) rfl
 have y3:=bp.cell 3 (.int .i64 (p 3)) rfl
 have y4:=bp.cell 4 (.int .i64 (p 4)) rfl
 have y5:=bp.cell 5 (.int .i64 (p 5)) rfl
 have y6:=bp.cell 6 (.int .i64 (p 6)) rfl
 have y7:=bp.cell 7 (.int .i64 (p 7)) rfl
 have y8:=bp.cell 8 (.int .i64 (p 8)) rfl
 have y9:=bp.cell 9 (.int .i64 (p 9)) rfl
 have y10:=bp.cell 10 (.int .i64 (p 10)) rfl
 have y11:=bp.cell 11 (.int .i64 (p 11)) rfl
 clear bp
 go_wp2_with fail
 go_at_call 12
 refine(ah Cg g a t o mp _ (ah L)).mono ?_
 rintro e v7 ⟨rfl,L1⟩
 clear Cg L y0 y1 y2 y3 y4 y5 y6 y7 y8 y9 y10 y11
 have L:=hide (ah L1)
 clear L1
 have bp:Bl v7 mp (Pc p) 24:=(ah L).row (x:=(mp,.cells (Pc p) 24)) (by simp)
 have y0:=bp.cell 0 (.int .i64 (p 0)) rfl
 have y1:=bp.cell 1 (.int .i64 (p 1)) rfl
 have y2:=bp.cell 2 (.int .i64 (p 2)) rfl
 have y3:=bp.cell 3 (.int .i64 (p 3)) rfl
 have y4:=bp.cell 4 (.int .i64 (p 4)) rfl
 have y5:=bp.cell 5 (.int .i64 (p 5)) rfl
 have y6:=bp.cell 6 (.int .i64 (p 6)) rfl
 have y7:=bp.cell 7 (.int .i64 (p 7)) rfl
 have y8:=bp.cell 8 (.int .i64 (p 8)) rfl
 have y9:=bp.cell 9 (.int .i64 (p 9)) rfl
 have y10:=bp.cell 10 (.int .i64 (p 10)) rfl
 have y11:=bp.cell 11 (.int .i64 (p 11)) rfl
 clear bp
 go_wp2_with fail
 go_at_call 9
 refine(ah Ch g a t o mp _ _ ((ah L).later ((Below.refl _ _).alloc (Nat.le_refl _) (.cells #[.int .u8 1] 5)))).mono ?_
 rintro e v8 ⟨rfl,L1⟩
 clear Ch L y0 y1 y2 y3 y4 y5 y6 y7 y8 y9 y10 y11
 have L:=hide (ah L1)
 clear L1
 have bp:Bl v8 mp (Pc p) 24:=(ah L).row (x:=(mp,.cells (Pc p) 24)) (by simp)
 have y0:=bp.cell 0 (.int .i64 (p 0)) rfl
 have y1:=bp.cell 1 (.int .i64 (p 1)) rfl
 have y2:=bp.cell 2 (.int .i64 (p 2)) rfl
 have y3:=bp.cell 3 (.int .i64 (p 3)) rfl
 have y4:=bp.cell 4 (.int .i64 (p 4)) rfl
 have y5:=bp.cell 5 (.int .i64 (p 5)) rfl
 have y6:=bp.cell 6 (.int .i64 (p 6)) rfl
 have y7:=bp.cell 7 (.int .i64 (p 7)) rfl
 have y8:=bp.cell 8 (.int .i64 (p 8)) rfl
 have y9:=bp.cell 9 (.int .i64 (p 9)) rfl
 have y10:=bp.cell 10 (.int .i64 (p 10)) rfl
 have y11:=bp.cell 11 (.int .i64 (p 11)) rfl
 clear bp
 go_wp2_with fail
 go_at_call 11
 refine(ah Ci g a t o mp _ (ah L)).mono ?_
 rintro e v9 ⟨rfl,L1⟩
 clear Ci L y0 y1 y2 y3 y4 y5 y6 y7 y8 y9 y10 y11
 have L:=hide (ah L1)
 clear L1
 have bp:Bl v9 mp (Pc p) 24:=(ah L).row (x:=(mp,.cells (Pc p) 24)) (by simp)
 have y0:=bp.cell 0 (.int .i64 (p 0)) rfl
 have y1:=bp.cell 1 (.int .i64 (p 1)) rfl
 have y2:=bp.cell 2 (.int .i64 (p 2)) rfl
 have y3:=bp.cell 3 (.int .i64 (p 3)) rfl
 have y4:=bp.cell 4 (.int .i64 (p 4)) rfl
 have y5:=bp.cell 5 (.int .i64 (p 5)) rfl
 have y6:=bp.cell 6 (.int .i64 (p 6)) rfl
 have y7:=bp.cell 7 (.int .i64 (p 7)) rfl
 have y8:=bp.cell 8 (.int .i64 (p 8)) rfl
 have y9:=bp.cell 9 (.int .i64 (p 9)) rfl
 have y10:=bp.cell 10 (.int .i64 (p 10)) rfl
 have y11:=bp.cell 11 (.int .i64 (p 11)) rfl
 clear bp
 go_wp2_with fail
 go_at_call 12
 refine(ah Cj g a t o mp _ (ah L)).mono ?_
 rintro e v10 ⟨rfl,L1⟩
 clear Cj L y0 y1 y2 y3 y4 y5 y6 y7 y8 y9 y10 y11
 have L:=hide (ah L1)
 clear L1
 have bp:Bl v10 mp (Pc p) 24:=(ah L).row (x:=(mp,.cells (Pc p) 24)) (by simp)
 have y0:=bp.cell 0 (.int .i64 (p 0)) rfl
 have y1:=bp.cell 1 (.int .i64 (p 1)) rfl
 have y2:=bp.cell 2 (.int .i64 (p 2)) rfl
 have y3:=bp.cell 3 (.int .i64 (p 3)) rfl
 have y4:=bp.cell 4 (.int .i64 (p 4)) rfl
 have y5:=bp.cell 5 (.int .i64 (p 5)) rfl
 have y6:=bp.cell 6 (.int .i64 (p 6)) rfl
 have y7:=bp.cell 7 (.int .i64 (p 7)) rfl
 have y8:=bp.cell 8 (.int .i64 (p 8)) rfl
 have y9:=bp.cell 9 (.int .i64 (p 9)) rfl
 have y10:=bp.cell 10 (.int .i64 (p 10)) rfl
 have y11:=bp.cell 11 (.int .i64 (p 11)) rfl
 clear bp
 go_wp2_with fail
 go_at_call 12
 refine(ah Ck g a t o mp _ (ah L)).mono ?_
 rintro e v11 ⟨rfl,L1⟩
 clear Ck L y0 y1 y2 y3 y4 y5 y6 y7 y8 y9 y10 y11
 have L:=hide (ah L1)
 clear L1
 go_wp2_with fail
 go_at_call 13
 refine(ah CL g a t o mp _ (ah L)).mono ?_
 rintro e u1 ⟨rfl,Y⟩
 obtain⟨bp,hbw,hwr⟩:=ah Y
 have HBW:=hide hbw
 have HWR:=hide hwr
 clear CL L Y hbw hwr
 have y0:=bp.cell 0 (.int .i64 (p 0)) rfl
 have y1:=bp.cell 1 (.int .i64 (p 1)) rfl
 have y2:=bp.cell 2 (.int .i64 (p 2)) rfl
 have y3:=bp.cell 3 (.int .i64 (p 3)) rfl
 have y4:=bp.cell 4 (.int .i64 (p 4)) rfl
 have y5:=bp.cell 5 (.int .i64 (p 5)) rfl
 have y6:=bp.cell 6 (.int .i64 (p 6)) rfl
 have y7:=bp.cell 7 (.int .i64 (p 7)) rfl
 have y8:=bp.cell 8 (.int .i64 (p 8)) rfl
 have y9:=bp.cell 9 (.int .i64 (p 9)) rfl
 have y10:=bp.cell 10 (.int .i64 (p 10)) rfl
 have y11:=bp.cell 11 (.int .i64 (p 11)) rfl
 clear bp
 go_wp2_with fail
 go_at_call 9
 refine(ah HWR _ _ ((Below.refl _ _).alloc (Nat.le_refl _) (.cells #[.int .u8 1] 5))).mono ?_
 rintro e u2 ⟨rfl,hb⟩
 have HE:=hide ((ah HBW).trans (hb.mono (ah HBW).size))
 clear HBW HWR hb y0 y1 y2 y3 y4 y5 y6 y7 y8 y9 y10 y11
 go_wp2_with fail
 go_ret
 exact⟨rfl,ah HE⟩
end Go.Proofs.YtlpgfigbpjpdhaaGreatDoor
