/- Joined: PKeep, PMax, PPlace. -/
import Derived.Test.YtefdkpbmeoakgaaGreatDoorDnJ4
import Derived.Deep.RegionHeld3
/- A plan that came in, kept in its block. -/
namespace Go.Proofs.YtefdkpbmeoakgaaGreatDoor
set_option maxRecDepth 100000
set_option maxHeartbeats 8000000
open Go.RowKit Go.Shelf
set_option linter.unusedVariables false
def Kp (w:World) (P:Nat->Int) (u:World):Prop:=R12 u w.heap.size P/\Below w.heap.size w u
theorem Kp.start (w:World)(P:Nat->Int):Kp w P (w.alloc (.cells (Pc P) 24)):=⟨R12.new w P,(Below.refl _ _).alloc (Nat.le_refl _) _⟩
theorem Kp.call {w u u':World}{P}(h:Kp w P u)(hb:Below u.heap.size u u'):Kp w P u':=⟨h.1.below hb h.1.lt,h.2.trans (hb.mono h.2.size)⟩
theorem Kp.drew {w u P}(h:Kp w P u):Kp w P u.drew:=⟨h.1,h.2.drew⟩
theorem Kp.cells {w u P}(h:Kp w P u):u.cell? ⟨w.heap.size,0,none⟩=some (.int .i64 (P 0))/\u.cell? ⟨w.heap.size,1,none⟩=some (.int .i64 (P 1))/\u.cell? ⟨w.heap.size,2,none⟩=some (.int .i64 (P 2))/\u.cell? ⟨w.heap.size,3,none⟩=some (.int .i64 (P 3))/\u.cell? ⟨w.heap.size,4,none⟩=some (.int .i64 (P 4))/\u.cell? ⟨w.heap.size,5,none⟩=some (.int .i64 (P 5))/\u.cell? ⟨w.heap.size,6,none⟩=some (.int .i64 (P 6))/\u.cell? ⟨w.heap.size,7,none⟩=some (.int .i64 (P 7))/\u.cell? ⟨w.heap.size,8,none⟩=some (.int .i64 (P 8))/\u.cell? ⟨w.heap.size,9,none⟩=some (.int .i64 (P 9))/\u.cell? ⟨w.heap.size,10,none⟩=some (.int .i64 (P 10))/\u.cell? ⟨w.heap.size,11,none⟩=some (.int .i64 (P 11)) :=
 ⟨h.1.cell 0 (by omega),h.1.cell 1 (by omega),h.1.cell 2 (by omega),h.1.cell 3 (by omega),h.1.cell 4 (by omega),h.1.cell 5 (by omega),h.1.cell 6 (by omega),h.1.cell 7 (by omega),h.1.cell 8 (by omega),h.1.cell 9 (by omega),h.1.cell 10 (by omega),h.1.cell 11 (by omega)⟩
theorem Kp.js {w u P}(h:Kp w P u):Hid (Kp w P u)/\u.cell? ⟨w.heap.size,0,none⟩=some (.int .i64 (P 0))/\u.cell? ⟨w.heap.size,1,none⟩=some (.int .i64 (P 1))/\u.cell? ⟨w.heap.size,2,none⟩=some (.int .i64 (P 2))/\u.cell? ⟨w.heap.size,3,none⟩=some (.int .i64 (P 3))/\u.cell? ⟨w.heap.size,4,none⟩=some (.int .i64 (P 4))/\u.cell? ⟨w.heap.size,5,none⟩=some (.int .i64 (P 5))/\u.cell? ⟨w.heap.size,6,none⟩=some (.int .i64 (P 6))/\u.cell? ⟨w.heap.size,7,none⟩=some (.int .i64 (P 7))/\u.cell? ⟨w.heap.size,8,none⟩=some (.int .i64 (P 8))/\u.cell? ⟨w.heap.size,9,none⟩=some (.int .i64 (P 9))/\u.cell? ⟨w.heap.size,10,none⟩=some (.int .i64 (P 10))/\u.cell? ⟨w.heap.size,11,none⟩=some (.int .i64 (P 11)):=⟨h,h.cells⟩
theorem vW (P:Nat->Int)(w:World)(p:Int)(h:64<=P 0/\P 0<=4096)(hp:P 0 / 2=p) :
  Calls Tryz.prog 130 #[Pv P] w fun e w'=>e=.returned (.int .i64 p)/\Below w.heap.size w w':=by
 subst hp
 refine(aht P w h).mono ?_
 rintro e w' ⟨rfl,rfl⟩
 exact⟨rfl,(Below.refl _ _).alloc (Nat.le_refl _) _⟩
theorem ahp {a b:Int}(h:a=b):Ending.returned (.int .i64 a)=.returned (.int .i64 b):=by rw[h]
def mfb (P:Nat->Int):Int:=min (524288 / P 0) (8+P 0 / 2+P 0 / 2*(P 0 / 2))
theorem wC {P:Nat->Int}(h:isSize (P 0)):(P 0=64/\mfb P=1064)\/(P 0=128/\mfb P=4096)\/(P 0=256/\mfb P=2048)\/(P 0=512/\mfb P=1024)\/(P 0=1024/\mfb P=512)\/(P 0=2048/\mfb P=256)\/(P 0=4096/\mfb P=128):=by
 unfold isSize at h
 unfold mfb
 rcases h with h | h | h | h | h | h | h<;>rw[h]<;>simp<;>decide
theorem iL (P:Nat->Int)(w:World)(h:isSize (P 0)) :
  Calls Tryz.prog 87 #[Pv P] w fun r w'=>r=.returned (.int .i64 (mfb P))/\Below w.heap.size w w':=by
 obtain⟨p,hp⟩:∃ p,P 0 / 2=p:=⟨_,rfl⟩
 have hb:=iG h
 have hb2:32<=p/\p<=2048:=by omega
 have H1:=hide (fun u=>vW P u p hb hp)
 obtain⟨s,hs⟩:∃ s,p*p=s:=⟨_,rfl⟩
 have hs2:0<=s/\s<=4194304:=by
  have a:p*p<=2048*p:=Int.mul_le_mul_of_nonneg_right (by omega) (by omega)
  have b:0<=p*p:=Int.mul_nonneg (by omega) (by omega)
  omega
 have q1:IntKind.i64.wrap (p*p)=s:=by rw[hs,IntKind.wrap_i64];omega
 have HM:Hid (mfb P=min (524288 / P 0) (8+p+s)):=by rw[mfb,hp,hs];exact hide rfl
 clear hp hs h
 have HK:=hide (Kp.start w P)
 go_enter Tryz.func87,Tryz.ntmps87
 go_wp2_with fail
 go_at_call 130
 refine(ah H1 _).mono ?_
 rintro r w1 ⟨rfl,hx⟩
 replace HK:=hide ((ah HK).call hx)
 clear hx H1
 have f0:=(ah HK).1.cell 0 (by omega)
 go_wp2
 all_goals
  go_ret
  exact⟨ahp (by rw[ah HM];omega),(ah HK).2⟩
theorem ajm {P:Nat->Int}(h:isSize (P 0)):128<=mfb P/\mfb P<=4096:=by
 have:=wC h
 omega
theorem agD {P:Nat->Int}(h:isSize (P 0)):0<=P 0*mfb P/\P 0*mfb P<=524288:=by
 rcases wC h with ⟨a,b⟩ | ⟨a,b⟩ | ⟨a,b⟩ | ⟨a,b⟩ | ⟨a,b⟩ | ⟨a,b⟩ | ⟨a,b⟩<;>rw[a,b]<;>omega
theorem jL (P:Nat->Int)(w:World)(h:bH P=0) :
  Calls Tryz.prog 55 #[Pv P] w fun r w'=>r=.returned (.tuple #[.int .i64 (P 0*mfb P),.int .i64 0])/\Below w.heap.size w w':=by
 have HC:=hide (check_any P)
 rw[h] at HC
 have H1:=hide (fun u=>iL P u (sound h).size)
 have hm:=agD (sound h).size
 generalize mfb P=m at *
 obtain⟨s,hs⟩:∃ s,P 0*m=s:=⟨_,rfl⟩
 rw[hs] at hm
 have q1:IntKind.i64.wrap (P 0*m)=s:=by rw[hs,IntKind.wrap_i64];omega
 have HS:=hide hs
 rw[hs]
 clear h hs
 have HK:=hide (Kp.start w P)
 go_enter Tryz.func55,Tryz.ntmps55
 go_wp2_with fail
 go_at_call 46
 refine(ah HC _).mono ?_
 rintro r w1 ⟨rfl,hb⟩
 replace HK:=hide ((ah HK).call hb)
 clear hb HC
 obtain⟨f0,f1,f2,f3,f4,f5,f6,f7,f8,f9,f10,f11⟩:=(ah HK).cells
 go_wp2
 go_region_held3 (fun u=>Hid (Kp w P u)/\u.cell? ⟨w.heap.size,0,none⟩=some (.int .i64 (P 0))/\u.cell? ⟨w.heap.size,1,none⟩=some (.int .i64 (P 1))/\u.cell? ⟨w.heap.size,2,none⟩=some (.int .i64 (P 2))/\u.cell? ⟨w.heap.size,3,none⟩=some (.int .i64 (P 3))/\u.cell? ⟨w.heap.size,4,none⟩=some (.int .i64 (P 4))/\u.cell? ⟨w.heap.size,5,none⟩=some (.int .i64 (P 5))/\u.cell? ⟨w.heap.size,6,none⟩=some (.int .i64 (P 6))/\u.cell? ⟨w.heap.size,7,none⟩=some (.int .i64 (P 7))/\u.cell? ⟨w.heap.size,8,none⟩=some (.int .i64 (P 8))/\u.cell? ⟨w.heap.size,9,none⟩=some (.int .i64 (P 9))/\u.cell? ⟨w.heap.size,10,none⟩=some (.int .i64 (P 10))/\u.cell? ⟨w.heap.size,11,none⟩=some (.int .i64 (P 11)))
  (with_reducible (first | exact(ah HK).drew.js | exact(ah J1).js | exact(ah HK).js))
  ((go_at_call 87;refine(ah H1 _).mono ?_;rintro e w6 ⟨rfl,hb⟩;have J1:Hid (Kp w P w6):=Kp.call (ah (‹Hid (Kp w P _)/\_›).1) hb;clear hb))
 all_goals
  have jj:=ah (‹Hid (Kp w P _)/\_›).1
  go_wp2
  go_ret2
  exact⟨rfl,jj.2⟩
theorem adb {a b c d e f:Int}(h1:a=b)(h2:c=d)(h3:e=f):Ending.returned (.tuple #[.int .i64 a,.int .i64 c,.int .i64 e])=.returned (.tuple #[.int .i64 b,.int .i64 d,.int .i64 f]):=by rw[h1,h2,h3]
def jJ (P:Nat->Int) (n:Int):Int:=if bH P≠0 then 4 else if n<0\/P 2<=n then 2 else 0
def oL (P:Nat->Int) (n:Int):Int:=if jJ P n=0 then P 9+n / (P 0 / 32) else 0
def oM (P:Nat->Int) (n:Int):Int:=if jJ P n=0 then n%(P 0 / 32)*32 else 0
theorem ajH (n d:Int)(hn:0<=n/\n<=1099511627776)(hd:1<=d):(0<=n / d/\n / d<=n)/\(0<=n%d/\n%d<d) :=
 ⟨⟨Int.ediv_nonneg hn.1 (by omega),Int.ediv_le_self _ hn.1⟩,Int.emod_nonneg _ (by omega),Int.emod_lt_of_pos _ (by omega)⟩
theorem abr (P:Nat->Int)(n:Int)(w:World)(h:bH P≠0) :
  Calls Tryz.prog 48 #[Pv P,.int .i64 n] w fun r w'=>r=.returned (.tuple #[.int .i64 0,.int .i64 0,.int .i64 4])/\Below w.heap.size w w':=by
 have HC:=hide (check_any P)
 have h4:bH P=4:=by have:=ach P;omega
 rw[h4] at HC
 clear h h4
 go_enter Tryz.func48,Tryz.ntmps48
 go_wp2_with fail
 go_at_call 46
 refine(ah HC _).mono ?_
 rintro r w1 ⟨rfl,hb⟩
 have HB:=hide (((Below.refl w.heap.size w).alloc (Nat.le_refl _) (.cells (Pc P) 24)).trans (hb.mono (by simp)))
 clear hb HC
 go_wp2
 go_ret3
 exact⟨rfl,ah HB⟩
theorem adk (P:Nat->Int)(n:Int)(w:World)(h:bH P=0)(hn:n<0) :
  Calls Tryz.prog 48 #[Pv P,.int .i64 n] w fun r w'=>r=.returned (.tuple #[.int .i64 0,.int .i64 0,.int .i64 2])/\Below w.heap.size w w':=by
 have HC:=hide (check_any P)
 rw[h] at HC
 clear h
 go_enter Tryz.func48,Tryz.ntmps48
 go_wp2_with fail
 go_at_call 46
 refine(ah HC _).mono ?_
 rintro r w1 ⟨rfl,hb⟩
 have HB:=hide (((Below.refl w.heap.size w).alloc (Nat.le_refl _) (.cells (Pc P) 24)).trans (hb.mono (by simp)))
 clear hb HC
 go_wp2
 go_ret3
 exact⟨rfl,ah HB⟩
theorem abq (P:Nat->Int)(n:Int)(w:World)(h:bH P=0)(hn:¬ n<0)(hn2:P 2<=n) :
  Calls Tryz.prog 48 #[Pv P,.int .i64 n] w fun r w'=>r=.returned (.tuple #[.int .i64 0,.int .i64 0,.int .i64 2])/\Below w.heap.size w w':=by
 have HC:=hide (check_any P)
 rw[h] at HC
 clear h
 go_enter Tryz.func48,Tryz.ntmps48
 go_wp2_with fail
 go_at_call 46
 refine(ah HC _).mono ?_
 rintro r w1 ⟨rfl,hb⟩
 have HB:=hide (((Below.refl w.heap.size w).alloc (Nat.le_refl _) (.cells (Pc P) 24)).trans (hb.mono (by simp)))
 have f2:=((R12.new w P).below hb (R12.new w P).lt).cell 2 (by omega)
 clear hb HC
 go_wp2
 go_ret3
 exact⟨rfl,ah HB⟩
theorem afz (P:Nat->Int)(n d:Int)(w:World)(h:bH P=0)(hn:¬ n<0)(hn2:¬ P 2<=n)(hd:P 0 / 32=d) :
  Calls Tryz.prog 48 #[Pv P,.int .i64 n] w fun r w'=>r=.returned (.tuple #[.int .i64 (P 9+n / d),.int .i64 (n%d*32),.int .i64 0])/\Below w.heap.size w w':=by
 have HC:=hide (check_any P)
 rw[h] at HC
 have HS:=hide (sound h)
 have hb:=(sound h).bd
 have hi:=(sound h).aa9
 have h9:0<=P 9/\P 9<=10000:=by have a:=(sound h).p9;have b:=(sound h).log;omega
 have hd2:2<=d/\d<=128:=by omega
 have hp:=hb.1
 have hq:=ajH n d (by omega) (by omega)
 have q2:wrap64 ((P 0).tdiv 32)=d:=by rw[Int.tdiv_eq_ediv_of_nonneg (by omega),hd];simp only[wrap64];omega
 have HD:=hide hd
 clear h hb hd
 go_enter Tryz.func48,Tryz.ntmps48
 go_wp2_with fail
 go_at_call 46
 refine(ah HC _).mono ?_
 rintro r w1 ⟨rfl,hb⟩
 have HB:=hide (((Below.refl w.heap.size w).alloc (Nat.le_refl _) (.cells (Pc P) 24)).trans (hb.mono (by simp)))
 have f2:=((R12.new w P).below hb (R12.new w P).lt).cell 2 (by omega)
 have f0:=((R12.new w P).below hb (R12.new w P).lt).cell 0 (by omega)
 have f9:=((R12.new w P).below hb (R12.new w P).lt).cell 9 (by omega)
 clear hb HC
 go_wp2
 go_quiet (fail)
 go_wp2
 go_ret3
 refine⟨adb ?_ ?_ rfl,below_drewN (ah HB) _⟩
 ·rw[ah HD];simp only[wrap64];omega
 ·rw[ah HD];simp only[wrap64];omega
theorem iI (P:Nat->Int)(n:Int)(w:World) :
  Calls Tryz.prog 48 #[Pv P,.int .i64 n] w fun r w'=>r=.returned (.tuple #[.int .i64 (oL P n),.int .i64 (oM P n),.int .i64 (jJ P n)])/\Below w.heap.size w w':=by
 by_cases h:bH P=0
 ·by_cases h1:n<0
  ·have e:jJ P n=2:=by rw[jJ,if_neg (by omega),if_pos (.inl h1)]
   rw[oL,oM,e,if_neg (by omega),if_neg (by omega)]
   exact adk P n w h h1
  ·by_cases h2:P 2<=n
   ·have e:jJ P n=2:=by rw[jJ,if_neg (by omega),if_pos (.inr h2)]
    rw[oL,oM,e,if_neg (by omega),if_neg (by omega)]
    exact abq P n w h h1 h2
   ·have e:jJ P n=0:=by rw[jJ,if_neg (by omega),if_neg (by omega)]
    rw[oL,oM,e,if_pos rfl,if_pos rfl]
    exact afz P n _ w h h1 h2 rfl
 ·have e:jJ P n=4:=by rw[jJ,if_pos h]
  rw[oL,oM,e,if_neg (by omega),if_neg (by omega)]
  exact abr P n w h
end Go.Proofs.YtefdkpbmeoakgaaGreatDoor
