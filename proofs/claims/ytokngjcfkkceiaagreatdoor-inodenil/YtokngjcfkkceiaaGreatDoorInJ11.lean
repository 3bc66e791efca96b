/- Joined: PKeep, PMax, PPlace, PWhole. -/
import Derived.Test.YtokngjcfkkceiaaGreatDoorInJ6
import Derived.Deep.RegionHeld3
/- A plan that came in, kept in its block. -/
namespace Go.Proofs.YtokngjcfkkceiaaGreatDoor
set_option maxRecDepth 100000
set_option maxHeartbeats 8000000
open Go.RowKit Go.Shelf
set_option linter.unusedVariables false

def Kp (w:World) (P:Nat→Int) (u:World):Prop:=R12 u w.heap.size P∧Below w.heap.size w u

theorem Kp.start (w:World)(P:Nat→Int):Kp w P (w.alloc (.cells (Pc P) 25)):=⟨R12.new w P,(Below.refl _ _).alloc (Nat.le_refl _) _⟩

theorem Kp.call {w u u':World}{P:Nat→Int}(h:Kp w P u)(hb:Below u.heap.size u u'):Kp w P u':=⟨h.1.below hb h.1.lt,h.2.trans (hb.mono h.2.size)⟩

theorem Kp.drew {w u:World}{P:Nat→Int}(h:Kp w P u):Kp w P u.drew:=⟨h.1,h.2.drew⟩

theorem Kp.cells {w u:World}{P:Nat→Int}(h:Kp w P u):u.cell? ⟨w.heap.size,0,none⟩=some (.int .i64 (P 0))∧u.cell? ⟨w.heap.size,1,none⟩=some (.int .i64 (P 1))∧u.cell? ⟨w.heap.size,2,none⟩=some (.int .i64 (P 2))∧u.cell? ⟨w.heap.size,3,none⟩=some (.int .i64 (P 3))∧u.cell? ⟨w.heap.size,4,none⟩=some (.int .i64 (P 4))∧u.cell? ⟨w.heap.size,5,none⟩=some (.int .i64 (P 5))∧u.cell? ⟨w.heap.size,6,none⟩=some (.int .i64 (P 6))∧u.cell? ⟨w.heap.size,7,none⟩=some (.int .i64 (P 7))∧u.cell? ⟨w.heap.size,8,none⟩=some (.int .i64 (P 8))∧u.cell? ⟨w.heap.size,9,none⟩=some (.int .i64 (P 9))∧u.cell? ⟨w.heap.size,10,none⟩=some (.int .i64 (P 10))∧u.cell? ⟨w.heap.size,11,none⟩=some (.int .i64 (P 11)) :=
 ⟨h.1.cell 0 (by omega),h.1.cell 1 (by omega),h.1.cell 2 (by omega),h.1.cell 3 (by omega),h.1.cell 4 (by omega),h.1.cell 5 (by omega),h.1.cell 6 (by omega),h.1.cell 7 (by omega),h.1.cell 8 (by omega),h.1.cell 9 (by omega),h.1.cell 10 (by omega),h.1.cell 11 (by omega)⟩

theorem Kp.js {w u:World}{P:Nat→Int}(h:Kp w P u):Hid (Kp w P u)∧u.cell? ⟨w.heap.size,0,none⟩=some (.int .i64 (P 0))∧u.cell? ⟨w.heap.size,1,none⟩=some (.int .i64 (P 1))∧u.cell? ⟨w.heap.size,2,none⟩=some (.int .i64 (P 2))∧u.cell? ⟨w.heap.size,3,none⟩=some (.int .i64 (P 3))∧u.cell? ⟨w.heap.size,4,none⟩=some (.int .i64 (P 4))∧u.cell? ⟨w.heap.size,5,none⟩=some (.int .i64 (P 5))∧u.cell? ⟨w.heap.size,6,none⟩=some (.int .i64 (P 6))∧u.cell? ⟨w.heap.size,7,none⟩=some (.int .i64 (P 7))∧u.cell? ⟨w.heap.size,8,none⟩=some (.int .i64 (P 8))∧u.cell? ⟨w.heap.size,9,none⟩=some (.int .i64 (P 9))∧u.cell? ⟨w.heap.size,10,none⟩=some (.int .i64 (P 10))∧u.cell? ⟨w.heap.size,11,none⟩=some (.int .i64 (P 11)):=⟨h,h.cells⟩

theorem per_below (P:Nat→Int)(w:World)(p:Int)(h:64≤P 0∧P 0≤4096)(hp:P 0 / 2=p) :
  Calls Tryz.prog 131 #[Pv P] w fun e w'=>e=.returned (.int .i64 p)∧Below w.heap.size w w':=by
 subst hp
 refine(per_any P w h).mono ?_
 rintro e w' ⟨rfl,rfl⟩
 exact⟨rfl,(Below.refl _ _).alloc (Nat.le_refl _) _⟩

theorem ret_one {a b:Int}(h:a=b):Ending.returned (.int .i64 a)=.returned (.int .i64 b):=by rw[h]

def mfb (P:Nat→Int):Int:=min (524288 / P 0) (8+P 0 / 2+P 0 / 2*(P 0 / 2))

theorem mfb_cases {P:Nat→Int}(h:isSize (P 0)):(P 0=64∧mfb P=1064)∨(P 0=128∧mfb P=4096)∨(P 0=256∧mfb P=2048)∨(P 0=512∧mfb P=1024)∨(P 0=1024∧mfb P=512)∨(P 0=2048∧mfb P=256)∨(P 0=4096∧mfb P=128):=by
 unfold isSize at h
 unfold mfb
 rcases h with h | h | h | h | h | h | h<;>rw[h]<;>simp<;>decide

theorem maxFileBlocks_any (P:Nat→Int)(w:World)(h:isSize (P 0)) :
  Calls Tryz.prog 94 #[Pv P] w fun r w'=>r=.returned (.int .i64 (mfb P))∧Below w.heap.size w w':=by
 obtain⟨p,hp⟩:∃ p,P 0 / 2=p:=⟨_,rfl⟩
 have hb:=size_bd h
 have hb2:32≤p∧p≤2048:=by omega
 have H1:=hide (fun u=>per_below P u p hb hp)
 obtain⟨s,hs⟩:∃ s,p*p=s:=⟨_,rfl⟩
 have hs2:0≤s∧s≤4194304:=by
  have a:p*p≤2048*p:=Int.mul_le_mul_of_nonneg_right (by omega) (by omega)
  have b:0≤p*p:=Int.mul_nonneg (by omega) (by omega)
  omega
 have q1:IntKind.i64.wrap (p*p)=s:=by rw[hs,IntKind.wrap_i64];omega
 have HM:Hid (mfb P=min (524288 / P 0) (8+p+s)):=by rw[mfb,hp,hs];exact hide rfl
 clear hp hs h
 have HK:=hide (Kp.start w P)
 go_enter Tryz.func94,Tryz.ntmps94
 go_wp2_with fail
 go_at_call 131
 refine(unhide H1 _).mono ?_
 rintro r w1 ⟨rfl,hx⟩
 replace HK:=hide ((unhide HK).call hx)
 clear hx H1
 have f0:=(unhide HK).1.cell 0 (by omega)
 go_wp2
 all_goals
  go_ret
  exact⟨ret_one (by rw[unhide HM];omega),(unhide HK).2⟩

theorem mfb_bd {P:Nat→Int}(h:isSize (P 0)):128≤mfb P∧mfb P≤4096:=by
 have:=mfb_cases h
 omega

theorem msz_bd {P:Nat→Int}(h:isSize (P 0)):0≤P 0*mfb P∧P 0*mfb P≤524288:=by
 rcases mfb_cases h with ⟨a,b⟩ | ⟨a,b⟩ | ⟨a,b⟩ | ⟨a,b⟩ | ⟨a,b⟩ | ⟨a,b⟩ | ⟨a,b⟩<;>rw[a,b]<;>omega

theorem ret_three {a b c d e f:Int}(h1:a=b)(h2:c=d)(h3:e=f):Ending.returned (.tuple #[.int .i64 a,.int .i64 c,.int .i64 e])=.returned (.tuple #[.int .i64 b,.int .i64 d,.int .i64 f]):=by rw[h1,h2,h3]

def plcE (P:Nat→Int) (n:Int):Int:=if checkE P≠0 then 4 else if n<0∨P 2≤n then 2 else 0
def plcB (P:Nat→Int) (n:Int):Int:=if plcE P n=0 then P 9+n / (P 0 / 32) else 0
def plcA (P:Nat→Int) (n:Int):Int:=if plcE P n=0 then n%(P 0 / 32)*32 else 0

theorem div_bd (n d:Int)(hn:0≤n∧n≤1099511627776)(hd:1≤d):(0≤n / d∧n / d≤n)∧(0≤n%d∧n%d<d) :=
 ⟨⟨Int.ediv_nonneg hn.1 (by omega),Int.ediv_le_self _ hn.1⟩,Int.emod_nonneg _ (by omega),Int.emod_lt_of_pos _ (by omega)⟩

theorem place_form (P:Nat→Int)(n:Int)(w:World)(h:checkE P≠0) :
  Calls Tryz.prog 44 #[Pv P,.int .i64 n] w fun r w'=>r=.returned (.tuple #[.int .i64 0,.int .i64 0,.int .i64 4])∧Below w.heap.size w w':=by
 have HC:=hide (check_any P)
 have h4:checkE P=4:=by have:=checkE_two P;omega
 rw[h4] at HC
 clear h h4
 go_enter Tryz.func44,Tryz.ntmps44
 go_wp2_with fail
 go_at_call 66
 refine(unhide HC _).mono ?_
 rintro r w1 ⟨rfl,hb⟩
 have HB:=hide (((Below.refl w.heap.size w).alloc (Nat.le_refl _) (.cells (Pc P) 25)).trans (hb.mono (by simp)))
 clear hb HC
 go_wp2
 go_ret3
 exact⟨rfl,unhide HB⟩

theorem place_low (P:Nat→Int)(n:Int)(w:World)(h:checkE P=0)(hn:n<0) :
  Calls Tryz.prog 44 #[Pv P,.int .i64 n] w fun r w'=>r=.returned (.tuple #[.int .i64 0,.int .i64 0,.int .i64 2])∧Below w.heap.size w w':=by
 have HC:=hide (check_any P)
 rw[h] at HC
 clear h
 go_enter Tryz.func44,Tryz.ntmps44
 go_wp2_with fail
 go_at_call 66
 refine(unhide HC _).mono ?_
 rintro r w1 ⟨rfl,hb⟩
 have HB:=hide (((Below.refl w.heap.size w).alloc (Nat.le_refl _) (.cells (Pc P) 25)).trans (hb.mono (by simp)))
 clear hb HC
 go_wp2
 go_ret3
 exact⟨rfl,unhide HB⟩

theorem place_high (P:Nat→Int)(n:Int)(w:World)(h:checkE P=0)(hn:¬ n<0)(hn2:P 2≤n) :
  Calls Tryz.prog 44 #[Pv P,.int .i64 n] w fun r w'=>r=.returned (.tuple #[.int .i64 0,.int .i64 0,.int .i64 2])∧Below w.heap.size w w':=by
 have HC:=hide (check_any P)
 rw[h] at HC
 clear h
 go_enter Tryz.func44,Tryz.ntmps44
 go_wp2_with fail
 go_at_call 66
 refine(unhide HC _).mono ?_
 rintro r w1 ⟨rfl,hb⟩
 have HB:=hide (((Below.refl w.heap.size w).alloc (Nat.le_refl _) (.cells (Pc P) 25)).trans (hb.mono (by simp)))
 have f2:=((R12.new w P).below hb (R12.new w P).lt).cell 2 (by omega)
 clear hb HC
 go_wp2
 go_ret3
 exact⟨rfl,unhide HB⟩

theorem place_ok (P:Nat→Int)(n d:Int)(w:World)(h:checkE P=0)(hn:¬ n<0)(hn2:¬ P 2≤n)(hd:P 0 / 32=d) :
  Calls Tryz.prog 44 #[Pv P,.int .i64 n] w fun r w'=>r=.returned (.tuple #[.int .i64 (P 9+n / d),.int .i64 (n%d*32),.int .i64 0])∧Below w.heap.size w w':=by
 have HC:=hide (check_any P)
 rw[h] at HC
 have HS:=hide (sound h)
 have hb:=(sound h).bd
 have hi:=(sound h).inodes
 have h9:0≤P 9∧P 9≤10000:=by have a:=(sound h).p9;have b:=(sound h).log;omega
 have hd2:2≤d∧d≤128:=by omega
 have hp:=hb.1
 have hq:=div_bd n d (by omega) (by omega)
 have q2:wrap64 ((P 0).tdiv 32)=d:=by rw[Int.tdiv_eq_ediv_of_nonneg (by omega),hd];simp only[wrap64];omega
 have HD:=hide hd
 clear h hb hd
 go_enter Tryz.func44,Tryz.ntmps44
 go_wp2_with fail
 go_at_call 66
 refine(unhide HC _).mono ?_
 rintro r w1 ⟨rfl,hb⟩
 have HB:=hide (((Below.refl w.heap.size w).alloc (Nat.le_refl _) (.cells (Pc P) 25)).trans (hb.mono (by simp)))
 have f2:=((R12.new w P).below hb (R12.new w P).lt).cell 2 (by omega)
 have f0:=((R12.new w P).below hb (R12.new w P).lt).cell 0 (by omega)
 have f9:=((R12.new w P).below hb (R12.new w P).lt).cell 9 (by omega)
 clear hb HC
 go_wp2
 go_quiet (fail)
 go_wp2
 go_ret3
 refine⟨ret_three ?_ ?_ rfl,below_drewN (unhide HB) _⟩
 ·rw[unhide HD];simp only[wrap64];omega
 ·rw[unhide HD];simp only[wrap64];omega

theorem place_any (P:Nat→Int)(n:Int)(w:World) :
  Calls Tryz.prog 44 #[Pv P,.int .i64 n] w fun r w'=>r=.returned (.tuple #[.int .i64 (plcB P n),.int .i64 (plcA P n),.int .i64 (plcE P n)])∧Below w.heap.size w w':=by
 by_cases h:checkE P=0
 ·by_cases h1:n<0
  ·have e:plcE P n=2:=by rw[plcE,if_neg (by omega),if_pos (.inl h1)]
   rw[plcB,plcA,e,if_neg (by omega),if_neg (by omega)]
   exact place_low P n w h h1
  ·by_cases h2:P 2≤n
   ·have e:plcE P n=2:=by rw[plcE,if_neg (by omega),if_pos (.inr h2)]
    rw[plcB,plcA,e,if_neg (by omega),if_neg (by omega)]
    exact place_high P n w h h1 h2
   ·have e:plcE P n=0:=by rw[plcE,if_neg (by omega),if_neg (by omega)]
    rw[plcB,plcA,e,if_pos rfl,if_pos rfl]
    exact place_ok P n _ w h h1 h2 rfl
 ·have e:plcE P n=4:=by rw[plcE,if_pos h]
  rw[plcB,plcA,e,if_neg (by omega),if_neg (by omega)]
  exact place_form P n w h

def ptr (P:Nat→Int) (data:Int):Int:=if data≤8 then 0 else if data - 8≤P 0 / 2 then 1 else 2+cd (data - 8 - P 0 / 2) (P 0 / 2)

theorem cd_top (n e:Int)(hn:0≤n)(he:1≤e):0≤cd n e∧cd n e≤n+1:=by
 unfold cd
 refine⟨Int.ediv_nonneg (by omega) (by omega),?_⟩
 have:(n+e - 1) / e<n+2:=by
  rw[Int.ediv_lt_iff_lt_mul (by omega),Int.add_mul]
  have:=Int.mul_le_mul_of_nonneg_left he hn
  omega
 omega

theorem pointerBlocks_any (P:Nat→Int)(data:Int)(w:World)(h:isSize (P 0))(hd:0≤data∧data≤1048576) :
  Calls Tryz.prog 96 #[Pv P,.int .i64 data] w fun r w'=>r=.returned (.int .i64 (ptr P data))∧Below w.heap.size w w':=by
 obtain⟨p,hp⟩:∃ p,P 0 / 2=p:=⟨_,rfl⟩
 have hb:=size_bd h
 have hb2:32≤p∧p≤2048:=by omega
 have H1:=hide (fun u=>per_below P u p hb hp)
 have HK:=hide (Kp.start w P)
 unfold ptr
 rw[hp]
 clear hp h hb
 by_cases h1:data≤8
 ·rw[if_pos h1]
  go_enter Tryz.func96,Tryz.ntmps96
  go_wp2
  go_ret
  exact⟨rfl,(unhide HK).2⟩
 ·rw[if_neg h1]
  by_cases h2:data - 8≤p
  ·rw[if_pos h2]
   go_enter Tryz.func96,Tryz.ntmps96
   go_wp2_with fail
   go_at_call 131
   refine(unhide H1 _).mono ?_
   rintro r w1 ⟨rfl,hx⟩
   replace HK:=hide ((unhide HK).call hx)
   clear hx H1
   go_wp2
   go_ret
   exact⟨rfl,(unhide HK).2⟩
  ·rw[if_neg h2]
   have h3:=cd_top (data - 8 - p) p (by omega) (by omega)
   obtain⟨c,hc⟩:∃ c,cd (data - 8 - p) p=c:=⟨_,rfl⟩
   rw[hc] at h3
   rw[hc]
   have H2:=hide hc
   clear hc
   go_enter Tryz.func96,Tryz.ntmps96
   go_wp2_with fail
   go_at_call 131
   refine(unhide H1 _).mono ?_
   rintro r w1 ⟨rfl,hx⟩
   replace HK:=hide ((unhide HK).call hx)
   clear hx
   obtain⟨f0,f1,f2,f3,f4,f5,f6,f7,f8,f9,f10,f11⟩:=(unhide HK).cells
   go_wp2_with fail
   go_at_call 131
   refine(unhide H1 _).mono ?_
   rintro r w2 ⟨rfl,hx⟩
   replace HK:=hide ((unhide HK).call hx)
   clear hx f0 f1 f2 f3 f4 f5 f6 f7 f8 f9 f10 f11
   obtain⟨f0,f1,f2,f3,f4,f5,f6,f7,f8,f9,f10,f11⟩:=(unhide HK).cells
   go_wp2_with fail
   go_at_call 131
   refine(unhide H1 _).mono ?_
   rintro r w3 ⟨rfl,hx⟩
   replace HK:=hide ((unhide HK).call hx)
   clear hx f0 f1 f2 f3 f4 f5 f6 f7 f8 f9 f10 f11
   go_wp2_with fail
   go_at_call 95
   refine(fewest_cd _ _ c (unhide H2) _ (by omega) (by omega)).mono ?_
   rintro r w4 ⟨rfl,rfl⟩
   go_wp2
   go_ret
   exact⟨rfl,(unhide HK).2⟩

def whE (P:Nat→Int) (n:Int):Int:=if checkE P≠0 then 4 else if n<0∨P 0*mfb P<n then 2 else 0
def whD (P:Nat→Int) (n:Int):Int:=if whE P n=0 then cd n (P 0) else 0
def whP (P:Nat→Int) (n:Int):Int:=if whE P n=0 then ptr P (cd n (P 0)) else 0

theorem whole_form (P:Nat→Int)(n:Int)(w:World)(h:checkE P≠0) :
  Calls Tryz.prog 48 #[Pv P,.int .i64 n] w fun r w'=>r=.returned (.tuple #[.int .i64 0,.int .i64 0,.int .i64 4])∧Below w.heap.size w w':=by
 have HC:=hide (check_any P)
 have h4:checkE P=4:=by have:=checkE_two P;omega
 rw[h4] at HC
 clear h h4
 have HK:=hide (Kp.start w P)
 go_enter Tryz.func48,Tryz.ntmps48
 go_wp2_with fail
 go_at_call 66
 refine(unhide HC _).mono ?_
 rintro r w1 ⟨rfl,hb⟩
 replace HK:=hide ((unhide HK).call hb)
 clear hb HC
 go_wp2
 go_ret3
 exact⟨rfl,(unhide HK).2⟩

theorem whole_low (P:Nat→Int)(n:Int)(w:World)(h:checkE P=0)(hn:n<0) :
  Calls Tryz.prog 48 #[Pv P,.int .i64 n] w fun r w'=>r=.returned (.tuple #[.int .i64 0,.int .i64 0,.int .i64 2])∧Below w.heap.size w w':=by
 have HC:=hide (check_any P)
 rw[h] at HC
 clear h
 have hd:decide (n<0)=true:=decide_eq_true hn
 have HK:=hide (Kp.start w P)
 go_enter Tryz.func48,Tryz.ntmps48
 go_wp2_with fail
 go_at_call 66
 refine(unhide HC _).mono ?_
 rintro r w1 ⟨rfl,hb⟩
 replace HK:=hide ((unhide HK).call hb)
 clear hb HC
 go_wp2
 go_quiet (fail)
 go_wp2
 go_ret3
 exact⟨rfl,below_drewN (unhide HK).2 _⟩

theorem whole_high (P:Nat→Int)(n:Int)(w:World)(h:checkE P=0)(hn:¬ n<0)(hn2:P 0*mfb P<n) :
  Calls Tryz.prog 48 #[Pv P,.int .i64 n] w fun r w'=>r=.returned (.tuple #[.int .i64 0,.int .i64 0,.int .i64 2])∧Below w.heap.size w w':=by
 have HC:=hide (check_any P)
 rw[h] at HC
 have H1:=hide (fun u=>maxFileBlocks_any P u (sound h).size)
 have hm:=msz_bd (sound h).size
 generalize mfb P=m at *
 obtain⟨s,hs⟩:∃ s,P 0*m=s:=⟨_,rfl⟩
 rw[hs] at hm hn2
 have q1:IntKind.i64.wrap (P 0*m)=s:=by rw[hs,IntKind.wrap_i64];omega
 clear h hs
 have hd:decide (n<0)=false:=decide_eq_false hn
 have HK:=hide (Kp.start w P)
 go_enter Tryz.func48,Tryz.ntmps48
 go_wp2_with fail
 go_at_call 66
 refine(unhide HC _).mono ?_
 rintro r w1 ⟨rfl,hb⟩
 replace HK:=hide ((unhide HK).call hb)
 clear hb HC
 obtain⟨f0,f1,f2,f3,f4,f5,f6,f7,f8,f9,f10,f11⟩:=(unhide HK).cells
 go_wp2
 go_region_held3 (fun u=>Hid (Kp w P u)∧u.cell? ⟨w.heap.size,0,none⟩=some (.int .i64 (P 0))∧u.cell? ⟨w.heap.size,1,none⟩=some (.int .i64 (P 1))∧u.cell? ⟨w.heap.size,2,none⟩=some (.int .i64 (P 2))∧u.cell? ⟨w.heap.size,3,none⟩=some (.int .i64 (P 3))∧u.cell? ⟨w.heap.size,4,none⟩=some (.int .i64 (P 4))∧u.cell? ⟨w.heap.size,5,none⟩=some (.int .i64 (P 5))∧u.cell? ⟨w.heap.size,6,none⟩=some (.int .i64 (P 6))∧u.cell? ⟨w.heap.size,7,none⟩=some (.int .i64 (P 7))∧u.cell? ⟨w.heap.size,8,none⟩=some (.int .i64 (P 8))∧u.cell? ⟨w.heap.size,9,none⟩=some (.int .i64 (P 9))∧u.cell? ⟨w.heap.size,10,none⟩=some (.int .i64 (P 10))∧u.cell? ⟨w.heap.size,11,none⟩=some (.int .i64 (P 11)))
  (with_reducible (first | exact(unhide HK).drew.js | exact(unhide J1).js | exact(unhide HK).js))
  ((go_at_call 94;refine(unhide H1 _).mono ?_;rintro e w6 ⟨rfl,hb⟩;have J1:Hid (Kp w P w6):=Kp.call (unhide (‹Hid (Kp w P _)∧_›).1) hb;clear hb))
 all_goals
  have jj:=unhide (‹Hid (Kp w P _)∧_›).1
  go_wp2
  go_ret3
  exact⟨rfl,jj.2⟩

theorem whole_ok (P:Nat→Int)(n:Int)(w:World)(h:checkE P=0)(hn:¬ n<0)(hn2:¬ P 0*mfb P<n) :
  Calls Tryz.prog 48 #[Pv P,.int .i64 n] w fun r w'=>r=.returned (.tuple #[.int .i64 (cd n (P 0)),.int .i64 (ptr P (cd n (P 0))),.int .i64 0])∧Below w.heap.size w w':=by
 have HC:=hide (check_any P)
 rw[h] at HC
 have H1:=hide (fun u=>maxFileBlocks_any P u (sound h).size)
 have hm:=msz_bd (sound h).size
 have hz:=(sound h).bd.1
 generalize mfb P=m at *
 obtain⟨s,hs⟩:∃ s,P 0*m=s:=⟨_,rfl⟩
 rw[hs] at hm hn2
 have q1:IntKind.i64.wrap (P 0*m)=s:=by rw[hs,IntKind.wrap_i64];omega
 have ht:=cd_top n (P 0) (by omega) (by omega)
 obtain⟨c,hc⟩:∃ c,cd n (P 0)=c:=⟨_,rfl⟩
 rw[hc] at ht
 rw[hc]
 have H2:=hide hc
 have H3:=hide (fun u=>pointerBlocks_any P c u (sound h).size (by omega))
 generalize ptr P c=y at *
 clear h hs hc
 have hd:decide (n<0)=false:=decide_eq_false hn
 have HK:=hide (Kp.start w P)
 go_enter Tryz.func48,Tryz.ntmps48
 go_wp2_with fail
 go_at_call 66
 refine(unhide HC _).mono ?_
 rintro r w1 ⟨rfl,hb⟩
 replace HK:=hide ((unhide HK).call hb)
 clear hb HC
 obtain⟨f0,f1,f2,f3,f4,f5,f6,f7,f8,f9,f10,f11⟩:=(unhide HK).cells
 go_wp2
 go_cut [20] (fun c wx=>c=.bool false∧Hid (Kp w P wx))
 case first =>
  go_region_held3 (fun u=>Hid (Kp w P u)∧u.cell? ⟨w.heap.size,0,none⟩=some (.int .i64 (P 0))∧u.cell? ⟨w.heap.size,1,none⟩=some (.int .i64 (P 1))∧u.cell? ⟨w.heap.size,2,none⟩=some (.int .i64 (P 2))∧u.cell? ⟨w.heap.size,3,none⟩=some (.int .i64 (P 3))∧u.cell? ⟨w.heap.size,4,none⟩=some (.int .i64 (P 4))∧u.cell? ⟨w.heap.size,5,none⟩=some (.int .i64 (P 5))∧u.cell? ⟨w.heap.size,6,none⟩=some (.int .i64 (P 6))∧u.cell? ⟨w.heap.size,7,none⟩=some (.int .i64 (P 7))∧u.cell? ⟨w.heap.size,8,none⟩=some (.int .i64 (P 8))∧u.cell? ⟨w.heap.size,9,none⟩=some (.int .i64 (P 9))∧u.cell? ⟨w.heap.size,10,none⟩=some (.int .i64 (P 10))∧u.cell? ⟨w.heap.size,11,none⟩=some (.int .i64 (P 11)))
   (with_reducible (first | exact(unhide HK).drew.js | exact(unhide J1).js | exact(unhide HK).js))
   ((go_at_call 94;refine(unhide H1 _).mono ?_;rintro e w6 ⟨rfl,hb⟩;have J1:Hid (Kp w P w6):=Kp.call (unhide (‹Hid (Kp w P _)∧_›).1) hb;clear hb))
  all_goals
   have jj:=(‹Hid (Kp w P _)∧_›).1
   go_wp2_with fail
   go_meet
   exact⟨by simp;omega,jj⟩
 case rest =>
  obtain⟨rfl,hJ⟩:=hcut
  clear HK f0 f1 f2 f3 f4 f5 f6 f7 f8 f9 f10 f11
  obtain⟨f0,f1,f2,f3,f4,f5,f6,f7,f8,f9,f10,f11⟩:=(unhide hJ).cells
  go_wp2_with fail
  go_at_call 95
  refine(fewest_cd _ _ c (unhide H2) _ (by omega) (by omega)).mono ?_
  rintro r w4 ⟨rfl,rfl⟩
  go_wp2_with fail
  go_at_call 96
  refine(unhide H3 _).mono ?_
  rintro r w5 ⟨rfl,hb⟩
  replace hJ:=hide ((unhide hJ).call hb)
  clear hb f0 f1 f2 f3 f4 f5 f6 f7 f8 f9 f10 f11
  go_wp2
  go_ret3
  exact⟨rfl,(unhide hJ).2⟩

theorem whole_any (P:Nat→Int)(n:Int)(w:World) :
  Calls Tryz.prog 48 #[Pv P,.int .i64 n] w fun r w'=>r=.returned (.tuple #[.int .i64 (whD P n),.int .i64 (whP P n),.int .i64 (whE P n)])∧Below w.heap.size w w':=by
 by_cases h:checkE P=0
 ·by_cases h1:n<0
  ·have e:whE P n=2:=by rw[whE,if_neg (by omega),if_pos (.inl h1)]
   rw[whD,whP,e,if_neg (by omega),if_neg (by omega)]
   exact whole_low P n w h h1
  ·by_cases h2:P 0*mfb P<n
   ·have e:whE P n=2:=by rw[whE,if_neg (by omega),if_pos (.inr h2)]
    rw[whD,whP,e,if_neg (by omega),if_neg (by omega)]
    exact whole_high P n w h h1 h2
   ·have e:whE P n=0:=by rw[whE,if_neg (by omega),if_neg (by omega)]
    rw[whD,whP,e,if_pos rfl,if_pos rfl]
    exact whole_ok P n w h h1 h2
 ·have e:whE P n=4:=by rw[whE,if_pos h]
  rw[whD,whP,e,if_neg (by omega),if_neg (by omega)]
  exact whole_form P n w h

end Go.Proofs.YtokngjcfkkceiaaGreatDoor
