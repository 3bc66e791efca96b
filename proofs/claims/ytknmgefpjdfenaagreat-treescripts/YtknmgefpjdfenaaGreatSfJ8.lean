/- Joined: XPKeep, XPMax, XPWhole, XPRefWhole. -/
import Derived.Test.YtknmgefpjdfenaaGreatSfJ5
import Derived.Deep.RegionHeld3
import Derived.Test.YtknmgefpjdfenaaGreatSfJ6
/- A plan that came in, kept in its block. -/
namespace Go.Proofs.YtknmgefpjdfenaaGreat
set_option maxRecDepth 100000
set_option maxHeartbeats 8000000
open Go.RowKit Go.Shelf
set_option linter.unusedVariables false

def KpN (w:World) (P:Nat→Int) (u:World):Prop:=R12 u w.heap.size P∧Below w.heap.size w u

theorem KpN.start (w:World) (P:Nat→Int):KpN w P (w.alloc (.cells (Pc P) 23)):=⟨R12.new w P,(Below.refl _ _).alloc (Nat.le_refl _) _⟩

theorem KpN.call {w u u':World} {P:Nat→Int} (h:KpN w P u) (hb:Below u.heap.size u u'):KpN w P u':=⟨h.1.below hb h.1.lt,h.2.trans (hb.mono h.2.size)⟩

theorem KpN.drew {w u:World} {P:Nat→Int} (h:KpN w P u):KpN w P u.drew:=⟨h.1,h.2.drew⟩

theorem KpN.cells {w u:World} {P:Nat→Int} (h:KpN w P u):u.cell? ⟨w.heap.size,0,none⟩=some (.int .i64 (P 0))∧u.cell? ⟨w.heap.size,1,none⟩=some (.int .i64 (P 1))∧u.cell? ⟨w.heap.size,2,none⟩=some (.int .i64 (P 2))∧u.cell? ⟨w.heap.size,3,none⟩=some (.int .i64 (P 3))∧u.cell? ⟨w.heap.size,4,none⟩=some (.int .i64 (P 4))∧u.cell? ⟨w.heap.size,5,none⟩=some (.int .i64 (P 5))∧u.cell? ⟨w.heap.size,6,none⟩=some (.int .i64 (P 6))∧u.cell? ⟨w.heap.size,7,none⟩=some (.int .i64 (P 7))∧u.cell? ⟨w.heap.size,8,none⟩=some (.int .i64 (P 8))∧u.cell? ⟨w.heap.size,9,none⟩=some (.int .i64 (P 9))∧u.cell? ⟨w.heap.size,10,none⟩=some (.int .i64 (P 10))∧u.cell? ⟨w.heap.size,11,none⟩=some (.int .i64 (P 11)) :=
 ⟨h.1.cell 0 (by omega),h.1.cell 1 (by omega),h.1.cell 2 (by omega),h.1.cell 3 (by omega),h.1.cell 4 (by omega),h.1.cell 5 (by omega),h.1.cell 6 (by omega),h.1.cell 7 (by omega),h.1.cell 8 (by omega),h.1.cell 9 (by omega),h.1.cell 10 (by omega),h.1.cell 11 (by omega)⟩

theorem KpN.js {w u:World} {P:Nat→Int} (h:KpN w P u):Hid (KpN w P u)∧u.cell? ⟨w.heap.size,0,none⟩=some (.int .i64 (P 0))∧u.cell? ⟨w.heap.size,1,none⟩=some (.int .i64 (P 1))∧u.cell? ⟨w.heap.size,2,none⟩=some (.int .i64 (P 2))∧u.cell? ⟨w.heap.size,3,none⟩=some (.int .i64 (P 3))∧u.cell? ⟨w.heap.size,4,none⟩=some (.int .i64 (P 4))∧u.cell? ⟨w.heap.size,5,none⟩=some (.int .i64 (P 5))∧u.cell? ⟨w.heap.size,6,none⟩=some (.int .i64 (P 6))∧u.cell? ⟨w.heap.size,7,none⟩=some (.int .i64 (P 7))∧u.cell? ⟨w.heap.size,8,none⟩=some (.int .i64 (P 8))∧u.cell? ⟨w.heap.size,9,none⟩=some (.int .i64 (P 9))∧u.cell? ⟨w.heap.size,10,none⟩=some (.int .i64 (P 10))∧u.cell? ⟨w.heap.size,11,none⟩=some (.int .i64 (P 11)):=⟨h,h.cells⟩

end Go.Proofs.YtknmgefpjdfenaaGreat

/- The greatest file of a plan. -/
namespace Go.Proofs.YtknmgefpjdfenaaGreat
set_option maxRecDepth 100000
set_option maxHeartbeats 8000000
open Go.RowKit Go.Shelf
set_option linter.unusedVariables false

theorem per_below (P:Nat→Int) (w:World) (p:Int) (h:64 ≤ P 0∧P 0 ≤ 4096) (hp:P 0 / 2=p) :
  Calls Tryz.prog 170 #[PvN P] w fun e w'=>e=.returned (.int .i64 p)∧Below w.heap.size w w':=by
 subst hp
 refine (per_any P w h).mono ?_
 rintro e w' ⟨rfl,rfl⟩
 exact ⟨rfl,(Below.refl _ _).alloc (Nat.le_refl _) _⟩

theorem ret_one {a b:Int} (h:a=b):Ending.returned (.int .i64 a)=.returned (.int .i64 b):=by rw [h]

def mfb (P:Nat→Int):Int:=min (524288 / P 0) (8 + P 0 / 2 + P 0 / 2 * (P 0 / 2))

theorem mfb_cases {P:Nat→Int} (h:isSize (P 0)):(P 0=64∧mfb P=1064) ∨ (P 0=128∧mfb P=4096) ∨ (P 0=256∧mfb P=2048) ∨ (P 0=512∧mfb P=1024) ∨ (P 0=1024∧mfb P=512) ∨ (P 0=2048∧mfb P=256) ∨ (P 0=4096∧mfb P=128):=by
 unfold isSize at h
 unfold mfb
 rcases h with h | h | h | h | h | h | h <;> rw [h] <;> simp <;> decide

theorem maxFileBlocks_any (P:Nat→Int) (w:World) (h:isSize (P 0)) :
  Calls Tryz.prog 142 #[PvN P] w fun r w'=>r=.returned (.int .i64 (mfb P))∧Below w.heap.size w w':=by
 obtain ⟨p,hp⟩:∃ p,P 0 / 2=p:=⟨_,rfl⟩
 have hb:=size_bd h
 have hb2:32 ≤ p∧p ≤ 2048:=by omega
 have H1:=hide (fun u=>per_below P u p hb hp)
 obtain ⟨s,hs⟩:∃ s,p * p=s:=⟨_,rfl⟩
 have hs2:0 ≤ s∧s ≤ 4194304:=by
  have a:p * p ≤ 2048 * p:=Int.mul_le_mul_of_nonneg_right (by omega) (by omega)
  have b:0 ≤ p * p:=Int.mul_nonneg (by omega) (by omega)
  omega
 have q1:IntKind.i64.wrap (p * p)=s:=by rw [hs,IntKind.wrap_i64]; omega
 have HM:Hid (mfb P=min (524288 / P 0) (8 + p + s)):=by rw [mfb,hp,hs]; exact hide rfl
 clear hp hs h
 have HK:=hide (KpN.start w P)
 go_enter Tryz.func142,Tryz.ntmps142
 go_wp2_with fail
 go_at_call 170
 refine (unhide H1 _).mono ?_
 rintro r w1 ⟨rfl,hx⟩
 replace HK:=hide ((unhide HK).call hx)
 clear hx H1
 have f0:=(unhide HK).1.cell 0 (by omega)
 go_wp2
 all_goals
  go_ret
  exact ⟨ret_one (by rw [unhide HM]; omega),(unhide HK).2⟩

theorem msz_bd {P:Nat→Int} (h:isSize (P 0)):0 ≤ P 0 * mfb P∧P 0 * mfb P ≤ 524288:=by
 rcases mfb_cases h with ⟨a,b⟩ | ⟨a,b⟩ | ⟨a,b⟩ | ⟨a,b⟩ | ⟨a,b⟩ | ⟨a,b⟩ | ⟨a,b⟩ <;> rw [a,b] <;> omega

theorem maxSize_form (P:Nat→Int) (w:World) (h:checkE P ≠ 0) :
  Calls Tryz.prog 121 #[PvN P] w fun r w'=>r=.returned (.tuple #[.int .i64 0,.int .i64 4])∧Below w.heap.size w w':=by
 have HC:=hide (check_any P)
 have h4:checkE P=4:=by have:=checkE_two P; omega
 rw [h4] at HC
 clear h h4
 have HK:=hide (KpN.start w P)
 go_enter Tryz.func121,Tryz.ntmps121
 go_wp2_with fail
 go_at_call 100
 refine (unhide HC _).mono ?_
 rintro r w1 ⟨rfl,hb⟩
 replace HK:=hide ((unhide HK).call hb)
 clear hb HC
 go_wp2
 go_ret2
 exact ⟨rfl,(unhide HK).2⟩

theorem maxSize_ok (P:Nat→Int) (w:World) (h:checkE P=0) :
  Calls Tryz.prog 121 #[PvN P] w fun r w'=>r=.returned (.tuple #[.int .i64 (P 0 * mfb P),.int .i64 0])∧Below w.heap.size w w':=by
 have HC:=hide (check_any P)
 rw [h] at HC
 have H1:=hide (fun u=>maxFileBlocks_any P u (sound h).size)
 have hm:=msz_bd (sound h).size
 generalize mfb P=m at *
 obtain ⟨s,hs⟩:∃ s,P 0 * m=s:=⟨_,rfl⟩
 rw [hs] at hm
 have q1:IntKind.i64.wrap (P 0 * m)=s:=by rw [hs,IntKind.wrap_i64]; omega
 have HS:=hide hs
 rw [hs]
 clear h hs
 have HK:=hide (KpN.start w P)
 go_enter Tryz.func121,Tryz.ntmps121
 go_wp2_with fail
 go_at_call 100
 refine (unhide HC _).mono ?_
 rintro r w1 ⟨rfl,hb⟩
 replace HK:=hide ((unhide HK).call hb)
 clear hb HC
 obtain ⟨f0,f1,f2,f3,f4,f5,f6,f7,f8,f9,f10,f11⟩:=(unhide HK).cells
 go_wp2
 go_region_held3 (fun u=>Hid (KpN w P u)∧u.cell? ⟨w.heap.size,0,none⟩=some (.int .i64 (P 0))∧u.cell? ⟨w.heap.size,1,none⟩=some (.int .i64 (P 1))∧u.cell? ⟨w.heap.size,2,none⟩=some (.int .i64 (P 2))∧u.cell? ⟨w.heap.size,3,none⟩=some (.int .i64 (P 3))∧u.cell? ⟨w.heap.size,4,none⟩=some (.int .i64 (P 4))∧u.cell? ⟨w.heap.size,5,none⟩=some (.int .i64 (P 5))∧u.cell? ⟨w.heap.size,6,none⟩=some (.int .i64 (P 6))∧u.cell? ⟨w.heap.size,7,none⟩=some (.int .i64 (P 7))∧u.cell? ⟨w.heap.size,8,none⟩=some (.int .i64 (P 8))∧u.cell? ⟨w.heap.size,9,none⟩=some (.int .i64 (P 9))∧u.cell? ⟨w.heap.size,10,none⟩=some (.int .i64 (P 10))∧u.cell? ⟨w.heap.size,11,none⟩=some (.int .i64 (P 11)))
  (with_reducible (first | exact (unhide HK).drew.js | exact (unhide J1).js | exact (unhide HK).js))
  ((go_at_call 142; refine (unhide H1 _).mono ?_; rintro e w6 ⟨rfl,hb⟩; have J1:Hid (KpN w P w6):=KpN.call (unhide (‹Hid (KpN w P _)∧_›).1) hb; clear hb))
 all_goals
  have jj:=unhide (‹Hid (KpN w P _)∧_›).1
  go_wp2
  go_ret2
  exact ⟨rfl,jj.2⟩

theorem refMaxSize_form (P:Nat→Int) (w:World) (h:checkE P ≠ 0) :
  Calls Tryz.prog 126 #[PvN P] w fun r w'=>r=.returned (.tuple #[.int .i64 0,.int .i64 4])∧Below w.heap.size w w':=by
 have HC:=hide (refCheck_any P)
 have h4:checkE P=4:=by have:=checkE_two P; omega
 rw [h4] at HC
 clear h h4
 have HK:=hide (KpN.start w P)
 go_enter Tryz.func126,Tryz.ntmps126
 go_wp2_with fail
 go_at_call 108
 refine (unhide HC _).mono ?_
 rintro r w1 ⟨rfl,hb⟩
 replace HK:=hide ((unhide HK).call hb)
 clear hb HC
 go_wp2
 go_ret2
 exact ⟨rfl,(unhide HK).2⟩

theorem ref_max {P:Nat→Int} (h:isSize (P 0)):(0 ≤ P 0 / 2 * (P 0 / 2)∧P 0 / 2 * (P 0 / 2) ≤ 4194304)∧(0 ≤ P 0 * (8 + P 0 / 2 + P 0 / 2 * (P 0 / 2))∧P 0 * (8 + P 0 / 2 + P 0 / 2 * (P 0 / 2)) ≤ 17188290560)∧P 0 * mfb P=min (P 0 * (8 + P 0 / 2 + P 0 / 2 * (P 0 / 2))) 524288:=by
 rcases mfb_cases h with ⟨a,b⟩ | ⟨a,b⟩ | ⟨a,b⟩ | ⟨a,b⟩ | ⟨a,b⟩ | ⟨a,b⟩ | ⟨a,b⟩ <;> rw [a,b] <;> decide

theorem refMaxSize_ok (P:Nat→Int) (w:World) (h:checkE P=0) :
  Calls Tryz.prog 126 #[PvN P] w fun r w'=>r=.returned (.tuple #[.int .i64 (P 0 * mfb P),.int .i64 0])∧Below w.heap.size w w':=by
 have HC:=hide (refCheck_any P)
 rw [h] at HC
 have hb:=size_bd (sound h).size
 obtain ⟨k1,k2,k3⟩:=ref_max (sound h).size
 rw [k3]
 obtain ⟨p,hp⟩:∃ p,P 0 / 2=p:=⟨_,rfl⟩
 rw [hp] at k1 k2
 rw [hp]
 have hb2:32 ≤ p∧p ≤ 2048:=by omega
 obtain ⟨s,hs⟩:∃ s,p * p=s:=⟨_,rfl⟩
 rw [hs] at k1 k2
 rw [hs]
 have q1:IntKind.i64.wrap (p * p)=s:=by rw [hs,IntKind.wrap_i64]; omega
 obtain ⟨t,ht⟩:∃ t,P 0 * (8 + p + s)=t:=⟨_,rfl⟩
 rw [ht] at k2
 rw [ht]
 have q2:IntKind.i64.wrap (P 0 * (8 + p + s))=t:=by rw [ht,IntKind.wrap_i64]; omega
 have HP:=hide hp
 clear h k3 hs ht
 have q3:P 0 / 2=p:=hp
 have HK:=hide (KpN.start w P)
 go_enter Tryz.func126,Tryz.ntmps126
 go_wp2_with fail
 go_at_call 108
 refine (unhide HC _).mono ?_
 rintro r w1 ⟨rfl,hx⟩
 replace HK:=hide ((unhide HK).call hx)
 clear hx HC
 have f0:=(unhide HK).1.cell 0 (by omega)
 by_cases hg:524288 < t
 ·go_wp2
  go_ret2
  exact ⟨ret_two (by omega) rfl,(unhide HK).2⟩
 ·go_wp2
  go_ret2
  exact ⟨ret_two (by omega) rfl,(unhide HK).2⟩

end Go.Proofs.YtknmgefpjdfenaaGreat

/- The blocks that a file asks for. -/
namespace Go.Proofs.YtknmgefpjdfenaaGreat
set_option maxRecDepth 100000
set_option maxHeartbeats 8000000
open Go.RowKit Go.Shelf
set_option linter.unusedVariables false

def ptr (P:Nat→Int) (data:Int):Int:=if data ≤ 8 then 0 else if data - 8 ≤ P 0 / 2 then 1 else 2 + cd (data - 8 - P 0 / 2) (P 0 / 2)

theorem cd_top (n e:Int) (hn:0 ≤ n) (he:1 ≤ e):0 ≤ cd n e∧cd n e ≤ n + 1:=by
 unfold cd
 refine ⟨Int.ediv_nonneg (by omega) (by omega),?_⟩
 have:(n + e - 1) / e < n + 2:=by
  rw [Int.ediv_lt_iff_lt_mul (by omega),Int.add_mul]
  have:=Int.mul_le_mul_of_nonneg_left he hn
  omega
 omega

theorem pointerBlocks_any (P:Nat→Int) (data:Int) (w:World) (h:isSize (P 0)) (hd:0 ≤ data∧data ≤ 1048576) :
  Calls Tryz.prog 144 #[PvN P,.int .i64 data] w fun r w'=>r=.returned (.int .i64 (ptr P data))∧Below w.heap.size w w':=by
 obtain ⟨p,hp⟩:∃ p,P 0 / 2=p:=⟨_,rfl⟩
 have hb:=size_bd h
 have hb2:32 ≤ p∧p ≤ 2048:=by omega
 have H1:=hide (fun u=>per_below P u p hb hp)
 have HK:=hide (KpN.start w P)
 unfold ptr
 rw [hp]
 clear hp h hb
 by_cases h1:data ≤ 8
 ·rw [if_pos h1]
  go_enter Tryz.func144,Tryz.ntmps144
  go_wp2
  go_ret
  exact ⟨rfl,(unhide HK).2⟩
 ·rw [if_neg h1]
  by_cases h2:data - 8 ≤ p
  ·rw [if_pos h2]
   go_enter Tryz.func144,Tryz.ntmps144
   go_wp2_with fail
   go_at_call 170
   refine (unhide H1 _).mono ?_
   rintro r w1 ⟨rfl,hx⟩
   replace HK:=hide ((unhide HK).call hx)
   clear hx H1
   go_wp2
   go_ret
   exact ⟨rfl,(unhide HK).2⟩
  ·rw [if_neg h2]
   have h3:=cd_top (data - 8 - p) p (by omega) (by omega)
   obtain ⟨c,hc⟩:∃ c,cd (data - 8 - p) p=c:=⟨_,rfl⟩
   rw [hc] at h3
   rw [hc]
   have H2:=hide hc
   clear hc
   go_enter Tryz.func144,Tryz.ntmps144
   go_wp2_with fail
   go_at_call 170
   refine (unhide H1 _).mono ?_
   rintro r w1 ⟨rfl,hx⟩
   replace HK:=hide ((unhide HK).call hx)
   clear hx
   obtain ⟨f0,f1,f2,f3,f4,f5,f6,f7,f8,f9,f10,f11⟩:=(unhide HK).cells
   go_wp2_with fail
   go_at_call 170
   refine (unhide H1 _).mono ?_
   rintro r w2 ⟨rfl,hx⟩
   replace HK:=hide ((unhide HK).call hx)
   clear hx f0 f1 f2 f3 f4 f5 f6 f7 f8 f9 f10 f11
   obtain ⟨f0,f1,f2,f3,f4,f5,f6,f7,f8,f9,f10,f11⟩:=(unhide HK).cells
   go_wp2_with fail
   go_at_call 170
   refine (unhide H1 _).mono ?_
   rintro r w3 ⟨rfl,hx⟩
   replace HK:=hide ((unhide HK).call hx)
   clear hx f0 f1 f2 f3 f4 f5 f6 f7 f8 f9 f10 f11
   go_wp2_with fail
   go_at_call 143
   refine (fewest_cd _ _ c (unhide H2) _ (by omega) (by omega)).mono ?_
   rintro r w4 ⟨rfl,rfl⟩
   go_wp2
   go_ret
   exact ⟨rfl,(unhide HK).2⟩

def whE (P:Nat→Int) (n:Int):Int:=if checkE P ≠ 0 then 4 else if n < 0 ∨ P 0 * mfb P < n then 2 else 0
def whD (P:Nat→Int) (n:Int):Int:=if whE P n=0 then cd n (P 0) else 0
def whP (P:Nat→Int) (n:Int):Int:=if whE P n=0 then ptr P (cd n (P 0)) else 0

theorem whole_form (P:Nat→Int) (n:Int) (w:World) (h:checkE P ≠ 0) :
  Calls Tryz.prog 119 #[PvN P,.int .i64 n] w fun r w'=>r=.returned (.tuple #[.int .i64 0,.int .i64 0,.int .i64 4])∧Below w.heap.size w w':=by
 have HC:=hide (check_any P)
 have h4:checkE P=4:=by have:=checkE_two P; omega
 rw [h4] at HC
 clear h h4
 have HK:=hide (KpN.start w P)
 go_enter Tryz.func119,Tryz.ntmps119
 go_wp2_with fail
 go_at_call 100
 refine (unhide HC _).mono ?_
 rintro r w1 ⟨rfl,hb⟩
 replace HK:=hide ((unhide HK).call hb)
 clear hb HC
 go_wp2
 go_ret3
 exact ⟨rfl,(unhide HK).2⟩

theorem whole_low (P:Nat→Int) (n:Int) (w:World) (h:checkE P=0) (hn:n < 0) :
  Calls Tryz.prog 119 #[PvN P,.int .i64 n] w fun r w'=>r=.returned (.tuple #[.int .i64 0,.int .i64 0,.int .i64 2])∧Below w.heap.size w w':=by
 have HC:=hide (check_any P)
 rw [h] at HC
 clear h
 have hd:decide (n < 0)=true:=decide_eq_true hn
 have HK:=hide (KpN.start w P)
 go_enter Tryz.func119,Tryz.ntmps119
 go_wp2_with fail
 go_at_call 100
 refine (unhide HC _).mono ?_
 rintro r w1 ⟨rfl,hb⟩
 replace HK:=hide ((unhide HK).call hb)
 clear hb HC
 go_wp2
 go_quiet (fail)
 go_wp2
 go_ret3
 exact ⟨rfl,below_drewN (unhide HK).2 _⟩

theorem whole_high (P:Nat→Int) (n:Int) (w:World) (h:checkE P=0) (hn:¬ n < 0) (hn2:P 0 * mfb P < n) :
  Calls Tryz.prog 119 #[PvN P,.int .i64 n] w fun r w'=>r=.returned (.tuple #[.int .i64 0,.int .i64 0,.int .i64 2])∧Below w.heap.size w w':=by
 have HC:=hide (check_any P)
 rw [h] at HC
 have H1:=hide (fun u=>maxFileBlocks_any P u (sound h).size)
 have hm:=msz_bd (sound h).size
 generalize mfb P=m at *
 obtain ⟨s,hs⟩:∃ s,P 0 * m=s:=⟨_,rfl⟩
 rw [hs] at hm hn2
 have q1:IntKind.i64.wrap (P 0 * m)=s:=by rw [hs,IntKind.wrap_i64]; omega
 clear h hs
 have hd:decide (n < 0)=false:=decide_eq_false hn
 have HK:=hide (KpN.start w P)
 go_enter Tryz.func119,Tryz.ntmps119
 go_wp2_with fail
 go_at_call 100
 refine (unhide HC _).mono ?_
 rintro r w1 ⟨rfl,hb⟩
 replace HK:=hide ((unhide HK).call hb)
 clear hb HC
 obtain ⟨f0,f1,f2,f3,f4,f5,f6,f7,f8,f9,f10,f11⟩:=(unhide HK).cells
 go_wp2
 go_region_held3 (fun u=>Hid (KpN w P u)∧u.cell? ⟨w.heap.size,0,none⟩=some (.int .i64 (P 0))∧u.cell? ⟨w.heap.size,1,none⟩=some (.int .i64 (P 1))∧u.cell? ⟨w.heap.size,2,none⟩=some (.int .i64 (P 2))∧u.cell? ⟨w.heap.size,3,none⟩=some (.int .i64 (P 3))∧u.cell? ⟨w.heap.size,4,none⟩=some (.int .i64 (P 4))∧u.cell? ⟨w.heap.size,5,none⟩=some (.int .i64 (P 5))∧u.cell? ⟨w.heap.size,6,none⟩=some (.int .i64 (P 6))∧u.cell? ⟨w.heap.size,7,none⟩=some (.int .i64 (P 7))∧u.cell? ⟨w.heap.size,8,none⟩=some (.int .i64 (P 8))∧u.cell? ⟨w.heap.size,9,none⟩=some (.int .i64 (P 9))∧u.cell? ⟨w.heap.size,10,none⟩=some (.int .i64 (P 10))∧u.cell? ⟨w.heap.size,11,none⟩=some (.int .i64 (P 11)))
  (with_reducible (first | exact (unhide HK).drew.js | exact (unhide J1).js | exact (unhide HK).js))
  ((go_at_call 142; refine (unhide H1 _).mono ?_; rintro e w6 ⟨rfl,hb⟩; have J1:Hid (KpN w P w6):=KpN.call (unhide (‹Hid (KpN w P _)∧_›).1) hb; clear hb))
 all_goals
  have jj:=unhide (‹Hid (KpN w P _)∧_›).1
  go_wp2
  go_ret3
  exact ⟨rfl,jj.2⟩

theorem whole_ok (P:Nat→Int) (n:Int) (w:World) (h:checkE P=0) (hn:¬ n < 0) (hn2:¬ P 0 * mfb P < n) :
  Calls Tryz.prog 119 #[PvN P,.int .i64 n] w fun r w'=>r=.returned (.tuple #[.int .i64 (cd n (P 0)),.int .i64 (ptr P (cd n (P 0))),.int .i64 0])∧Below w.heap.size w w':=by
 have HC:=hide (check_any P)
 rw [h] at HC
 have H1:=hide (fun u=>maxFileBlocks_any P u (sound h).size)
 have hm:=msz_bd (sound h).size
 have hz:=(sound h).bd.1
 generalize mfb P=m at *
 obtain ⟨s,hs⟩:∃ s,P 0 * m=s:=⟨_,rfl⟩
 rw [hs] at hm hn2
 have q1:IntKind.i64.wrap (P 0 * m)=s:=by rw [hs,IntKind.wrap_i64]; omega
 have ht:=cd_top n (P 0) (by omega) (by omega)
 obtain ⟨c,hc⟩:∃ c,cd n (P 0)=c:=⟨_,rfl⟩
 rw [hc] at ht
 rw [hc]
 have H2:=hide hc
 have H3:=hide (fun u=>pointerBlocks_any P c u (sound h).size (by omega))
 generalize ptr P c=y at *
 clear h hs hc
 have hd:decide (n < 0)=false:=decide_eq_false hn
 have HK:=hide (KpN.start w P)
 go_enter Tryz.func119,Tryz.ntmps119
 go_wp2_with fail
 go_at_call 100
 refine (unhide HC _).mono ?_
 rintro r w1 ⟨rfl,hb⟩
 replace HK:=hide ((unhide HK).call hb)
 clear hb HC
 obtain ⟨f0,f1,f2,f3,f4,f5,f6,f7,f8,f9,f10,f11⟩:=(unhide HK).cells
 go_wp2
 go_cut [20] (fun c wx=>c=.bool false∧Hid (KpN w P wx))
 case first =>
  go_region_held3 (fun u=>Hid (KpN w P u)∧u.cell? ⟨w.heap.size,0,none⟩=some (.int .i64 (P 0))∧u.cell? ⟨w.heap.size,1,none⟩=some (.int .i64 (P 1))∧u.cell? ⟨w.heap.size,2,none⟩=some (.int .i64 (P 2))∧u.cell? ⟨w.heap.size,3,none⟩=some (.int .i64 (P 3))∧u.cell? ⟨w.heap.size,4,none⟩=some (.int .i64 (P 4))∧u.cell? ⟨w.heap.size,5,none⟩=some (.int .i64 (P 5))∧u.cell? ⟨w.heap.size,6,none⟩=some (.int .i64 (P 6))∧u.cell? ⟨w.heap.size,7,none⟩=some (.int .i64 (P 7))∧u.cell? ⟨w.heap.size,8,none⟩=some (.int .i64 (P 8))∧u.cell? ⟨w.heap.size,9,none⟩=some (.int .i64 (P 9))∧u.cell? ⟨w.heap.size,10,none⟩=some (.int .i64 (P 10))∧u.cell? ⟨w.heap.size,11,none⟩=some (.int .i64 (P 11)))
   (with_reducible (first | exact (unhide HK).drew.js | exact (unhide J1).js | exact (unhide HK).js))
   ((go_at_call 142; refine (unhide H1 _).mono ?_; rintro e w6 ⟨rfl,hb⟩; have J1:Hid (KpN w P w6):=KpN.call (unhide (‹Hid (KpN w P _)∧_›).1) hb; clear hb))
  all_goals
   have jj:=(‹Hid (KpN w P _)∧_›).1
   go_wp2_with fail
   go_meet
   exact ⟨by simp; omega,jj⟩
 case rest =>
  obtain ⟨rfl,hJ⟩:=hcut
  clear HK f0 f1 f2 f3 f4 f5 f6 f7 f8 f9 f10 f11
  obtain ⟨f0,f1,f2,f3,f4,f5,f6,f7,f8,f9,f10,f11⟩:=(unhide hJ).cells
  go_wp2_with fail
  go_at_call 143
  refine (fewest_cd _ _ c (unhide H2) _ (by omega) (by omega)).mono ?_
  rintro r w4 ⟨rfl,rfl⟩
  go_wp2_with fail
  go_at_call 144
  refine (unhide H3 _).mono ?_
  rintro r w5 ⟨rfl,hb⟩
  replace hJ:=hide ((unhide hJ).call hb)
  clear hb f0 f1 f2 f3 f4 f5 f6 f7 f8 f9 f10 f11
  go_wp2
  go_ret3
  exact ⟨rfl,(unhide hJ).2⟩

theorem whole_any (P:Nat→Int) (n:Int) (w:World) :
  Calls Tryz.prog 119 #[PvN P,.int .i64 n] w fun r w'=>r=.returned (.tuple #[.int .i64 (whD P n),.int .i64 (whP P n),.int .i64 (whE P n)])∧Below w.heap.size w w':=by
 by_cases h:checkE P=0
 ·by_cases h1:n < 0
  ·have e:whE P n=2:=by rw [whE,if_neg (by omega),if_pos (.inl h1)]
   rw [whD,whP,e,if_neg (by omega),if_neg (by omega)]
   exact whole_low P n w h h1
  ·by_cases h2:P 0 * mfb P < n
   ·have e:whE P n=2:=by rw [whE,if_neg (by omega),if_pos (.inr h2)]
    rw [whD,whP,e,if_neg (by omega),if_neg (by omega)]
    exact whole_high P n w h h1 h2
   ·have e:whE P n=0:=by rw [whE,if_neg (by omega),if_neg (by omega)]
    rw [whD,whP,e,if_pos rfl,if_pos rfl]
    exact whole_ok P n w h h1 h2
 ·have e:whE P n=4:=by rw [whE,if_pos h]
  rw [whD,whP,e,if_neg (by omega),if_neg (by omega)]
  exact whole_form P n w h

end Go.Proofs.YtknmgefpjdfenaaGreat

/- The contract of the reference's Whole. -/
namespace Go.Proofs.YtknmgefpjdfenaaGreat
set_option maxRecDepth 100000
set_option maxHeartbeats 8000000
open Go.RowKit Go.Shelf
set_option linter.unusedVariables false

theorem refWhole_form (P:Nat→Int) (n:Int) (w:World) (h:checkE P ≠ 0) :
  Calls Tryz.prog 124 #[PvN P,.int .i64 n] w fun r w'=>r=.returned (.tuple #[.int .i64 0,.int .i64 0,.int .i64 4])∧Below w.heap.size w w':=by
 have HC:=hide (fun u=>refMaxSize_form P u h)
 clear h
 have HK:=hide (KpN.start w P)
 go_enter Tryz.func124,Tryz.ntmps124
 go_wp2_with fail
 go_at_call 126
 refine (unhide HC _).mono ?_
 rintro r w1 ⟨rfl,hb⟩
 replace HK:=hide ((unhide HK).call hb)
 clear hb HC
 go_wp2
 go_ret3
 exact ⟨rfl,(unhide HK).2⟩

theorem refWhole_range (P:Nat→Int) (n:Int) (w:World) (h:checkE P=0) (hn:n < 0 ∨ P 0 * mfb P < n) :
  Calls Tryz.prog 124 #[PvN P,.int .i64 n] w fun r w'=>r=.returned (.tuple #[.int .i64 0,.int .i64 0,.int .i64 2])∧Below w.heap.size w w':=by
 have HC:=hide (fun u=>refMaxSize_ok P u h)
 generalize P 0 * mfb P=s at *
 have HN:=hide hn
 clear h hn
 have HK:=hide (KpN.start w P)
 go_enter Tryz.func124,Tryz.ntmps124
 go_wp2_with fail
 go_at_call 126
 refine (unhide HC _).mono ?_
 rintro r w1 ⟨rfl,hb⟩
 replace HK:=hide ((unhide HK).call hb)
 clear hb HC
 by_cases h1:n < 0
 ·go_wp2
  go_ret3
  exact ⟨rfl,(unhide HK).2⟩
 ·have h2:s < n:=by have:=unhide HN; omega
  go_wp2
  go_ret3
  exact ⟨rfl,(unhide HK).2⟩

theorem refWhole_ok (P:Nat→Int) (n:Int) (w:World) (h:checkE P=0) (hn:¬ n < 0) (hn2:¬ P 0 * mfb P < n) :
  Calls Tryz.prog 124 #[PvN P,.int .i64 n] w fun r w'=>r=.returned (.tuple #[.int .i64 (cd n (P 0)),.int .i64 (ptr P (cd n (P 0))),.int .i64 0])∧Below w.heap.size w w':=by
 have HC:=hide (fun u=>refMaxSize_ok P u h)
 have hm:=msz_bd (sound h).size
 have hz:=(sound h).bd.1
 generalize P 0 * mfb P=s at *
 have ht:=cd_top n (P 0) (by omega) (by omega)
 obtain ⟨c,hc⟩:∃ c,cd n (P 0)=c:=⟨_,rfl⟩
 rw [hc] at ht
 rw [hc]
 have H2:=hide hc
 obtain ⟨p,hp⟩:∃ p,P 0 / 2=p:=⟨_,rfl⟩
 have hb2:32 ≤ p∧p ≤ 2048:=by omega
 unfold ptr
 rw [hp]
 clear h hc
 have HK:=hide (KpN.start w P)
 by_cases h1:c ≤ 8
 ·rw [if_pos h1]
  go_enter Tryz.func124,Tryz.ntmps124
  go_wp2_with fail
  go_at_call 126
  refine (unhide HC _).mono ?_
  rintro r w1 ⟨rfl,hb⟩
  replace HK:=hide ((unhide HK).call hb)
  clear hb HC
  have f0:=(unhide HK).1.cell 0 (by omega)
  go_wp2_with fail
  go_at_call 148
  refine (blocksFor_cd _ _ c (unhide H2) _ (by omega) (by omega)).mono ?_
  rintro r w4 ⟨rfl,rfl⟩
  go_wp2
  go_ret3
  exact ⟨rfl,(unhide HK).2⟩
 ·rw [if_neg h1]
  by_cases h2:c - 8 ≤ p
  ·rw [if_pos h2]
   go_enter Tryz.func124,Tryz.ntmps124
   go_wp2_with fail
   go_at_call 126
   refine (unhide HC _).mono ?_
   rintro r w1 ⟨rfl,hb⟩
   replace HK:=hide ((unhide HK).call hb)
   clear hb HC
   have f0:=(unhide HK).1.cell 0 (by omega)
   go_wp2_with fail
   go_at_call 148
   refine (blocksFor_cd _ _ c (unhide H2) _ (by omega) (by omega)).mono ?_
   rintro r w4 ⟨rfl,rfl⟩
   go_wp2
   go_ret3
   exact ⟨rfl,(unhide HK).2⟩
  ·rw [if_neg h2]
   have h3:=cd_top (c - 8 - p) p (by omega) (by omega)
   obtain ⟨x,hx⟩:∃ x,cd (c - 8 - p) p=x:=⟨_,rfl⟩
   rw [hx] at h3
   rw [hx]
   have H3:=hide hx
   clear hx
   go_enter Tryz.func124,Tryz.ntmps124
   go_wp2_with fail
   go_at_call 126
   refine (unhide HC _).mono ?_
   rintro r w1 ⟨rfl,hb⟩
   replace HK:=hide ((unhide HK).call hb)
   clear hb HC
   have f0:=(unhide HK).1.cell 0 (by omega)
   go_wp2_with fail
   go_at_call 148
   refine (blocksFor_cd _ _ c (unhide H2) _ (by omega) (by omega)).mono ?_
   rintro r w4 ⟨rfl,rfl⟩
   go_wp2_with fail
   go_at_call 148
   refine (blocksFor_cd _ _ x (unhide H3) _ (by omega) (by omega)).mono ?_
   rintro r w5 ⟨rfl,rfl⟩
   go_wp2
   go_ret3
   exact ⟨rfl,(unhide HK).2⟩

theorem refWhole_any (P:Nat→Int) (n:Int) (w:World) :
  Calls Tryz.prog 124 #[PvN P,.int .i64 n] w fun r w'=>r=.returned (.tuple #[.int .i64 (whD P n),.int .i64 (whP P n),.int .i64 (whE P n)])∧Below w.heap.size w w':=by
 by_cases h:checkE P=0
 ·by_cases h1:n < 0 ∨ P 0 * mfb P < n
  ·have e:whE P n=2:=by rw [whE,if_neg (by omega),if_pos h1]
   rw [whD,whP,e,if_neg (by omega),if_neg (by omega)]
   exact refWhole_range P n w h h1
  ·have e:whE P n=0:=by rw [whE,if_neg (by omega),if_neg h1]
   rw [whD,whP,e,if_pos rfl,if_pos rfl]
   exact refWhole_ok P n w h (fun x=>h1 (.inl x)) (fun x=>h1 (.inr x))
 ·have e:whE P n=4:=by rw [whE,if_pos h]
  rw [whD,whP,e,if_neg (by omega),if_neg (by omega)]
  exact refWhole_form P n w h

end Go.Proofs.YtknmgefpjdfenaaGreat

