/- The way to a block of a file. -/
import Derived.Test.YtbofhdfhhbgdgaaGreatDoorIaJ10
import Derived.Test.YtbofhdfhhbgdgaaGreatDoorIaJ10
import Derived.BigRegion
namespace Go.Proofs.YtbofhdfhhbgdgaaGreatDoor
set_option maxRecDepth 100000
set_option maxHeartbeats 8000000
open Go.RowKit Go.Shelf
set_option linter.unusedVariables false
theorem ajp (x p:Int)(hx:0<=x/\x<=1099511627776)(hp:1<=p):IntKind.i64.wrap (x.tdiv p)=x / p/\x.tmod p=x%p:=by
 have h:=ahk x p hx hp
 rw[Int.tdiv_eq_ediv_of_nonneg hx.1,Int.tmod_eq_emod_of_nonneg hx.1,IntKind.wrap_i64]
 omega
theorem aas (w:World):gq w none 0 []:=⟨rfl,fun h=>by omega⟩
def way (p i:Int):List Int:=if i<8 then [i] else if i - 8<p then [8,i - 8] else [9,(i - 8 - p) / p,(i - 8 - p)%p]
theorem ac7 (P:Nat->Int)(i:Int)(w:World)(h:bD P=0)(hn:i<0) :
  Calls Tryz.prog 102 #[Pv P,.int .i64 i] w fun r w'=>(∃ a n c,r=.returned (.tuple #[.slice a n c,.int .i64 2])/\gq w' a n [])/\Below w.heap.size w w':=by
 have HC:=hide (check_any P)
 rw[h] at HC
 clear h
 have HK:=hide (Kp.start w P)
 go_enter Tryz.func102,Tryz.ntmps102
 go_wp2_with fail
 go_at_call 100
 refine(ah HC _).mono ?_
 rintro r w1 ⟨rfl,hb⟩
 replace HK:=hide ((ah HK).call hb)
 clear hb HC
 go_wp2
 go_ret2
 exact⟨⟨_,_,_,rfl,aas _⟩,(ah HK).2⟩
theorem aaO (P:Nat->Int)(i:Int)(w:World)(h:bD P=0)(hn:¬ i<0)(hn2:mfb P<=i) :
  Calls Tryz.prog 102 #[Pv P,.int .i64 i] w fun r w'=>(∃ a n c,r=.returned (.tuple #[.slice a n c,.int .i64 2])/\gq w' a n [])/\Below w.heap.size w w':=by
 have HC:=hide (check_any P)
 rw[h] at HC
 have H1:=hide (fun u=>dA P u (sound h).size)
 generalize mfb P=m at *
 clear h
 have HK:=hide (Kp.start w P)
 go_enter Tryz.func102,Tryz.ntmps102
 go_wp2_with fail
 go_at_call 100
 refine(ah HC _).mono ?_
 rintro r w1 ⟨rfl,hb⟩
 replace HK:=hide ((ah HK).call hb)
 clear hb HC
 obtain⟨f0,f1,f2,f3,f4,f5,f6,f7,f8,f9,f10,f11⟩:=(ah HK).cells
 go_wp2_with fail
 go_at_call 120
 refine(ah H1 _).mono ?_
 rintro r w2 ⟨rfl,hb⟩
 replace HK:=hide ((ah HK).call hb)
 clear hb H1 f0 f1 f2 f3 f4 f5 f6 f7 f8 f9 f10 f11
 go_wp2
 go_ret2
 exact⟨⟨_,_,_,rfl,aas _⟩,(ah HK).2⟩
theorem nM (P:Nat->Int)(i p:Int)(w:World)(h:bD P=0)(hn:¬ i<0)(hn2:¬ mfb P<=i)(hp:P 0 / 2=p)(h8:i<8) :
  Calls Tryz.prog 102 #[Pv P,.int .i64 i] w fun r w'=>(∃ k,r=.returned (.tuple #[.slice (some ⟨k,0,none⟩) 1 1,.int .i64 0])/\w.heap.size<=k/\w'.heap[k]?=some (zI i))/\Below w.heap.size w w':=by
 have HC:=hide (check_any P)
 rw[h] at HC
 have hz:=(sound h).bd.1
 have H1:=hide (fun u=>dA P u (sound h).size)
 have hm:=ads (sound h).size
 generalize mfb P=m at *
 have H2:=hide (fun u=>jZ P u p hz hp)
 have hb2:32<=p/\p<=2048:=by omega
 clear h hp
 have HK:=hide (Kp.start w P)
 go_enter Tryz.func102,Tryz.ntmps102
 go_wp2_with fail
 go_at_call 100
 refine(ah HC _).mono ?_
 rintro r w1 ⟨rfl,hb⟩
 replace HK:=hide ((ah HK).call hb)
 clear hb HC
 obtain⟨f0,f1,f2,f3,f4,f5,f6,f7,f8,f9,f10,f11⟩:=(ah HK).cells
 go_wp2_with fail
 go_at_call 120
 refine(ah H1 _).mono ?_
 rintro r w2 ⟨rfl,hb⟩
 replace HK:=hide ((ah HK).call hb)
 clear hb H1 f0 f1 f2 f3 f4 f5 f6 f7 f8 f9 f10 f11
 go_wp2
 go_ret2
 exact⟨⟨_,rfl,(ah HK).2.size,heap_alloc_new _ _⟩,(ah HK).2.alloc (ah HK).2.size _⟩
theorem uK (P:Nat->Int)(i p:Int)(w:World)(h:bD P=0)(hn:¬ i<0)(hn2:¬ mfb P<=i)(hp:P 0 / 2=p)(h8:¬ i<8)(h9:i - 8<p) :
  Calls Tryz.prog 102 #[Pv P,.int .i64 i] w fun r w'=>(∃ k,r=.returned (.tuple #[.slice (some ⟨k,0,none⟩) 2 2,.int .i64 0])/\w.heap.size<=k/\w'.heap[k]?=some (.cells #[.int .i64 8,.int .i64 (i - 8)] 3))/\Below w.heap.size w w':=by
 have HC:=hide (check_any P)
 rw[h] at HC
 have hz:=(sound h).bd.1
 have H1:=hide (fun u=>dA P u (sound h).size)
 have hm:=ads (sound h).size
 generalize mfb P=m at *
 have H2:=hide (fun u=>jZ P u p hz hp)
 have hb2:32<=p/\p<=2048:=by omega
 clear h hp
 have HK:=hide (Kp.start w P)
 go_enter Tryz.func102,Tryz.ntmps102
 go_wp2_with fail
 go_at_call 100
 refine(ah HC _).mono ?_
 rintro r w1 ⟨rfl,hb⟩
 replace HK:=hide ((ah HK).call hb)
 clear hb HC
 obtain⟨f0,f1,f2,f3,f4,f5,f6,f7,f8,f9,f10,f11⟩:=(ah HK).cells
 go_wp2_with fail
 go_at_call 120
 refine(ah H1 _).mono ?_
 rintro r w2 ⟨rfl,hb⟩
 replace HK:=hide ((ah HK).call hb)
 clear hb H1 f0 f1 f2 f3 f4 f5 f6 f7 f8 f9 f10 f11
 obtain⟨f0,f1,f2,f3,f4,f5,f6,f7,f8,f9,f10,f11⟩:=(ah HK).cells
 go_wp2_with fail
 go_at_call 169
 refine(ah H2 _).mono ?_
 rintro r w3 ⟨rfl,hb⟩
 replace HK:=hide ((ah HK).call hb)
 clear hb f0 f1 f2 f3 f4 f5 f6 f7 f8 f9 f10 f11
 obtain⟨f0,f1,f2,f3,f4,f5,f6,f7,f8,f9,f10,f11⟩:=(ah HK).cells
 go_wp2
 go_ret2
 exact⟨⟨_,rfl,(ah HK).2.size,heap_alloc_new _ _⟩,(ah HK).2.alloc (ah HK).2.size _⟩
theorem nK (P:Nat->Int)(i p:Int)(w:World)(h:bD P=0)(hn:¬ i<0)(hn2:¬ mfb P<=i)(hp:P 0 / 2=p)(h8:¬ i<8)(h9:¬ i - 8<p) :
  Calls Tryz.prog 102 #[Pv P,.int .i64 i] w fun r w'=>(∃ k,r=.returned (.tuple #[.slice (some ⟨k,0,none⟩) 3 3,.int .i64 0])/\w.heap.size<=k/\w'.heap[k]?=some (.cells #[.int .i64 9,.int .i64 ((i - 8 - p) / p),.int .i64 ((i - 8 - p)%p)] 3))/\Below w.heap.size w w':=by
 have HC:=hide (check_any P)
 rw[h] at HC
 have hz:=(sound h).bd.1
 have H1:=hide (fun u=>dA P u (sound h).size)
 have hm:=ads (sound h).size
 generalize mfb P=m at *
 have H2:=hide (fun u=>jZ P u p hz hp)
 have hb2:32<=p/\p<=2048:=by omega
 clear h hp
 obtain⟨x,hx⟩:∃ x,i - 8 - p=x:=⟨_,rfl⟩
 rw[hx]
 obtain⟨ao3,ao2⟩:=ajp x p (by omega) (by omega)
 generalize x / p=q at *
 generalize x%p=y at *
 have hp0:p≠0:=by omega
 have HX:=hide hx
 clear hx
 have HK:=hide (Kp.start w P)
 go_enter Tryz.func102,Tryz.ntmps102
 go_wp2_with fail
 go_at_call 100
 refine(ah HC _).mono ?_
 rintro r w1 ⟨rfl,hb⟩
 replace HK:=hide ((ah HK).call hb)
 clear hb HC
 obtain⟨f0,f1,f2,f3,f4,f5,f6,f7,f8,f9,f10,f11⟩:=(ah HK).cells
 go_wp2_with fail
 go_at_call 120
 refine(ah H1 _).mono ?_
 rintro r w2 ⟨rfl,hb⟩
 replace HK:=hide ((ah HK).call hb)
 clear hb H1 f0 f1 f2 f3 f4 f5 f6 f7 f8 f9 f10 f11
 obtain⟨f0,f1,f2,f3,f4,f5,f6,f7,f8,f9,f10,f11⟩:=(ah HK).cells
 go_wp2_with fail
 go_at_call 169
 refine(ah H2 _).mono ?_
 rintro r w3 ⟨rfl,hb⟩
 replace HK:=hide ((ah HK).call hb)
 clear hb f0 f1 f2 f3 f4 f5 f6 f7 f8 f9 f10 f11
 obtain⟨f0,f1,f2,f3,f4,f5,f6,f7,f8,f9,f10,f11⟩:=(ah HK).cells
 go_wp2_with fail
 go_at_call 169
 refine(ah H2 _).mono ?_
 rintro r w4 ⟨rfl,hb⟩
 replace HK:=hide ((ah HK).call hb)
 clear hb f0 f1 f2 f3 f4 f5 f6 f7 f8 f9 f10 f11
 obtain⟨f0,f1,f2,f3,f4,f5,f6,f7,f8,f9,f10,f11⟩:=(ah HK).cells
 go_wp2
 rw[ah HX]
 go_region_held3 (fun u=>Hid (Kp w P u)/\u.cell? ⟨w.heap.size,0,none⟩=some (.int .i64 (P 0))/\u.cell? ⟨w.heap.size,1,none⟩=some (.int .i64 (P 1))/\u.cell? ⟨w.heap.size,2,none⟩=some (.int .i64 (P 2))/\u.cell? ⟨w.heap.size,3,none⟩=some (.int .i64 (P 3))/\u.cell? ⟨w.heap.size,4,none⟩=some (.int .i64 (P 4))/\u.cell? ⟨w.heap.size,5,none⟩=some (.int .i64 (P 5))/\u.cell? ⟨w.heap.size,6,none⟩=some (.int .i64 (P 6))/\u.cell? ⟨w.heap.size,7,none⟩=some (.int .i64 (P 7))/\u.cell? ⟨w.heap.size,8,none⟩=some (.int .i64 (P 8))/\u.cell? ⟨w.heap.size,9,none⟩=some (.int .i64 (P 9))/\u.cell? ⟨w.heap.size,10,none⟩=some (.int .i64 (P 10))/\u.cell? ⟨w.heap.size,11,none⟩=some (.int .i64 (P 11)))
  (with_reducible (first | exact(ah HK).drew.js | exact(ah J2).js | exact(ah J1).js | exact((ah J2).alloc _).js | exact((ah J1).alloc _).js | exact(ah HK).js))
  ((go_at_call 169;refine(ah H2 _).mono ?_;rintro e w6 ⟨rfl,hb⟩;have J1:Hid (Kp w P w6):=Kp.call (ah (‹Hid (Kp w P _)/\_›).1) hb;clear hb))
 all_goals
  have jj:=ah (‹Hid (Kp w P _)/\_›).1
  go_wp2
  go_ret2
  exact⟨⟨_,rfl,by have:=jj.1.lt;simp at this;omega,heap_alloc_new _ _⟩,jj.2⟩
end Go.Proofs.YtbofhdfhhbgdgaaGreatDoor
