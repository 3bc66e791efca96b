/- Contracts of codec.read, of descriptors, and of codec.Undesc. -/
import Derived.Test.YtokngjcfkkceiaaGreatDoorInCTakeD
import Derived.Test.YtokngjcfkkceiaaGreatDoorInJ29
import Derived.Test.YtokngjcfkkceiaaGreatDoorInJ22
import Derived.BigQuiet
import Derived.OwnWalk
namespace Go.Proofs.YtokngjcfkkceiaaGreatDoor
set_option maxRecDepth 100000
set_option maxHeartbeats 8000000
open Go.RowKit Go.Shelf
set_option linter.unusedVariables false

theorem readS_err (q:Int)(N g1:Nat)(zs:List Int)(a:Option Addr)(len cap:Nat)(qe:Int)(w:World)(hq:(qe != 0)=true)(HT:Hid (∀ u,Below w.heap.size w u→Calls Tryz.prog 217 #[.slice a len cap] u fun e w'=>∃ gr,e=.returned (.agg #[.int .i64 q,.slice (some ⟨gr,0,none⟩) N N])∧u.heap.size≤gr∧Hid (Bl w' gr (rowK zs N N) 3)∧Below u.heap.size u w'))(HW:Hid (∀ u gr,Below w.heap.size w u→Bl u gr (rowK zs N N) 3→Calls Tryz.prog 218 #[.agg #[.int .i64 q,.slice (some ⟨gr,0,none⟩) N N],.pointer (some ⟨g1,0,none⟩)] u fun e w'=>e=.returned (.tuple #[.slice none 0 0,.int .i64 qe])∧Below u.heap.size u w')) :
  Calls Tryz.prog 216 #[.slice a len cap,.func (.func 217) #[] #[],.func (.func 218) #[] #[.pointer (some ⟨g1,0,none⟩)]] w fun e w'=>e=.returned (.tuple #[.agg #[.int .i64 0,.slice none 0 0],.int .i64 4])∧Below w.heap.size w w':=by
 have hb0:Below w.heap.size w (w.alloc (.cells #[.int .i64 0,.slice none 0 0] 258)):=(Below.refl _ w).alloc (Nat.le_refl _) _
 have HZ:=hide (Bl.new w #[.int .i64 0,.slice none 0 0] 258)
 have HB:=hide hb0
 clear hb0
 go_enter Tryz.func216,Tryz.ntmps216
 go_wp2_with fail
 go_at_call 217
 refine(unhide HT _ HB.out).mono ?_
 rintro e w1 ⟨gr,rfl,hgr,hR,hb⟩
 have HG:Hid (w.heap.size<gr):=Nat.lt_of_lt_of_le HZ.out.lt hgr
 replace HZ:=hide ((HZ.out.call hb).alloc (.cells #[.int .i64 q,.slice (some ⟨gr,0,none⟩) N N] 258))
 replace HB:=hide ((bchain HB.out hb (Nat.le_refl _)).alloc (bchain HB.out hb (Nat.le_refl _)).size (.cells #[.int .i64 q,.slice (some ⟨gr,0,none⟩) N N] 258))
 replace hR:=hide (hR.out.alloc (.cells #[.int .i64 q,.slice (some ⟨gr,0,none⟩) N N] 258))
 have HV:=hide (Bl.new w1 #[.int .i64 q,.slice (some ⟨gr,0,none⟩) N N] 258)
 clear hb HT hgr
 go_wp2_with fail
 go_at_call 218
 refine(unhide HW _ _ HB.out hR.out).mono ?_
 rintro e w2 ⟨rfl,hb⟩
 replace HZ:=hide ((HZ.out.call hb).alloc (.cells #[.int .i64 0,.slice none 0 0] 258))
 replace HB:=hide ((bchain HB.out hb (Nat.le_refl _)).alloc (bchain HB.out hb (Nat.le_refl _)).size (.cells #[.int .i64 0,.slice none 0 0] 258))
 clear hb HW HV hR
 have z0:=HZ.out.cell 0 _ rfl
 have z1:=HZ.out.cell 1 _ rfl
 have hz:=HZ.out.free
 go_wp2_with fail
 have hW:Below w.heap.size w (setAll (w2.alloc (.cells #[.int .i64 0,.slice none 0 0] 258)) w.heap.size 0 [.int .i64 0,.slice none 0 0]):=below_setAll (Nat.le_refl _) _ _ _ _ HB.out
 have hA:Bl (setAll (w2.alloc (.cells #[.int .i64 0,.slice none 0 0] 258)) w.heap.size 0 [.int .i64 0,.slice none 0 0]) w.heap.size #[.int .i64 0,.slice none 0 0] 258:=setAll_whole [.int .i64 0,.slice none 0 0] _ _ HZ.out rfl
 change bodyPost _ _ _ _ _ (setAll (w2.alloc (.cells #[.int .i64 0,.slice none 0 0] 258)) w.heap.size 0 [.int .i64 0,.slice none 0 0])
 generalize setAll (w2.alloc (.cells #[.int .i64 0,.slice none 0 0] 258)) w.heap.size 0 [.int .i64 0,.slice none 0 0]=wf at *
 refine bodyPost_ret (v:=.tuple #[.agg #[.int .i64 0,.slice none 0 0],.int .i64 4]) ?_ rfl ⟨rfl,hW⟩
 simp[results,Tryz.results216,go_sem,hA.cell 0 _ rfl,hA.cell 1 _ rfl]

theorem readS_other (q:Int)(N g1:Nat)(zs:List Int)(a:Option Addr)(len cap:Nat)(w:World)(xs:List Int)(hh:Has w a len zs)(hz0:∀ z∈zs,0≤z∧z≤255)(hx:∀ z∈xs,0≤z∧z≤255)(he:decide (xs=zs)=false)(HT:Hid (∀ u,Below w.heap.size w u→Calls Tryz.prog 217 #[.slice a len cap] u fun e w'=>∃ gr,e=.returned (.agg #[.int .i64 q,.slice (some ⟨gr,0,none⟩) N N])∧u.heap.size≤gr∧Hid (Bl w' gr (rowK zs N N) 3)∧Below u.heap.size u w'))(HW:Hid (∀ u gr,Below w.heap.size w u→Bl u gr (rowK zs N N) 3→Calls Tryz.prog 218 #[.agg #[.int .i64 q,.slice (some ⟨gr,0,none⟩) N N],.pointer (some ⟨g1,0,none⟩)] u fun e w'=>∃ a' n' c',e=.returned (.tuple #[.slice a' n' c',.int .i64 0])∧Hid (Has w' a' n' xs)∧Below u.heap.size u w')) :
  Calls Tryz.prog 216 #[.slice a len cap,.func (.func 217) #[] #[],.func (.func 218) #[] #[.pointer (some ⟨g1,0,none⟩)]] w fun e w'=>e=.returned (.tuple #[.agg #[.int .i64 0,.slice none 0 0],.int .i64 4])∧Below w.heap.size w w':=by
 have HH:=hide hh
 clear hh
 have hb0:Below w.heap.size w (w.alloc (.cells #[.int .i64 0,.slice none 0 0] 258)):=(Below.refl _ w).alloc (Nat.le_refl _) _
 have HZ:=hide (Bl.new w #[.int .i64 0,.slice none 0 0] 258)
 have HB:=hide hb0
 clear hb0
 go_enter Tryz.func216,Tryz.ntmps216
 go_wp2_with fail
 go_at_call 217
 refine(unhide HT _ HB.out).mono ?_
 rintro e w1 ⟨gr,rfl,hgr,hR,hb⟩
 have HG:Hid (w.heap.size<gr):=Nat.lt_of_lt_of_le HZ.out.lt hgr
 replace HZ:=hide ((HZ.out.call hb).alloc (.cells #[.int .i64 q,.slice (some ⟨gr,0,none⟩) N N] 258))
 replace HB:=hide ((bchain HB.out hb (Nat.le_refl _)).alloc (bchain HB.out hb (Nat.le_refl _)).size (.cells #[.int .i64 q,.slice (some ⟨gr,0,none⟩) N N] 258))
 replace hR:=hide (hR.out.alloc (.cells #[.int .i64 q,.slice (some ⟨gr,0,none⟩) N N] 258))
 have HV:=hide (Bl.new w1 #[.int .i64 q,.slice (some ⟨gr,0,none⟩) N N] 258)
 clear hb HT hgr
 go_wp2_with fail
 go_at_call 218
 refine(unhide HW _ _ HB.out hR.out).mono ?_
 rintro e w2 ⟨a',n',c',rfl,hx',hb⟩
 replace HZ:=hide (HZ.out.call hb)
 replace HB:=hide (bchain HB.out hb (Nat.le_refl _))
 replace HV:=hide (HV.out.call hb)
 replace hR:=hide (hR.out.call hb)
 have KE:Hid (Calls Tryz.prog 148 #[.slice a' n' c',.slice a len cap] w2 fun e w'=>e=.returned (.bool false)∧w2=w'):=by
  have:=equal_any a' a n' c' len cap xs zs w2 hx'.out ((HH.out).later HB.out) hx hz0
  rwa [he] at this
 clear hb HW hx'
 go_wp2_with fail
 go_at_call 148
 refine(unhide KE).mono ?_
 rintro e w' ⟨rfl,rfl⟩
 clear KE
 replace HZ:=hide (HZ.out.alloc (.cells #[.int .i64 0,.slice none 0 0] 258))
 replace HB:=hide (HB.out.alloc HB.out.size (.cells #[.int .i64 0,.slice none 0 0] 258))
 clear HV HH hz0 hx he hR
 have z0:=HZ.out.cell 0 _ rfl
 have z1:=HZ.out.cell 1 _ rfl
 have hz:=HZ.out.free
 go_wp2_with fail
 have hW:Below w.heap.size w (setAll (w2.alloc (.cells #[.int .i64 0,.slice none 0 0] 258)) w.heap.size 0 [.int .i64 0,.slice none 0 0]):=below_setAll (Nat.le_refl _) _ _ _ _ HB.out
 have hA:Bl (setAll (w2.alloc (.cells #[.int .i64 0,.slice none 0 0] 258)) w.heap.size 0 [.int .i64 0,.slice none 0 0]) w.heap.size #[.int .i64 0,.slice none 0 0] 258:=setAll_whole [.int .i64 0,.slice none 0 0] _ _ HZ.out rfl
 change bodyPost _ _ _ _ _ (setAll (w2.alloc (.cells #[.int .i64 0,.slice none 0 0] 258)) w.heap.size 0 [.int .i64 0,.slice none 0 0])
 generalize setAll (w2.alloc (.cells #[.int .i64 0,.slice none 0 0] 258)) w.heap.size 0 [.int .i64 0,.slice none 0 0]=wf at *
 refine bodyPost_ret (v:=.tuple #[.agg #[.int .i64 0,.slice none 0 0],.int .i64 4]) ?_ rfl ⟨rfl,hW⟩
 simp[results,Tryz.results216,go_sem,hA.cell 0 _ rfl,hA.cell 1 _ rfl]

theorem readS_same (q:Int)(N g1:Nat)(zs:List Int)(a:Option Addr)(len cap:Nat)(w:World)(xs:List Int)(hh:Has w a len zs)(hz0:∀ z∈zs,0≤z∧z≤255)(hx:∀ z∈xs,0≤z∧z≤255)(he:decide (xs=zs)=true)(HT:Hid (∀ u,Below w.heap.size w u→Calls Tryz.prog 217 #[.slice a len cap] u fun e w'=>∃ gr,e=.returned (.agg #[.int .i64 q,.slice (some ⟨gr,0,none⟩) N N])∧u.heap.size≤gr∧Hid (Bl w' gr (rowK zs N N) 3)∧Below u.heap.size u w'))(HW:Hid (∀ u gr,Below w.heap.size w u→Bl u gr (rowK zs N N) 3→Calls Tryz.prog 218 #[.agg #[.int .i64 q,.slice (some ⟨gr,0,none⟩) N N],.pointer (some ⟨g1,0,none⟩)] u fun e w'=>∃ a' n' c',e=.returned (.tuple #[.slice a' n' c',.int .i64 0])∧Hid (Has w' a' n' xs)∧Below u.heap.size u w')) :
  Calls Tryz.prog 216 #[.slice a len cap,.func (.func 217) #[] #[],.func (.func 218) #[] #[.pointer (some ⟨g1,0,none⟩)]] w fun e w'=>∃ gr,e=.returned (.tuple #[.agg #[.int .i64 q,.slice (some ⟨gr,0,none⟩) N N],.int .i64 0])∧w.heap.size<gr∧Hid (Bl w' gr (rowK zs N N) 3)∧Below w.heap.size w w':=by
 have HH:=hide hh
 clear hh
 have hb0:Below w.heap.size w (w.alloc (.cells #[.int .i64 0,.slice none 0 0] 258)):=(Below.refl _ w).alloc (Nat.le_refl _) _
 have HZ:=hide (Bl.new w #[.int .i64 0,.slice none 0 0] 258)
 have HB:=hide hb0
 clear hb0
 go_enter Tryz.func216,Tryz.ntmps216
 go_wp2_with fail
 go_at_call 217
 refine(unhide HT _ HB.out).mono ?_
 rintro e w1 ⟨gr,rfl,hgr,hR,hb⟩
 have HG:Hid (w.heap.size<gr):=Nat.lt_of_lt_of_le HZ.out.lt hgr
 replace HZ:=hide ((HZ.out.call hb).alloc (.cells #[.int .i64 q,.slice (some ⟨gr,0,none⟩) N N] 258))
 replace HB:=hide ((bchain HB.out hb (Nat.le_refl _)).alloc (bchain HB.out hb (Nat.le_refl _)).size (.cells #[.int .i64 q,.slice (some ⟨gr,0,none⟩) N N] 258))
 replace hR:=hide (hR.out.alloc (.cells #[.int .i64 q,.slice (some ⟨gr,0,none⟩) N N] 258))
 have HV:=hide (Bl.new w1 #[.int .i64 q,.slice (some ⟨gr,0,none⟩) N N] 258)
 clear hb HT hgr
 go_wp2_with fail
 go_at_call 218
 refine(unhide HW _ _ HB.out hR.out).mono ?_
 rintro e w2 ⟨a',n',c',rfl,hx',hb⟩
 replace HZ:=hide (HZ.out.call hb)
 replace HB:=hide (bchain HB.out hb (Nat.le_refl _))
 replace HV:=hide (HV.out.call hb)
 replace hR:=hide (hR.out.call hb)
 have KE:Hid (Calls Tryz.prog 148 #[.slice a' n' c',.slice a len cap] w2 fun e w'=>e=.returned (.bool true)∧w2=w'):=by
  have:=equal_any a' a n' c' len cap xs zs w2 hx'.out ((HH.out).later HB.out) hx hz0
  rwa [he] at this
 clear hb HW hx'
 go_wp2_with fail
 go_at_call 148
 refine(unhide KE).mono ?_
 rintro e w' ⟨rfl,rfl⟩
 clear KE
 clear HH hz0 hx he
 have z0:=HZ.out.cell 0 _ rfl
 have z1:=HZ.out.cell 1 _ rfl
 have hz:=HZ.out.free
 have v0:=HV.out.cell 0 _ rfl
 have v1:=HV.out.cell 1 _ rfl
 go_wp2_with fail
 have hW:Below w.heap.size w (setAll w2 w.heap.size 0 [.int .i64 q,.slice (some ⟨gr,0,none⟩) N N]):=below_setAll (Nat.le_refl _) _ _ _ _ HB.out
 have hA:Bl (setAll w2 w.heap.size 0 [.int .i64 q,.slice (some ⟨gr,0,none⟩) N N]) w.heap.size #[.int .i64 q,.slice (some ⟨gr,0,none⟩) N N] 258:=setAll_whole [.int .i64 q,.slice (some ⟨gr,0,none⟩) N N] _ _ HZ.out rfl
 have hRow:Hid (Bl (setAll w2 w.heap.size 0 [.int .i64 q,.slice (some ⟨gr,0,none⟩) N N]) gr (rowK zs N N) 3):=(hR.out.other _ _ (Nat.ne_of_gt HG.out)).other _ _ (Nat.ne_of_gt HG.out)
 change bodyPost _ _ _ _ _ (setAll w2 w.heap.size 0 [.int .i64 q,.slice (some ⟨gr,0,none⟩) N N])
 generalize setAll w2 w.heap.size 0 [.int .i64 q,.slice (some ⟨gr,0,none⟩) N N]=wf at *
 refine bodyPost_ret (v:=.tuple #[.agg #[.int .i64 q,.slice (some ⟨gr,0,none⟩) N N],.int .i64 0]) ?_ rfl ⟨gr,rfl,HG.out,hRow,hW⟩
 simp[results,Tryz.results216,go_sem,hA.cell 0 _ rfl,hA.cell 1 _ rfl]

theorem undesc1 (q:Int)(N gr g1:Nat)(a:Option Addr)(len cap:Nat)(w:World)(hc:w.cell? ⟨g1,0,none⟩=some (.slice a len cap))(qe:Int)(S:Value→World→Prop)
  (K:Hid (∀ u,Below w.heap.size w u→Calls Tryz.prog 219 #[.int .i64 q,.slice (some ⟨gr,0,none⟩) N N,.int .i64 (len:Int)] u fun e w'=>∃ a' n' c',e=.returned (.tuple #[.slice a' n' c',.int .i64 qe])∧Hid (S (.slice a' n' c') w')∧Below u.heap.size u w')) :
  Calls Tryz.prog 218 #[.agg #[.int .i64 q,.slice (some ⟨gr,0,none⟩) N N],.pointer (some ⟨g1,0,none⟩)] w fun e w'=>∃ a' n' c',e=.returned (.tuple #[.slice a' n' c',.int .i64 qe])∧Hid (S (.slice a' n' c') w')∧Below w.heap.size w w':=by
 have hb0:Below w.heap.size w (w.alloc (.cells #[.int .i64 q,.slice (some ⟨gr,0,none⟩) N N] 258)):=(Below.refl _ w).alloc (Nat.le_refl _) _
 have hc1:(w.alloc (.cells #[.int .i64 q,.slice (some ⟨gr,0,none⟩) N N] 258)).cell? ⟨g1,0,none⟩=some (.slice a len cap):=(hb0.cell (cell_block_lt hc)).trans hc
 have K':=hide (K.out _ hb0)
 have HB:=hide hb0
 clear hc K hb0
 go_enter Tryz.func218,Tryz.ntmps218
 go_wp2_with fail
 go_at_call 219
 refine(unhide K').mono ?_
 rintro e w1 ⟨a',n',c',rfl,hS,hb⟩
 replace HB:=hide (bchain HB.out hb (Nat.le_refl _))
 clear hb K' hc1
 go_wp2_with fail
 go_ret2
 exact⟨a',n',c',rfl,hS,HB.out⟩

theorem undesc_no  (a:Option Addr)(len cap:Nat)(w:World)(K:Hid (∀ u,Below w.heap.size w u→u.cell? ⟨w.heap.size,0,none⟩=some (.slice a len cap)→Calls Tryz.prog 216 #[.slice a len cap,.func (.func 217) #[] #[],.func (.func 218) #[] #[.pointer (some ⟨w.heap.size,0,none⟩)]] u fun e w'=>e=.returned (.tuple #[.agg #[.int .i64 0,.slice none 0 0],.int .i64 4])∧Below u.heap.size u w')) :
  Calls Tryz.prog 180 #[.slice a len cap] w fun e w'=>e=.returned (.tuple #[.int .i64 0,.slice none 0 0,.int .i64 4])∧Below w.heap.size w w':=by
 have hb1:Below w.heap.size w (w.alloc (.cells #[.slice a len cap] 94)):=(Below.refl _ w).alloc (Nat.le_refl _) _
 have hc:(w.alloc (.cells #[.slice a len cap] 94)).cell? ⟨w.heap.size,0,none⟩=some (.slice a len cap):=(Bl.new w #[.slice a len cap] 94).cell 0 _ rfl
 have K':=hide (K.out _ hb1 hc)
 have HB:=hide hb1
 clear K hb1 hc
 go_enter Tryz.func180,Tryz.ntmps180
 go_wp2_with fail
 go_at_call 216
 refine(unhide K').mono ?_
 rintro e w1 ⟨rfl,hb⟩
 replace HB:=hide ((bchain HB.out hb (Nat.le_refl _)).alloc (bchain HB.out hb (Nat.le_refl _)).size (.cells #[.int .i64 0,.slice none 0 0] 258))
 have HV:=hide (Bl.new w1 #[.int .i64 0,.slice none 0 0] 258)
 skip
 clear hb K'
 go_upto_region 2 with fail
 change Code.wp _ _ _ _ (w1.alloc (.cells #[.int .i64 0,.slice none 0 0] 258))
 generalize w1.alloc (.cells #[.int .i64 0,.slice none 0 0] 258)=W at *
 generalize w1.heap.size=g2 at *
 have v0:=HV.out.drew.cell 0 _ rfl
 have v1:=HV.out.drew.cell 1 _ rfl
 have u0:=HV.out.cell 0 _ rfl
 have u1:=HV.out.cell 1 _ rfl
 go_quiet (fail)
 go_wp2_with fail
 go_ret3
 exact⟨rfl,below_drewN HB.out _⟩

theorem undesc_yes (q:Int)(N:Nat)(zs:List Int)(a:Option Addr)(len cap:Nat)(w:World)(K:Hid (∀ u,Below w.heap.size w u→u.cell? ⟨w.heap.size,0,none⟩=some (.slice a len cap)→Calls Tryz.prog 216 #[.slice a len cap,.func (.func 217) #[] #[],.func (.func 218) #[] #[.pointer (some ⟨w.heap.size,0,none⟩)]] u fun e w'=>∃ gr,e=.returned (.tuple #[.agg #[.int .i64 q,.slice (some ⟨gr,0,none⟩) N N],.int .i64 0])∧u.heap.size<gr∧Hid (Bl w' gr (rowK zs N N) 3)∧Below u.heap.size u w')) :
  Calls Tryz.prog 180 #[.slice a len cap] w fun e w'=>∃ gr,e=.returned (.tuple #[.int .i64 q,.slice (some ⟨gr,0,none⟩) N N,.int .i64 0])∧w.heap.size≤gr∧Hid (Bl w' gr (rowK zs N N) 3)∧Below w.heap.size w w':=by
 have hb1:Below w.heap.size w (w.alloc (.cells #[.slice a len cap] 94)):=(Below.refl _ w).alloc (Nat.le_refl _) _
 have hc:(w.alloc (.cells #[.slice a len cap] 94)).cell? ⟨w.heap.size,0,none⟩=some (.slice a len cap):=(Bl.new w #[.slice a len cap] 94).cell 0 _ rfl
 have K':=hide (K.out _ hb1 hc)
 have HB:=hide hb1
 clear K hb1 hc
 go_enter Tryz.func180,Tryz.ntmps180
 go_wp2_with fail
 go_at_call 216
 refine(unhide K').mono ?_
 rintro e w1 ⟨gr,rfl,hgr,hR,hb⟩
 replace HB:=hide ((bchain HB.out hb (Nat.le_refl _)).alloc (bchain HB.out hb (Nat.le_refl _)).size (.cells #[.int .i64 q,.slice (some ⟨gr,0,none⟩) N N] 258))
 have HV:=hide (Bl.new w1 #[.int .i64 q,.slice (some ⟨gr,0,none⟩) N N] 258)
 have HG:Hid (w.heap.size≤gr):=Nat.le_of_lt (Nat.lt_of_le_of_lt (Nat.le_of_lt (show w.heap.size<(w.alloc (.cells #[.slice a len cap] 94)).heap.size by simp)) hgr)
 replace hR:=hide (hR.out.alloc (.cells #[.int .i64 q,.slice (some ⟨gr,0,none⟩) N N] 258))
 clear hb K'
 go_upto_region 2 with fail
 change Code.wp _ _ _ _ (w1.alloc (.cells #[.int .i64 q,.slice (some ⟨gr,0,none⟩) N N] 258))
 generalize w1.alloc (.cells #[.int .i64 q,.slice (some ⟨gr,0,none⟩) N N] 258)=W at *
 generalize w1.heap.size=g2 at *
 have v0:=HV.out.drew.cell 0 _ rfl
 have v1:=HV.out.drew.cell 1 _ rfl
 have u0:=HV.out.cell 0 _ rfl
 have u1:=HV.out.cell 1 _ rfl
 go_quiet (fail)
 go_wp2_with fail
 go_ret3
 exact⟨gr,rfl,HG.out,hR.out,below_drewN HB.out _⟩

theorem getVal_bd {zs:List Int}(hz:∀ z∈zs,0≤z∧z≤255)(at':Int):0≤getVal zs at' 2∧getVal zs at' 2<65536:=by
 unfold getVal
 split
 ·have hb:=num_bound ((zs.drop at'.toNat).take (2:Int).toNat) (fun z h=>hz z (List.mem_of_mem_drop (List.mem_of_mem_take h)))
  refine⟨hb.1,Int.lt_of_lt_of_le hb.2 ?_⟩
  have hle:((zs.drop at'.toNat).take (2:Int).toNat).length≤2:=by rw[List.length_take];simp;omega
  generalize ((zs.drop at'.toNat).take (2:Int).toNat).length=k at hle
  have:k=0∨k=1∨k=2:=by omega
  rcases this with rfl | rfl | rfl<;>decide
 ·omega

def dN (zs:List Int):Nat:=if (zs.length:Int) / 2<getVal zs 8 2 then zs.length / 2 else (getVal zs 8 2).toNat

def descIs (zs:List Int):Prop:=descE (zs.length:Int) (getVal zs 4 4) (takeL zs (dN zs))=0∧descB zs.length (getVal zs 4 4) (takeL zs (dN zs))=zs

theorem dN_le {zs:List Int}(hz:∀ z∈zs,0≤z∧z≤255):dN zs≤65535∧0≤getVal zs 8 2∧getVal zs 8 2<65536:=by
 have h:=getVal_bd hz 8
 unfold dN
 split<;>omega

theorem takeDesc_any (a:Option Addr)(len cap:Nat)(zs:List Int)(w:World)(hr:Row w.heap.size w a len cap zs) :
  Calls Tryz.prog 217 #[.slice a len cap] w fun e w'=>∃ gr,e=.returned (.agg #[.int .i64 (getVal zs 4 4),.slice (some ⟨gr,0,none⟩) (dN zs) (dN zs)])∧w.heap.size≤gr∧Hid (Bl w' gr (rowK zs (dN zs) (dN zs)) 3)∧Below w.heap.size w w':=by
 have hb:=dN_le hr.2.2.2.1
 have hl:=hr.1
 by_cases hc:(len:Int) / 2<getVal zs 8 2
 ·refine takeDesc_a a len cap zs w hr (dN zs) hc ?_ hb.1
  unfold dN
  rw[hl,if_pos hc]
  omega
 ·refine takeDesc_b a len cap zs w hr (dN zs) (by omega) ?_ hb.1
  unfold dN
  rw[hl,if_neg hc]
  omega

theorem undesc_is (a:Option Addr)(len cap:Nat)(zs:List Int)(w:World)(hr:Row w.heap.size w a len cap zs)(hT:Tab w)(h:descIs zs) :
  Calls Tryz.prog 180 #[.slice a len cap] w fun e w'=>∃ gr,e=.returned (.tuple #[.int .i64 (getVal zs 4 4),.slice (some ⟨gr,0,none⟩) (dN zs) (dN zs),.int .i64 0])∧w.heap.size≤gr∧Hid (Bl w' gr (rowK zs (dN zs) (dN zs)) 3)∧Below w.heap.size w w':=by
 have hl:=hr.1
 refine undesc_yes (getVal zs 4 4) (dN zs) zs a len cap w fun u hb hc=>?_
 have hru:=hr.below hb hb.size
 have hTu:=hT.below hb (tab_size hT)
 refine readS_same (getVal zs 4 4) (dN zs) w.heap.size zs a len cap u zs hru.has hr.2.2.2.1 hr.2.2.2.1 (by simp) (fun u2 hb2=>takeDesc_any a len cap zs u2 (hru.below hb2 hb2.size)) fun u2 gr hb2 hR=>?_
 refine(undesc1 (getVal zs 4 4) (dN zs) gr w.heap.size a len cap u2 ((hb2.cell (cell_block_lt hc)).trans hc) 0 (fun v w'=>∃ a' n' c',v=.slice a' n' c'∧Has w' a' n' zs) fun u3 hb3=>?_).mono ?_
 ·have hT2:=hTu.below hb2 (tab_size hTu)
  refine(desc_ok (getVal zs 4 4) _ _ _ (takeL zs (dN zs)) len u3 (row_ihas (hR.call hb3)) (hT2.below hb3 (tab_size hT2)) (by rw[← hl];exact h.1)).mono ?_
  rintro e w' ⟨g,rfl,hg,hB,hb⟩
  rw[← hl,h.2] at hB
  exact⟨_,_,_,rfl,⟨_,_,_,rfl,hB.out.has hl⟩,hb⟩
 ·rintro e w' ⟨a',n',c',rfl,hS,hb⟩
  obtain⟨a2,n2,c2,e2,hh⟩:=hS.out
  cases e2
  exact⟨_,_,_,rfl,hh,hb⟩

theorem descE_length {b:Nat}{q:Int}{ns:List Int}(h:descE (b:Int) q ns=0):10+2*ns.length≤b∧b≤4096∧isSize (b:Int):=by
 unfold descE at h
 by_cases hs:isSize (b:Int)
 ·have hbd:=size_bd hs
  rw[if_pos (show ((b:Int)=64∨(b:Int)=128∨(b:Int)=256∨(b:Int)=512∨(b:Int)=1024∨(b:Int)=2048∨(b:Int)=4096) from hs)] at h
  by_cases hf:descF q ns=true
  ·rw[if_pos hf] at h
   by_cases hn:((b:Int) - 10) / 2<(ns.length:Int)
   ·rw[if_pos hn] at h;omega
   ·exact⟨by omega,by omega,hs⟩
  ·rw[if_neg hf] at h;omega
 ·rw[if_neg (show ¬ ((b:Int)=64∨(b:Int)=128∨(b:Int)=256∨(b:Int)=512∨(b:Int)=1024∨(b:Int)=2048∨(b:Int)=4096) from hs)] at h;omega

theorem undesc_not (a:Option Addr)(len cap:Nat)(zs:List Int)(w:World)(hr:Row w.heap.size w a len cap zs)(hT:Tab w)(h:¬ descIs zs) :
  Calls Tryz.prog 180 #[.slice a len cap] w fun e w'=>e=.returned (.tuple #[.int .i64 0,.slice none 0 0,.int .i64 4])∧Below w.heap.size w w':=by
 have hl:=hr.1
 have hdn:=dN_le hr.2.2.2.1
 refine undesc_no a len cap w fun u hb hc=>?_
 have hru:=hr.below hb hb.size
 have hTu:=hT.below hb (tab_size hT)
 have HT:Hid (∀ u2,Below u.heap.size u u2→Calls Tryz.prog 217 #[.slice a len cap] u2 fun e w'=>∃ gr,e=.returned (.agg #[.int .i64 (getVal zs 4 4),.slice (some ⟨gr,0,none⟩) (dN zs) (dN zs)])∧u2.heap.size≤gr∧Hid (Bl w' gr (rowK zs (dN zs) (dN zs)) 3)∧Below u2.heap.size u2 w'):=fun u2 hb2=>takeDesc_any a len cap zs u2 (hru.below hb2 hb2.size)
 by_cases hE:descE (zs.length:Int) (getVal zs 4 4) (takeL zs (dN zs))=0
 ·have he:descB zs.length (getVal zs 4 4) (takeL zs (dN zs))≠zs:=fun e=>h ⟨hE,e⟩
  refine readS_other (getVal zs 4 4) (dN zs) w.heap.size zs a len cap u (descB zs.length (getVal zs 4 4) (takeL zs (dN zs))) hru.has hr.2.2.2.1 (descB_byts _ _ _) (decide_eq_false he) HT fun u2 gr hb2 hR=>?_
  refine(undesc1 (getVal zs 4 4) (dN zs) gr w.heap.size a len cap u2 ((hb2.cell (cell_block_lt hc)).trans hc) 0 (fun v w'=>∃ a' n' c',v=.slice a' n' c'∧Has w' a' n' (descB zs.length (getVal zs 4 4) (takeL zs (dN zs)))) fun u3 hb3=>?_).mono ?_
  ·have hT2:=hTu.below hb2 (tab_size hTu)
   have hE':=hE
   rw[hl] at hE'
   refine(desc_ok (getVal zs 4 4) _ _ _ (takeL zs (dN zs)) len u3 (row_ihas (hR.call hb3)) (hT2.below hb3 (tab_size hT2)) hE').mono ?_
   rintro e w' ⟨g,rfl,hg,hB,hb⟩
   have hB2:=hB.out.has (descB_length (descE_length hE').1)
   rw[← hl] at hB2
   rw[hl] at hB2
   exact⟨_,_,_,rfl,⟨_,_,_,rfl,by rw[hl];exact hB2⟩,hb⟩
  ·rintro e w' ⟨a',n',c',rfl,hS,hb⟩
   obtain⟨a2,n2,c2,e2,hh⟩:=hS.out
   cases e2
   exact⟨_,_,_,rfl,hh,hb⟩
 ·refine readS_err (getVal zs 4 4) (dN zs) w.heap.size zs a len cap (descE (zs.length:Int) (getVal zs 4 4) (takeL zs (dN zs))) u (by simpa using hE) HT fun u2 gr hb2 hR=>?_
  refine(undesc1 (getVal zs 4 4) (dN zs) gr w.heap.size a len cap u2 ((hb2.cell (cell_block_lt hc)).trans hc) (descE (zs.length:Int) (getVal zs 4 4) (takeL zs (dN zs))) (fun v w'=>v=.slice none 0 0) fun u3 hb3=>?_).mono ?_
  ·refine(desc_err (getVal zs 4 4) _ _ _ (takeL zs (dN zs)) (len:Int) u3 (row_ihas (hR.call hb3)) (by omega) (by rw[← hl];exact hE)).mono ?_
   rintro e w' ⟨rfl,hb⟩
   exact⟨_,_,_,by rw[hl],rfl,hb⟩
  ·rintro e w' ⟨a',n',c',rfl,hS,hb⟩
   have:=hS.out
   rw[this]
   exact⟨rfl,hb⟩

end Go.Proofs.YtokngjcfkkceiaaGreatDoor
