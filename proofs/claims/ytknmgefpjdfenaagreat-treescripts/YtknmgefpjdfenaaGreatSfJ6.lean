/- Joined: XPMake, XPMake2, XPRefLeaf, XPRefMake, XPCheck, XPSound. -/
import Derived.Test.YtknmgefpjdfenaaGreatSfJ5
/- The contract of Make. -/
namespace Go.Proofs.YtknmgefpjdfenaaGreat
set_option maxRecDepth 100000
set_option maxHeartbeats 8000000
open Go.RowKit Go.Shelf
set_option linter.unusedVariables false

def badArg (b bl ino lg:Int):Prop:=¬ isSize b ∨ (bl < 1 ∨ 4096 < bl) ∨ (ino < 2 ∨ 1024 < ino) ∨ (lg < 4 ∨ 512 < lg)

def badB (b bl ino lg:Int):Bool:=!(b == 64 || b == 128 || b == 256 || b == 512 || b == 1024 || b == 2048 || b == 4096) || decide (bl < 1 ∨ 4096 < bl) || decide (ino < 2 ∨ 1024 < ino) || decide (lg < 4 ∨ 512 < lg)

theorem badB_iff {b bl ino lg:Int}:badB b bl ino lg=true ↔ badArg b bl ino lg:=by
 unfold badB badArg isSize
 simp
 omega

def makeE (b bl ino lg:Int):Int:=if badB b bl ino lg=true then 1 else if 1048576 < b * bl then 5 else if bl ≤ planOf b bl ino lg 11 then 6 else 0

def makeP (b bl ino lg:Int):Nat→Int:=if makeE b bl ino lg=0 then planOf b bl ino lg else zeroP

theorem makeE_bad {b bl ino lg:Int} (h:badArg b bl ino lg):makeE b bl ino lg=1:=by rw [makeE,if_pos (badB_iff.2 h)]
theorem makeE_large {b bl ino lg:Int} (h:¬ badArg b bl ino lg) (h1:1048576 < b * bl):makeE b bl ino lg=5:=by rw [makeE,if_neg (fun x=>h (badB_iff.1 x)),if_pos h1]
theorem makeE_small {b bl ino lg:Int} (h:¬ badArg b bl ino lg) (h1:¬ 1048576 < b * bl) (h2:bl ≤ planOf b bl ino lg 11):makeE b bl ino lg=6:=by rw [makeE,if_neg (fun x=>h (badB_iff.1 x)),if_neg h1,if_pos h2]
theorem makeE_ok {b bl ino lg:Int} (h:¬ badArg b bl ino lg) (h1:¬ 1048576 < b * bl) (h2:¬ bl ≤ planOf b bl ino lg 11):makeE b bl ino lg=0:=by rw [makeE,if_neg (fun x=>h (badB_iff.1 x)),if_neg h1,if_neg h2]
theorem makeP_zero {b bl ino lg:Int} (h:makeE b bl ino lg ≠ 0):makeP b bl ino lg=zeroP:=if_neg h
theorem makeP_ok {b bl ino lg:Int} (h:makeE b bl ino lg=0):makeP b bl ino lg=planOf b bl ino lg:=if_pos h

theorem zero_new (w:World):R12 (w.alloc (.cells (Pc zeroP) 23)) w.heap.size zeroP∧Below w.heap.size w (w.alloc (.cells (Pc zeroP) 23)):=⟨R12.new _ _,(Below.refl _ _).alloc (Nat.le_refl _) _⟩

theorem make_bad (b bl ino lg:Int) (w:World) (h:badArg b bl ino lg) :
  Calls Tryz.prog 118 #[.int .i64 b,.int .i64 bl,.int .i64 ino,.int .i64 lg] w fun r w'=>r=.returned (.tuple #[PvN zeroP,.int .i64 1])∧Below w.heap.size w w':=by
 have H:=hide h
 have HZ:=hide (zero_new w)
 clear h
 by_cases hs:isSize b
 ·have HS:=hide hs
  clear hs
  by_cases h1:bl < 1 ∨ 4096 < bl
  ·have H1:=hide h1
   clear h1
   go_enter Tryz.func118,Tryz.ntmps118
   go_wp2_with fail
   go_at_call 139
   refine (isBlockSize_yes b _ (unhide HS)).mono ?_
   rintro e w' ⟨rfl,rfl⟩
   go_wp2_with fail
   go_at_call 140
   refine (outside_yes _ _ _ _ (unhide H1)).mono ?_
   rintro e w' ⟨rfl,rfl⟩
   go_wp2
   change bodyPost _ _ _ _ _ (w.alloc (.cells (Pc zeroP) 23))
   obtain ⟨hA,hW⟩:=unhide HZ
   generalize w.alloc (.cells (Pc zeroP) 23)=wf at *
   refine bodyPost_ret (v:=.tuple #[PvN zeroP,.int .i64 1]) ?_ rfl ⟨rfl,hW⟩
   simp [results,Tryz.results118,go_sem,hA.cell 0 (by omega),hA.cell 1 (by omega),hA.cell 2 (by omega),hA.cell 3 (by omega),hA.cell 4 (by omega),hA.cell 5 (by omega),hA.cell 6 (by omega),hA.cell 7 (by omega),hA.cell 8 (by omega),hA.cell 9 (by omega),hA.cell 10 (by omega),hA.cell 11 (by omega)]
  ·have H1:=hide h1
   clear h1
   by_cases h2:ino < 2 ∨ 1024 < ino
   ·have H2:=hide h2
    clear h2
    go_enter Tryz.func118,Tryz.ntmps118
    go_wp2_with fail
    go_at_call 139
    refine (isBlockSize_yes b _ (unhide HS)).mono ?_
    rintro e w' ⟨rfl,rfl⟩
    go_wp2_with fail
    go_at_call 140
    refine (outside_no _ _ _ _ (unhide H1)).mono ?_
    rintro e w' ⟨rfl,rfl⟩
    go_wp2_with fail
    go_at_call 140
    refine (outside_yes _ _ _ _ (unhide H2)).mono ?_
    rintro e w' ⟨rfl,rfl⟩
    go_wp2
    change bodyPost _ _ _ _ _ (w.alloc (.cells (Pc zeroP) 23))
    obtain ⟨hA,hW⟩:=unhide HZ
    generalize w.alloc (.cells (Pc zeroP) 23)=wf at *
    refine bodyPost_ret (v:=.tuple #[PvN zeroP,.int .i64 1]) ?_ rfl ⟨rfl,hW⟩
    simp [results,Tryz.results118,go_sem,hA.cell 0 (by omega),hA.cell 1 (by omega),hA.cell 2 (by omega),hA.cell 3 (by omega),hA.cell 4 (by omega),hA.cell 5 (by omega),hA.cell 6 (by omega),hA.cell 7 (by omega),hA.cell 8 (by omega),hA.cell 9 (by omega),hA.cell 10 (by omega),hA.cell 11 (by omega)]
   ·have H2:=hide h2
    clear h2
    have H3:Hid (lg < 4 ∨ 512 < lg):=by
     have a:=unhide H
     have b:=unhide HS
     have c:=unhide H1
     have d:=unhide H2
     unfold badArg at a
     rcases a with a | a | a | a
     ·exact absurd b a
     ·exact absurd a c
     ·exact absurd a d
     ·exact a
    go_enter Tryz.func118,Tryz.ntmps118
    go_wp2_with fail
    go_at_call 139
    refine (isBlockSize_yes b _ (unhide HS)).mono ?_
    rintro e w' ⟨rfl,rfl⟩
    go_wp2_with fail
    go_at_call 140
    refine (outside_no _ _ _ _ (unhide H1)).mono ?_
    rintro e w' ⟨rfl,rfl⟩
    go_wp2_with fail
    go_at_call 140
    refine (outside_no _ _ _ _ (unhide H2)).mono ?_
    rintro e w' ⟨rfl,rfl⟩
    go_wp2_with fail
    go_at_call 140
    refine (outside_yes _ _ _ _ (unhide H3)).mono ?_
    rintro e w' ⟨rfl,rfl⟩
    go_wp2
    change bodyPost _ _ _ _ _ (w.alloc (.cells (Pc zeroP) 23))
    obtain ⟨hA,hW⟩:=unhide HZ
    generalize w.alloc (.cells (Pc zeroP) 23)=wf at *
    refine bodyPost_ret (v:=.tuple #[PvN zeroP,.int .i64 1]) ?_ rfl ⟨rfl,hW⟩
    simp [results,Tryz.results118,go_sem,hA.cell 0 (by omega),hA.cell 1 (by omega),hA.cell 2 (by omega),hA.cell 3 (by omega),hA.cell 4 (by omega),hA.cell 5 (by omega),hA.cell 6 (by omega),hA.cell 7 (by omega),hA.cell 8 (by omega),hA.cell 9 (by omega),hA.cell 10 (by omega),hA.cell 11 (by omega)]
 ·have HS:=hide hs
  clear hs
  go_enter Tryz.func118,Tryz.ntmps118
  go_wp2_with fail
  go_at_call 139
  refine (isBlockSize_no b _ (unhide HS)).mono ?_
  rintro e w' ⟨rfl,rfl⟩
  go_wp2
  change bodyPost _ _ _ _ _ (w.alloc (.cells (Pc zeroP) 23))
  obtain ⟨hA,hW⟩:=unhide HZ
  generalize w.alloc (.cells (Pc zeroP) 23)=wf at *
  refine bodyPost_ret (v:=.tuple #[PvN zeroP,.int .i64 1]) ?_ rfl ⟨rfl,hW⟩
  simp [results,Tryz.results118,go_sem,hA.cell 0 (by omega),hA.cell 1 (by omega),hA.cell 2 (by omega),hA.cell 3 (by omega),hA.cell 4 (by omega),hA.cell 5 (by omega),hA.cell 6 (by omega),hA.cell 7 (by omega),hA.cell 8 (by omega),hA.cell 9 (by omega),hA.cell 10 (by omega),hA.cell 11 (by omega)]

theorem good_arg {b bl ino lg:Int} (h:¬ badArg b bl ino lg):isSize b∧¬ (bl < 1 ∨ 4096 < bl)∧¬ (ino < 2 ∨ 1024 < ino)∧¬ (lg < 4 ∨ 512 < lg):=by
 unfold badArg at h
 exact ⟨Classical.byContradiction fun h1=>h (.inl h1),fun h1=>h (.inr (.inl h1)),fun h1=>h (.inr (.inr (.inl h1))),fun h1=>h (.inr (.inr (.inr h1)))⟩

theorem size_bd {b:Int} (h:isSize b):64 ≤ b∧b ≤ 4096:=by unfold isSize at h; omega

theorem prod_bd {b bl:Int} (hb:64 ≤ b∧b ≤ 4096) (hl:1 ≤ bl∧bl ≤ 4096):0 ≤ b * bl∧b * bl ≤ 16777216:=by
 refine ⟨Int.mul_nonneg (by omega) (by omega),?_⟩
 have h1:b * bl ≤ 4096 * bl:=Int.mul_le_mul_of_nonneg_right hb.2 (by omega)
 omega

theorem make_large (b bl ino lg:Int) (w:World) (h:¬ badArg b bl ino lg) (hx:1048576 < b * bl) :
  Calls Tryz.prog 118 #[.int .i64 b,.int .i64 bl,.int .i64 ino,.int .i64 lg] w fun r w'=>r=.returned (.tuple #[PvN zeroP,.int .i64 5])∧Below w.heap.size w w':=by
 have H:=hide (good_arg h)
 have HZ:=hide (zero_new w)
 clear h
 obtain ⟨m,hm⟩:∃ m,b * bl=m:=⟨_,rfl⟩
 rw [hm] at hx
 have q1:IntKind.i64.wrap (b * bl)=m:=by
  have h1:=size_bd (unhide H).1
  have h2:=(unhide H).2.1
  have h3:=prod_bd h1 (bl:=bl) (by omega)
  rw [hm] at *
  rw [IntKind.wrap_i64]; omega
 clear hm
 go_enter Tryz.func118,Tryz.ntmps118
 go_wp2_with fail
 go_at_call 139
 refine (isBlockSize_yes b _ (unhide H).1).mono ?_
 rintro e w' ⟨rfl,rfl⟩
 go_wp2_with fail
 go_at_call 140
 refine (outside_no _ _ _ _ (unhide H).2.1).mono ?_
 rintro e w' ⟨rfl,rfl⟩
 go_wp2_with fail
 go_at_call 140
 refine (outside_no _ _ _ _ (unhide H).2.2.1).mono ?_
 rintro e w' ⟨rfl,rfl⟩
 go_wp2_with fail
 go_at_call 140
 refine (outside_no _ _ _ _ (unhide H).2.2.2).mono ?_
 rintro e w' ⟨rfl,rfl⟩
 go_wp2
 change bodyPost _ _ _ _ _ (w.alloc (.cells (Pc zeroP) 23))
 obtain ⟨hA,hW⟩:=unhide HZ
 generalize w.alloc (.cells (Pc zeroP) 23)=wf at *
 refine bodyPost_ret (v:=.tuple #[PvN zeroP,.int .i64 5]) ?_ rfl ⟨rfl,hW⟩
 simp [results,Tryz.results118,go_sem,hA.cell 0 (by omega),hA.cell 1 (by omega),hA.cell 2 (by omega),hA.cell 3 (by omega),hA.cell 4 (by omega),hA.cell 5 (by omega),hA.cell 6 (by omega),hA.cell 7 (by omega),hA.cell 8 (by omega),hA.cell 9 (by omega),hA.cell 10 (by omega),hA.cell 11 (by omega)]

end Go.Proofs.YtknmgefpjdfenaaGreat

/- The contract of Make: where nothing is too great. -/
namespace Go.Proofs.YtknmgefpjdfenaaGreat
set_option maxRecDepth 100000
set_option maxHeartbeats 8000000
open Go.RowKit Go.Shelf
set_option linter.unusedVariables false

theorem kept_new {w w0 w1:World} (hz:R12 w0 w.heap.size zeroP) (hb:Below w.heap.size w w0) (h1:Below w0.heap.size w0 w1) (Q:Nat→Int) :
  R12 (w1.alloc (.cells (Pc Q) 23)) w.heap.size zeroP∧R12 (w1.alloc (.cells (Pc Q) 23)) w1.heap.size Q∧Below w.heap.size w (w1.alloc (.cells (Pc Q) 23))∧w.heap.size < w1.heap.size:=by
 have a:=hz.lt
 have b:=h1.size
 have c:=hb.size
 exact ⟨(hz.below h1 a).alloc _,R12.new _ _,(hb.trans (h1.mono (by omega))).alloc (by omega) _,by omega⟩

theorem make_small (b bl ino lg:Int) (w:World) (h:¬ badArg b bl ino lg) (hx:¬ 1048576 < b * bl) (Q:Nat→Int) (hQ:planOf b bl ino lg=Q) (hc:bl ≤ Q 11) :
  Calls Tryz.prog 118 #[.int .i64 b,.int .i64 bl,.int .i64 ino,.int .i64 lg] w fun r w'=>r=.returned (.tuple #[PvN zeroP,.int .i64 6])∧Below w.heap.size w w':=by
 have H:=hide (good_arg h)
 have HZ:=hide (zero_new w)
 clear h
 have HL:Hid (∀ wx:World,Calls Tryz.prog 141 #[.int .i64 b,.int .i64 bl,.int .i64 ino,.int .i64 lg] wx fun r w'=>r=.returned (PvN Q)∧Below wx.heap.size wx w'):=by
  intro wx
  rw [← hQ]
  have h1:=size_bd (unhide H).1
  have h2:=(unhide H).2
  exact lay_any b bl ino lg wx (by omega) (by omega) (by omega) (by omega)
 obtain ⟨m,hm⟩:∃ m,b * bl=m:=⟨_,rfl⟩
 rw [hm] at hx
 have q1:IntKind.i64.wrap (b * bl)=m:=by
  have h1:=size_bd (unhide H).1
  have h2:=(unhide H).2.1
  have h3:=prod_bd h1 (bl:=bl) (by omega)
  rw [hm] at *
  rw [IntKind.wrap_i64]; omega
 clear hm hQ
 go_enter Tryz.func118,Tryz.ntmps118
 go_wp2_with fail
 go_at_call 139
 refine (isBlockSize_yes b _ (unhide H).1).mono ?_
 rintro e w' ⟨rfl,rfl⟩
 go_wp2_with fail
 go_at_call 140
 refine (outside_no _ _ _ _ (unhide H).2.1).mono ?_
 rintro e w' ⟨rfl,rfl⟩
 go_wp2_with fail
 go_at_call 140
 refine (outside_no _ _ _ _ (unhide H).2.2.1).mono ?_
 rintro e w' ⟨rfl,rfl⟩
 go_wp2_with fail
 go_at_call 140
 refine (outside_no _ _ _ _ (unhide H).2.2.2).mono ?_
 rintro e w' ⟨rfl,rfl⟩
 go_wp2_with fail
 go_at_call 141
 refine (unhide HL _).mono ?_
 rintro e w1 ⟨rfl,hb⟩
 have HZ1:=hide (kept_new (unhide HZ).1 (unhide HZ).2 hb Q)
 clear HZ hb HL q1
 go_upto_region 6 with fail
 change Code.wp _ _ _ _ (w1.alloc (.cells (Pc Q) 23))
 obtain ⟨g,hg⟩:∃ g,w1.heap.size=g:=⟨_,rfl⟩
 rw [hg] at HZ1
 rw [hg]
 have HG:Hid (w.heap.size ≠ g):=hide (by have:=(unhide HZ1).2.2.2; omega)
 have HZ:Hid (R12 (w1.alloc (.cells (Pc Q) 23)) w.heap.size zeroP∧Below w.heap.size w (w1.alloc (.cells (Pc Q) 23))):=⟨(unhide HZ1).1,(unhide HZ1).2.2.1⟩
 have HQ:=hide (unhide HZ1).2.1
 clear HZ1 hg
 generalize w1.alloc (.cells (Pc Q) 23)=wx at *
 have d1:w.heap.size ≠ g:=unhide HG
 have f0:=(unhide HQ).cell 0 (by omega)
 have f1:=(unhide HQ).cell 1 (by omega)
 have f2:=(unhide HQ).cell 2 (by omega)
 have f3:=(unhide HQ).cell 3 (by omega)
 have f4:=(unhide HQ).cell 4 (by omega)
 have f5:=(unhide HQ).cell 5 (by omega)
 have f6:=(unhide HQ).cell 6 (by omega)
 have f7:=(unhide HQ).cell 7 (by omega)
 have f8:=(unhide HQ).cell 8 (by omega)
 have f9:=(unhide HQ).cell 9 (by omega)
 have f10:=(unhide HQ).cell 10 (by omega)
 have f11:=(unhide HQ).cell 11 (by omega)
 have z0:=(unhide HZ).1.cell 0 (by omega)
 have z1:=(unhide HZ).1.cell 1 (by omega)
 have z2:=(unhide HZ).1.cell 2 (by omega)
 have z3:=(unhide HZ).1.cell 3 (by omega)
 have z4:=(unhide HZ).1.cell 4 (by omega)
 have z5:=(unhide HZ).1.cell 5 (by omega)
 have z6:=(unhide HZ).1.cell 6 (by omega)
 have z7:=(unhide HZ).1.cell 7 (by omega)
 have z8:=(unhide HZ).1.cell 8 (by omega)
 have z9:=(unhide HZ).1.cell 9 (by omega)
 have z10:=(unhide HZ).1.cell 10 (by omega)
 have z11:=(unhide HZ).1.cell 11 (by omega)
 have u:=(unhide HZ).1.free
 go_wp2
 have hW:Below w.heap.size w (all12 wx w.heap.size zeroP):=below_all12 (unhide HZ).2 (Nat.le_refl _) _
 have hA:R12 (all12 wx w.heap.size zeroP) w.heap.size zeroP:=(unhide HZ).1.all _
 change bodyPost _ _ _ _ _ (all12 wx w.heap.size zeroP)
 generalize all12 wx w.heap.size zeroP=wf at *
 refine bodyPost_ret (v:=.tuple #[PvN zeroP,.int .i64 6]) ?_ rfl ⟨rfl,hW⟩
 simp [results,Tryz.results118,go_sem,hA.cell 0 (by omega),hA.cell 1 (by omega),hA.cell 2 (by omega),hA.cell 3 (by omega),hA.cell 4 (by omega),hA.cell 5 (by omega),hA.cell 6 (by omega),hA.cell 7 (by omega),hA.cell 8 (by omega),hA.cell 9 (by omega),hA.cell 10 (by omega),hA.cell 11 (by omega)]

theorem make_ok (b bl ino lg:Int) (w:World) (h:¬ badArg b bl ino lg) (hx:¬ 1048576 < b * bl) (Q:Nat→Int) (hQ:planOf b bl ino lg=Q) (hc:¬ bl ≤ Q 11) :
  Calls Tryz.prog 118 #[.int .i64 b,.int .i64 bl,.int .i64 ino,.int .i64 lg] w fun r w'=>r=.returned (.tuple #[PvN Q,.int .i64 0])∧Below w.heap.size w w':=by
 have H:=hide (good_arg h)
 have HZ:=hide (zero_new w)
 clear h
 have HL:Hid (∀ wx:World,Calls Tryz.prog 141 #[.int .i64 b,.int .i64 bl,.int .i64 ino,.int .i64 lg] wx fun r w'=>r=.returned (PvN Q)∧Below wx.heap.size wx w'):=by
  intro wx
  rw [← hQ]
  have h1:=size_bd (unhide H).1
  have h2:=(unhide H).2
  exact lay_any b bl ino lg wx (by omega) (by omega) (by omega) (by omega)
 obtain ⟨m,hm⟩:∃ m,b * bl=m:=⟨_,rfl⟩
 rw [hm] at hx
 have q1:IntKind.i64.wrap (b * bl)=m:=by
  have h1:=size_bd (unhide H).1
  have h2:=(unhide H).2.1
  have h3:=prod_bd h1 (bl:=bl) (by omega)
  rw [hm] at *
  rw [IntKind.wrap_i64]; omega
 clear hm hQ
 go_enter Tryz.func118,Tryz.ntmps118
 go_wp2_with fail
 go_at_call 139
 refine (isBlockSize_yes b _ (unhide H).1).mono ?_
 rintro e w' ⟨rfl,rfl⟩
 go_wp2_with fail
 go_at_call 140
 refine (outside_no _ _ _ _ (unhide H).2.1).mono ?_
 rintro e w' ⟨rfl,rfl⟩
 go_wp2_with fail
 go_at_call 140
 refine (outside_no _ _ _ _ (unhide H).2.2.1).mono ?_
 rintro e w' ⟨rfl,rfl⟩
 go_wp2_with fail
 go_at_call 140
 refine (outside_no _ _ _ _ (unhide H).2.2.2).mono ?_
 rintro e w' ⟨rfl,rfl⟩
 go_wp2_with fail
 go_at_call 141
 refine (unhide HL _).mono ?_
 rintro e w1 ⟨rfl,hb⟩
 have HZ1:=hide (kept_new (unhide HZ).1 (unhide HZ).2 hb Q)
 clear HZ hb HL q1
 go_upto_region 6 with fail
 change Code.wp _ _ _ _ (w1.alloc (.cells (Pc Q) 23))
 obtain ⟨g,hg⟩:∃ g,w1.heap.size=g:=⟨_,rfl⟩
 rw [hg] at HZ1
 rw [hg]
 have HG:Hid (w.heap.size ≠ g):=hide (by have:=(unhide HZ1).2.2.2; omega)
 have HZ:Hid (R12 (w1.alloc (.cells (Pc Q) 23)) w.heap.size zeroP∧Below w.heap.size w (w1.alloc (.cells (Pc Q) 23))):=⟨(unhide HZ1).1,(unhide HZ1).2.2.1⟩
 have HQ:=hide (unhide HZ1).2.1
 clear HZ1 hg
 generalize w1.alloc (.cells (Pc Q) 23)=wx at *
 have d1:w.heap.size ≠ g:=unhide HG
 have f0:=(unhide HQ).cell 0 (by omega)
 have f1:=(unhide HQ).cell 1 (by omega)
 have f2:=(unhide HQ).cell 2 (by omega)
 have f3:=(unhide HQ).cell 3 (by omega)
 have f4:=(unhide HQ).cell 4 (by omega)
 have f5:=(unhide HQ).cell 5 (by omega)
 have f6:=(unhide HQ).cell 6 (by omega)
 have f7:=(unhide HQ).cell 7 (by omega)
 have f8:=(unhide HQ).cell 8 (by omega)
 have f9:=(unhide HQ).cell 9 (by omega)
 have f10:=(unhide HQ).cell 10 (by omega)
 have f11:=(unhide HQ).cell 11 (by omega)
 have z0:=(unhide HZ).1.cell 0 (by omega)
 have z1:=(unhide HZ).1.cell 1 (by omega)
 have z2:=(unhide HZ).1.cell 2 (by omega)
 have z3:=(unhide HZ).1.cell 3 (by omega)
 have z4:=(unhide HZ).1.cell 4 (by omega)
 have z5:=(unhide HZ).1.cell 5 (by omega)
 have z6:=(unhide HZ).1.cell 6 (by omega)
 have z7:=(unhide HZ).1.cell 7 (by omega)
 have z8:=(unhide HZ).1.cell 8 (by omega)
 have z9:=(unhide HZ).1.cell 9 (by omega)
 have z10:=(unhide HZ).1.cell 10 (by omega)
 have z11:=(unhide HZ).1.cell 11 (by omega)
 have u:=(unhide HZ).1.free
 go_wp2
 have hW:Below w.heap.size w (all12 wx w.heap.size Q):=below_all12 (unhide HZ).2 (Nat.le_refl _) _
 have hA:R12 (all12 wx w.heap.size Q) w.heap.size Q:=(unhide HZ).1.all _
 change bodyPost _ _ _ _ _ (all12 wx w.heap.size Q)
 generalize all12 wx w.heap.size Q=wf at *
 refine bodyPost_ret (v:=.tuple #[PvN Q,.int .i64 0]) ?_ rfl ⟨rfl,hW⟩
 simp [results,Tryz.results118,go_sem,hA.cell 0 (by omega),hA.cell 1 (by omega),hA.cell 2 (by omega),hA.cell 3 (by omega),hA.cell 4 (by omega),hA.cell 5 (by omega),hA.cell 6 (by omega),hA.cell 7 (by omega),hA.cell 8 (by omega),hA.cell 9 (by omega),hA.cell 10 (by omega),hA.cell 11 (by omega)]

theorem make_any (b bl ino lg:Int) (w:World) :
  Calls Tryz.prog 118 #[.int .i64 b,.int .i64 bl,.int .i64 ino,.int .i64 lg] w fun r w'=>r=.returned (.tuple #[PvN (makeP b bl ino lg),.int .i64 (makeE b bl ino lg)])∧Below w.heap.size w w':=by
 by_cases h:badArg b bl ino lg
 ·rw [makeP_zero (by rw [makeE_bad h]; omega),makeE_bad h]
  exact make_bad b bl ino lg w h
 ·by_cases h1:1048576 < b * bl
  ·rw [makeP_zero (by rw [makeE_large h h1]; omega),makeE_large h h1]
   exact make_large b bl ino lg w h h1
  ·by_cases h2:bl ≤ planOf b bl ino lg 11
   ·rw [makeP_zero (by rw [makeE_small h h1 h2]; omega),makeE_small h h1 h2]
    exact make_small b bl ino lg w h h1 _ rfl h2
   ·rw [makeP_ok (makeE_ok h h1 h2),makeE_ok h h1 h2]
    exact make_ok b bl ino lg w h h1 _ rfl h2

end Go.Proofs.YtknmgefpjdfenaaGreat

/- The contracts of the reference's small functions. -/
namespace Go.Proofs.YtknmgefpjdfenaaGreat
set_option maxRecDepth 100000
set_option maxHeartbeats 8000000
open Go.RowKit Go.Shelf
set_option linter.unusedVariables false

theorem blocksFor_any (n e:Int) (w:World) (hn:0 ≤ n∧n ≤ 1099511627776) (he:1 ≤ e∧e ≤ 1099511627776) :
  Calls Tryz.prog 148 #[.int .i64 n,.int .i64 e] w fun r w'=>r=.returned (.int .i64 (cd n e))∧w=w':=by
 have HN:=hide hn
 have HE:=hide he
 clear hn he
 go_enter Tryz.func148,Tryz.ntmps148
 go_wp2
 go_loop [5] (fun i=>∃ k:Int,i=.int .i64 k∧Hid (0 ≤ k∧k * e < n + e)) (fun i=>n.toNat + 1 - (intOf i).toNat)
 case atStart=>exact ⟨0,rfl,by omega,by have:=unhide HN; have:=unhide HE; omega⟩
 case round =>
  obtain ⟨k,rfl,hH⟩:=hrel
  obtain ⟨m,hm⟩:∃ m,k * e=m:=⟨_,rfl⟩
  have hk:k ≤ m:=by
   have:=Int.mul_le_mul_of_nonneg_left (unhide HE).1 (unhide hH).1
   omega
  have hm2:m < n + e:=by have:=(unhide hH).2; omega
  have q1:IntKind.i64.wrap (k * e)=m:=by have:=unhide HN; have:=unhide HE; have:=unhide hH; rw [hm,IntKind.wrap_i64]; omega
  have HM:=hide hm
  have hb:k ≤ 4398046511104:=by have:=unhide HN; have:=unhide HE; omega
  have hk0:=(unhide hH).1
  clear hm hm2
  by_cases hlt:m < n
  ·go_wp2
   refine ⟨⟨k + 1,by go_num,by omega,?_⟩,by simp [intOf]; omega⟩
   rw [Int.add_mul]
   have:=unhide HM
   omega
  ·go_wp2
   go_ret
   refine ⟨?_,rfl⟩
   rw [cd_unique (unhide HE).1 (by have:=unhide HM; omega) (unhide hH).2]
   rfl

end Go.Proofs.YtknmgefpjdfenaaGreat

/- The contract of the reference's Make. -/
namespace Go.Proofs.YtknmgefpjdfenaaGreat
set_option maxRecDepth 100000
set_option maxHeartbeats 8000000
open Go.RowKit Go.Shelf
set_option linter.unusedVariables false

theorem size_yes (b:Int) (w:World) (h:isSize b):Calls Tryz.prog 147 #[.int .i64 b] w fun r w'=>r=.returned (.bool true)∧w=w' :=
 (size_anyN b w).mono fun r w' ⟨h1,h2⟩=>⟨h1.elim (fun x=>x.1) (fun x=>absurd h x.2),h2⟩

theorem size_no (b:Int) (w:World) (h:¬ isSize b):Calls Tryz.prog 147 #[.int .i64 b] w fun r w'=>r=.returned (.bool false)∧w=w' :=
 (size_anyN b w).mono fun r w' ⟨h1,h2⟩=>⟨h1.elim (fun x=>absurd x.2 h) (fun x=>x.1),h2⟩

theorem refMake_no (b bl ino lg:Int) (w:World) (h:¬ isSize b) :
  Calls Tryz.prog 123 #[.int .i64 b,.int .i64 bl,.int .i64 ino,.int .i64 lg] w fun r w'=>r=.returned (.tuple #[PvN zeroP,.int .i64 1])∧Below w.heap.size w w':=by
 have H:=hide h
 have HZ:=hide (zero_new w)
 clear h
 go_enter Tryz.func123,Tryz.ntmps123
 go_wp2_with fail
 go_at_call 147
 refine (size_no b _ (unhide H)).mono ?_
 rintro e w' ⟨rfl,rfl⟩
 go_wp2
 change bodyPost _ _ _ _ _ (w.alloc (.cells (Pc zeroP) 23))
 obtain ⟨hA,hW⟩:=unhide HZ
 generalize w.alloc (.cells (Pc zeroP) 23)=wf at *
 refine bodyPost_ret (v:=.tuple #[PvN zeroP,.int .i64 1]) ?_ rfl ⟨rfl,hW⟩
 simp [results,Tryz.results123,go_sem,hA.cell 0 (by omega),hA.cell 1 (by omega),hA.cell 2 (by omega),hA.cell 3 (by omega),hA.cell 4 (by omega),hA.cell 5 (by omega),hA.cell 6 (by omega),hA.cell 7 (by omega),hA.cell 8 (by omega),hA.cell 9 (by omega),hA.cell 10 (by omega),hA.cell 11 (by omega)]

theorem refMake_no0 (b bl ino lg:Int) (w:World) (h:isSize b)  (n0:bl < 1) :
  Calls Tryz.prog 123 #[.int .i64 b,.int .i64 bl,.int .i64 ino,.int .i64 lg] w fun r w'=>r=.returned (.tuple #[PvN zeroP,.int .i64 1])∧Below w.heap.size w w':=by
 have H:=hide h
 have HZ:=hide (zero_new w)
 clear h
 go_enter Tryz.func123,Tryz.ntmps123
 go_wp2_with fail
 go_at_call 147
 refine (size_yes b _ (unhide H)).mono ?_
 rintro e w' ⟨rfl,rfl⟩
 go_wp2
 change bodyPost _ _ _ _ _ (w.alloc (.cells (Pc zeroP) 23))
 obtain ⟨hA,hW⟩:=unhide HZ
 generalize w.alloc (.cells (Pc zeroP) 23)=wf at *
 refine bodyPost_ret (v:=.tuple #[PvN zeroP,.int .i64 1]) ?_ rfl ⟨rfl,hW⟩
 simp [results,Tryz.results123,go_sem,hA.cell 0 (by omega),hA.cell 1 (by omega),hA.cell 2 (by omega),hA.cell 3 (by omega),hA.cell 4 (by omega),hA.cell 5 (by omega),hA.cell 6 (by omega),hA.cell 7 (by omega),hA.cell 8 (by omega),hA.cell 9 (by omega),hA.cell 10 (by omega),hA.cell 11 (by omega)]

theorem refMake_no1 (b bl ino lg:Int) (w:World) (h:isSize b) (n0:¬ bl < 1) (n1:4096 < bl) :
  Calls Tryz.prog 123 #[.int .i64 b,.int .i64 bl,.int .i64 ino,.int .i64 lg] w fun r w'=>r=.returned (.tuple #[PvN zeroP,.int .i64 1])∧Below w.heap.size w w':=by
 have H:=hide h
 have HZ:=hide (zero_new w)
 clear h
 go_enter Tryz.func123,Tryz.ntmps123
 go_wp2_with fail
 go_at_call 147
 refine (size_yes b _ (unhide H)).mono ?_
 rintro e w' ⟨rfl,rfl⟩
 go_wp2
 change bodyPost _ _ _ _ _ (w.alloc (.cells (Pc zeroP) 23))
 obtain ⟨hA,hW⟩:=unhide HZ
 generalize w.alloc (.cells (Pc zeroP) 23)=wf at *
 refine bodyPost_ret (v:=.tuple #[PvN zeroP,.int .i64 1]) ?_ rfl ⟨rfl,hW⟩
 simp [results,Tryz.results123,go_sem,hA.cell 0 (by omega),hA.cell 1 (by omega),hA.cell 2 (by omega),hA.cell 3 (by omega),hA.cell 4 (by omega),hA.cell 5 (by omega),hA.cell 6 (by omega),hA.cell 7 (by omega),hA.cell 8 (by omega),hA.cell 9 (by omega),hA.cell 10 (by omega),hA.cell 11 (by omega)]

theorem refMake_no2 (b bl ino lg:Int) (w:World) (h:isSize b) (n0:¬ bl < 1) (n1:¬ 4096 < bl) (n2:ino < 2) :
  Calls Tryz.prog 123 #[.int .i64 b,.int .i64 bl,.int .i64 ino,.int .i64 lg] w fun r w'=>r=.returned (.tuple #[PvN zeroP,.int .i64 1])∧Below w.heap.size w w':=by
 have H:=hide h
 have HZ:=hide (zero_new w)
 clear h
 go_enter Tryz.func123,Tryz.ntmps123
 go_wp2_with fail
 go_at_call 147
 refine (size_yes b _ (unhide H)).mono ?_
 rintro e w' ⟨rfl,rfl⟩
 go_wp2
 change bodyPost _ _ _ _ _ (w.alloc (.cells (Pc zeroP) 23))
 obtain ⟨hA,hW⟩:=unhide HZ
 generalize w.alloc (.cells (Pc zeroP) 23)=wf at *
 refine bodyPost_ret (v:=.tuple #[PvN zeroP,.int .i64 1]) ?_ rfl ⟨rfl,hW⟩
 simp [results,Tryz.results123,go_sem,hA.cell 0 (by omega),hA.cell 1 (by omega),hA.cell 2 (by omega),hA.cell 3 (by omega),hA.cell 4 (by omega),hA.cell 5 (by omega),hA.cell 6 (by omega),hA.cell 7 (by omega),hA.cell 8 (by omega),hA.cell 9 (by omega),hA.cell 10 (by omega),hA.cell 11 (by omega)]

theorem refMake_no3 (b bl ino lg:Int) (w:World) (h:isSize b) (n0:¬ bl < 1) (n1:¬ 4096 < bl) (n2:¬ ino < 2) (n3:1024 < ino) :
  Calls Tryz.prog 123 #[.int .i64 b,.int .i64 bl,.int .i64 ino,.int .i64 lg] w fun r w'=>r=.returned (.tuple #[PvN zeroP,.int .i64 1])∧Below w.heap.size w w':=by
 have H:=hide h
 have HZ:=hide (zero_new w)
 clear h
 go_enter Tryz.func123,Tryz.ntmps123
 go_wp2_with fail
 go_at_call 147
 refine (size_yes b _ (unhide H)).mono ?_
 rintro e w' ⟨rfl,rfl⟩
 go_wp2
 change bodyPost _ _ _ _ _ (w.alloc (.cells (Pc zeroP) 23))
 obtain ⟨hA,hW⟩:=unhide HZ
 generalize w.alloc (.cells (Pc zeroP) 23)=wf at *
 refine bodyPost_ret (v:=.tuple #[PvN zeroP,.int .i64 1]) ?_ rfl ⟨rfl,hW⟩
 simp [results,Tryz.results123,go_sem,hA.cell 0 (by omega),hA.cell 1 (by omega),hA.cell 2 (by omega),hA.cell 3 (by omega),hA.cell 4 (by omega),hA.cell 5 (by omega),hA.cell 6 (by omega),hA.cell 7 (by omega),hA.cell 8 (by omega),hA.cell 9 (by omega),hA.cell 10 (by omega),hA.cell 11 (by omega)]

theorem refMake_no4 (b bl ino lg:Int) (w:World) (h:isSize b) (n0:¬ bl < 1) (n1:¬ 4096 < bl) (n2:¬ ino < 2) (n3:¬ 1024 < ino) (n4:lg < 4) :
  Calls Tryz.prog 123 #[.int .i64 b,.int .i64 bl,.int .i64 ino,.int .i64 lg] w fun r w'=>r=.returned (.tuple #[PvN zeroP,.int .i64 1])∧Below w.heap.size w w':=by
 have H:=hide h
 have HZ:=hide (zero_new w)
 clear h
 go_enter Tryz.func123,Tryz.ntmps123
 go_wp2_with fail
 go_at_call 147
 refine (size_yes b _ (unhide H)).mono ?_
 rintro e w' ⟨rfl,rfl⟩
 go_wp2
 change bodyPost _ _ _ _ _ (w.alloc (.cells (Pc zeroP) 23))
 obtain ⟨hA,hW⟩:=unhide HZ
 generalize w.alloc (.cells (Pc zeroP) 23)=wf at *
 refine bodyPost_ret (v:=.tuple #[PvN zeroP,.int .i64 1]) ?_ rfl ⟨rfl,hW⟩
 simp [results,Tryz.results123,go_sem,hA.cell 0 (by omega),hA.cell 1 (by omega),hA.cell 2 (by omega),hA.cell 3 (by omega),hA.cell 4 (by omega),hA.cell 5 (by omega),hA.cell 6 (by omega),hA.cell 7 (by omega),hA.cell 8 (by omega),hA.cell 9 (by omega),hA.cell 10 (by omega),hA.cell 11 (by omega)]

theorem refMake_no5 (b bl ino lg:Int) (w:World) (h:isSize b) (n0:¬ bl < 1) (n1:¬ 4096 < bl) (n2:¬ ino < 2) (n3:¬ 1024 < ino) (n4:¬ lg < 4) (n5:512 < lg) :
  Calls Tryz.prog 123 #[.int .i64 b,.int .i64 bl,.int .i64 ino,.int .i64 lg] w fun r w'=>r=.returned (.tuple #[PvN zeroP,.int .i64 1])∧Below w.heap.size w w':=by
 have H:=hide h
 have HZ:=hide (zero_new w)
 clear h
 go_enter Tryz.func123,Tryz.ntmps123
 go_wp2_with fail
 go_at_call 147
 refine (size_yes b _ (unhide H)).mono ?_
 rintro e w' ⟨rfl,rfl⟩
 go_wp2
 change bodyPost _ _ _ _ _ (w.alloc (.cells (Pc zeroP) 23))
 obtain ⟨hA,hW⟩:=unhide HZ
 generalize w.alloc (.cells (Pc zeroP) 23)=wf at *
 refine bodyPost_ret (v:=.tuple #[PvN zeroP,.int .i64 1]) ?_ rfl ⟨rfl,hW⟩
 simp [results,Tryz.results123,go_sem,hA.cell 0 (by omega),hA.cell 1 (by omega),hA.cell 2 (by omega),hA.cell 3 (by omega),hA.cell 4 (by omega),hA.cell 5 (by omega),hA.cell 6 (by omega),hA.cell 7 (by omega),hA.cell 8 (by omega),hA.cell 9 (by omega),hA.cell 10 (by omega),hA.cell 11 (by omega)]

theorem refMake_bad (b bl ino lg:Int) (w:World) (h:badArg b bl ino lg) :
  Calls Tryz.prog 123 #[.int .i64 b,.int .i64 bl,.int .i64 ino,.int .i64 lg] w fun r w'=>r=.returned (.tuple #[PvN zeroP,.int .i64 1])∧Below w.heap.size w w':=by
 by_cases hs:isSize b
 ·by_cases n0:bl < 1
  ·exact refMake_no0 b bl ino lg w hs n0
  ·by_cases n1:4096 < bl
   ·exact refMake_no1 b bl ino lg w hs n0 n1
   ·by_cases n2:ino < 2
    ·exact refMake_no2 b bl ino lg w hs n0 n1 n2
    ·by_cases n3:1024 < ino
     ·exact refMake_no3 b bl ino lg w hs n0 n1 n2 n3
     ·by_cases n4:lg < 4
      ·exact refMake_no4 b bl ino lg w hs n0 n1 n2 n3 n4
      ·by_cases n5:512 < lg
       ·exact refMake_no5 b bl ino lg w hs n0 n1 n2 n3 n4 n5
       ·exfalso
        unfold badArg at h
        rcases h with h | h | h | h
        ·exact h hs
        ·omega
        ·omega
        ·omega
 ·exact refMake_no b bl ino lg w hs

theorem refMake_large (b bl ino lg:Int) (w:World) (h:¬ badArg b bl ino lg) (hx:1048576 < b * bl) :
  Calls Tryz.prog 123 #[.int .i64 b,.int .i64 bl,.int .i64 ino,.int .i64 lg] w fun r w'=>r=.returned (.tuple #[PvN zeroP,.int .i64 5])∧Below w.heap.size w w':=by
 have H:=hide (good_arg h)
 have HZ:=hide (zero_new w)
 clear h
 obtain ⟨m,hm⟩:∃ m,b * bl=m:=⟨_,rfl⟩
 rw [hm] at hx
 have q1:IntKind.i64.wrap (b * bl)=m:=by
  have h1:=size_bd (unhide H).1
  have h2:=(unhide H).2.1
  have h3:=prod_bd h1 (bl:=bl) (by omega)
  rw [hm] at *
  rw [IntKind.wrap_i64]; omega
 clear hm
 have n0:¬ bl < 1:=by have:=(unhide H).2.1; omega
 have n1:¬ 4096 < bl:=by have:=(unhide H).2.1; omega
 have n2:¬ ino < 2:=by have:=(unhide H).2.2.1; omega
 have n3:¬ 1024 < ino:=by have:=(unhide H).2.2.1; omega
 have n4:¬ lg < 4:=by have:=(unhide H).2.2.2; omega
 have n5:¬ 512 < lg:=by have:=(unhide H).2.2.2; omega
 go_enter Tryz.func123,Tryz.ntmps123
 go_wp2_with fail
 go_at_call 147
 refine (size_yes b _ (unhide H).1).mono ?_
 rintro e w' ⟨rfl,rfl⟩
 go_wp2
 change bodyPost _ _ _ _ _ (w.alloc (.cells (Pc zeroP) 23))
 obtain ⟨hA,hW⟩:=unhide HZ
 generalize w.alloc (.cells (Pc zeroP) 23)=wf at *
 refine bodyPost_ret (v:=.tuple #[PvN zeroP,.int .i64 5]) ?_ rfl ⟨rfl,hW⟩
 simp [results,Tryz.results123,go_sem,hA.cell 0 (by omega),hA.cell 1 (by omega),hA.cell 2 (by omega),hA.cell 3 (by omega),hA.cell 4 (by omega),hA.cell 5 (by omega),hA.cell 6 (by omega),hA.cell 7 (by omega),hA.cell 8 (by omega),hA.cell 9 (by omega),hA.cell 10 (by omega),hA.cell 11 (by omega)]

theorem blocksFor_cd (n e c:Int) (h:cd n e=c) (w:World) (hn:0 ≤ n∧n ≤ 1099511627776) (he:1 ≤ e∧e ≤ 1099511627776) :
  Calls Tryz.prog 148 #[.int .i64 n,.int .i64 e] w fun r w'=>r=.returned (.int .i64 c)∧w=w':=by
 subst h
 exact blocksFor_any n e w hn he

def planC (b bl ino lg c1 c2 c3:Int):Nat→Int
 | 0=>b | 1=>bl | 2=>ino | 3=>lg | 4=>2 | 5=>2 + lg | 6=>c1 | 7=>2 + lg + c1 | 8=>c2 | 9=>2 + lg + c1 + c2
 | 10=>c3 | 11=>2 + lg + c1 + c2 + c3 | _=>0

theorem planC_eq (b bl ino lg:Int):planOf b bl ino lg=planC b bl ino lg (cd ino (8 * b)) (cd bl (8 * b)) (cd ino (b / 32)):=rfl

theorem refMake_small (b bl ino lg q c1 c2 c3:Int) (w:World) (h:¬ badArg b bl ino lg) (hx:¬ 1048576 < b * bl) (hq:b / 32=q) (h1:cd ino (8 * b)=c1) (h2:cd bl (8 * b)=c2) (h3:cd ino q=c3) (hc:bl ≤ 2 + lg + c1 + c2 + c3) :
  Calls Tryz.prog 123 #[.int .i64 b,.int .i64 bl,.int .i64 ino,.int .i64 lg] w fun r w'=>r=.returned (.tuple #[PvN zeroP,.int .i64 6])∧Below w.heap.size w w':=by
 have H:=hide (good_arg h)
 have HZ:=hide (zero_new w)
 clear h
 have hb:=size_bd (unhide H).1
 obtain ⟨m,hm⟩:∃ m,b * bl=m:=⟨_,rfl⟩
 rw [hm] at hx
 have q1:IntKind.i64.wrap (b * bl)=m:=by
  have h2:=(unhide H).2.1
  have h3:=prod_bd hb (bl:=bl) (by omega)
  rw [hm] at *
  rw [IntKind.wrap_i64]; omega
 clear hm
 have n0:¬ bl < 1:=by have:=(unhide H).2.1; omega
 have n1:¬ 4096 < bl:=by have:=(unhide H).2.1; omega
 have n2:¬ ino < 2:=by have:=(unhide H).2.2.1; omega
 have n3:¬ 1024 < ino:=by have:=(unhide H).2.2.1; omega
 have n4:¬ lg < 4:=by have:=(unhide H).2.2.2; omega
 have n5:¬ 512 < lg:=by have:=(unhide H).2.2.2; omega
 have k1:0 ≤ c1∧c1 ≤ 4096:=by rw [← h1]; exact cd_bd _ _ (by omega) (by omega)
 have k2:0 ≤ c2∧c2 ≤ 4096:=by rw [← h2]; exact cd_bd _ _ (by omega) (by omega)
 have k3:0 ≤ c3∧c3 ≤ 4096:=by rw [← h3]; exact cd_bd _ _ (by omega) (by omega)
 have HX:Hid (2 ≤ q∧q ≤ 128):=hide (by omega)
 have H1:=hide h1
 have H2:=hide h2
 have H3:=hide h3
 have HQ:=hide hq
 clear h1 h2 h3 hq
 go_enter Tryz.func123,Tryz.ntmps123
 go_wp2_with fail
 go_at_call 147
 refine (size_yes b _ (unhide H).1).mono ?_
 rintro e w' ⟨rfl,rfl⟩
 go_wp2_with fail
 go_at_call 148
 refine (blocksFor_cd _ _ c1 (unhide H1) _ (by omega) (by omega)).mono ?_
 rintro e w' ⟨rfl,rfl⟩
 go_wp2_with fail
 go_at_call 148
 refine (blocksFor_cd _ _ c2 (unhide H2) _ (by omega) (by omega)).mono ?_
 rintro e w' ⟨rfl,rfl⟩
 go_wp2_with fail
 go_at_call 148
 rw [unhide HQ]
 refine (blocksFor_cd _ _ c3 (unhide H3) _ (by omega) (by have:=unhide HX; omega)).mono ?_
 rintro e w' ⟨rfl,rfl⟩
 go_wp2
 change bodyPost _ _ _ _ _ ((w.alloc (.cells (Pc zeroP) 23)).alloc (.cells (Pc (planC b bl ino lg c1 c2 c3)) 23))
 have hA:R12 ((w.alloc (.cells (Pc zeroP) 23)).alloc (.cells (Pc (planC b bl ino lg c1 c2 c3)) 23)) w.heap.size zeroP:=(R12.new w _).alloc _
 have hW:Below w.heap.size w ((w.alloc (.cells (Pc zeroP) 23)).alloc (.cells (Pc (planC b bl ino lg c1 c2 c3)) 23)):=((Below.refl _ _).alloc (Nat.le_refl _) _).alloc (by simp) _
 generalize (w.alloc (.cells (Pc zeroP) 23)).alloc (.cells (Pc (planC b bl ino lg c1 c2 c3)) 23)=wf at *
 refine bodyPost_ret (v:=.tuple #[PvN zeroP,.int .i64 6]) ?_ rfl ⟨rfl,hW⟩
 simp [results,Tryz.results123,go_sem,hA.cell 0 (by omega),hA.cell 1 (by omega),hA.cell 2 (by omega),hA.cell 3 (by omega),hA.cell 4 (by omega),hA.cell 5 (by omega),hA.cell 6 (by omega),hA.cell 7 (by omega),hA.cell 8 (by omega),hA.cell 9 (by omega),hA.cell 10 (by omega),hA.cell 11 (by omega)]

theorem refMake_ok (b bl ino lg q c1 c2 c3:Int) (w:World) (h:¬ badArg b bl ino lg) (hx:¬ 1048576 < b * bl) (hq:b / 32=q) (h1:cd ino (8 * b)=c1) (h2:cd bl (8 * b)=c2) (h3:cd ino q=c3) (hc:¬ bl ≤ 2 + lg + c1 + c2 + c3) :
  Calls Tryz.prog 123 #[.int .i64 b,.int .i64 bl,.int .i64 ino,.int .i64 lg] w fun r w'=>r=.returned (.tuple #[PvN (planC b bl ino lg c1 c2 c3),.int .i64 0])∧Below w.heap.size w w':=by
 have H:=hide (good_arg h)
 have HZ:=hide (zero_new w)
 clear h
 have hb:=size_bd (unhide H).1
 obtain ⟨m,hm⟩:∃ m,b * bl=m:=⟨_,rfl⟩
 rw [hm] at hx
 have q1:IntKind.i64.wrap (b * bl)=m:=by
  have h2:=(unhide H).2.1
  have h3:=prod_bd hb (bl:=bl) (by omega)
  rw [hm] at *
  rw [IntKind.wrap_i64]; omega
 clear hm
 have n0:¬ bl < 1:=by have:=(unhide H).2.1; omega
 have n1:¬ 4096 < bl:=by have:=(unhide H).2.1; omega
 have n2:¬ ino < 2:=by have:=(unhide H).2.2.1; omega
 have n3:¬ 1024 < ino:=by have:=(unhide H).2.2.1; omega
 have n4:¬ lg < 4:=by have:=(unhide H).2.2.2; omega
 have n5:¬ 512 < lg:=by have:=(unhide H).2.2.2; omega
 have k1:0 ≤ c1∧c1 ≤ 4096:=by rw [← h1]; exact cd_bd _ _ (by omega) (by omega)
 have k2:0 ≤ c2∧c2 ≤ 4096:=by rw [← h2]; exact cd_bd _ _ (by omega) (by omega)
 have k3:0 ≤ c3∧c3 ≤ 4096:=by rw [← h3]; exact cd_bd _ _ (by omega) (by omega)
 have HX:Hid (2 ≤ q∧q ≤ 128):=hide (by omega)
 have H1:=hide h1
 have H2:=hide h2
 have H3:=hide h3
 have HQ:=hide hq
 clear h1 h2 h3 hq
 go_enter Tryz.func123,Tryz.ntmps123
 go_wp2_with fail
 go_at_call 147
 refine (size_yes b _ (unhide H).1).mono ?_
 rintro e w' ⟨rfl,rfl⟩
 go_wp2_with fail
 go_at_call 148
 refine (blocksFor_cd _ _ c1 (unhide H1) _ (by omega) (by omega)).mono ?_
 rintro e w' ⟨rfl,rfl⟩
 go_wp2_with fail
 go_at_call 148
 refine (blocksFor_cd _ _ c2 (unhide H2) _ (by omega) (by omega)).mono ?_
 rintro e w' ⟨rfl,rfl⟩
 go_wp2_with fail
 go_at_call 148
 rw [unhide HQ]
 refine (blocksFor_cd _ _ c3 (unhide H3) _ (by omega) (by have:=unhide HX; omega)).mono ?_
 rintro e w' ⟨rfl,rfl⟩
 go_wp2
 change bodyPost _ _ _ _ _ ((w.alloc (.cells (Pc (planC b bl ino lg c1 c2 c3)) 23)).alloc (.cells (Pc (planC b bl ino lg c1 c2 c3)) 23))
 have hA:R12 ((w.alloc (.cells (Pc (planC b bl ino lg c1 c2 c3)) 23)).alloc (.cells (Pc (planC b bl ino lg c1 c2 c3)) 23)) w.heap.size (planC b bl ino lg c1 c2 c3):=(R12.new w _).alloc _
 have hW:Below w.heap.size w ((w.alloc (.cells (Pc (planC b bl ino lg c1 c2 c3)) 23)).alloc (.cells (Pc (planC b bl ino lg c1 c2 c3)) 23)):=((Below.refl _ _).alloc (Nat.le_refl _) _).alloc (by simp) _
 generalize (w.alloc (.cells (Pc (planC b bl ino lg c1 c2 c3)) 23)).alloc (.cells (Pc (planC b bl ino lg c1 c2 c3)) 23)=wf at *
 refine bodyPost_ret (v:=.tuple #[PvN (planC b bl ino lg c1 c2 c3),.int .i64 0]) ?_ rfl ⟨rfl,hW⟩
 simp [results,Tryz.results123,go_sem,hA.cell 0 (by omega),hA.cell 1 (by omega),hA.cell 2 (by omega),hA.cell 3 (by omega),hA.cell 4 (by omega),hA.cell 5 (by omega),hA.cell 6 (by omega),hA.cell 7 (by omega),hA.cell 8 (by omega),hA.cell 9 (by omega),hA.cell 10 (by omega),hA.cell 11 (by omega)]

theorem refMake_any (b bl ino lg:Int) (w:World) :
  Calls Tryz.prog 123 #[.int .i64 b,.int .i64 bl,.int .i64 ino,.int .i64 lg] w fun r w'=>r=.returned (.tuple #[PvN (makeP b bl ino lg),.int .i64 (makeE b bl ino lg)])∧Below w.heap.size w w':=by
 by_cases h:badArg b bl ino lg
 ·rw [makeP_zero (by rw [makeE_bad h]; omega),makeE_bad h]
  exact refMake_bad b bl ino lg w h
 ·by_cases h1:1048576 < b * bl
  ·rw [makeP_zero (by rw [makeE_large h h1]; omega),makeE_large h h1]
   exact refMake_large b bl ino lg w h h1
  ·by_cases h2:bl ≤ planOf b bl ino lg 11
   ·rw [makeP_zero (by rw [makeE_small h h1 h2]; omega),makeE_small h h1 h2]
    exact refMake_small b bl ino lg _ _ _ _ w h h1 rfl rfl rfl rfl h2
   ·rw [makeP_ok (makeE_ok h h1 h2),makeE_ok h h1 h2,planC_eq]
    exact refMake_ok b bl ino lg _ _ _ _ w h h1 rfl rfl rfl rfl h2

end Go.Proofs.YtknmgefpjdfenaaGreat

/- The contracts of Check. -/
namespace Go.Proofs.YtknmgefpjdfenaaGreat
set_option maxRecDepth 100000
set_option maxHeartbeats 8000000
open Go.RowKit Go.Shelf
set_option linter.unusedVariables false

def same12 (P Q:Nat→Int):Bool:=(List.range 12).all (fun k=>P k == Q k)

theorem same12_iff {P Q:Nat→Int}:same12 P Q=true ↔ ∀ k,k < 12→P k=Q k:=by simp [same12]

def checkE (P:Nat→Int):Int:=if makeE (P 0) (P 1) (P 2) (P 3)=0∧same12 (makeP (P 0) (P 1) (P 2) (P 3)) P=true then 0 else 4

theorem checkE_ok {P:Nat→Int} (h1:makeE (P 0) (P 1) (P 2) (P 3)=0) (h2:∀ k,k < 12→makeP (P 0) (P 1) (P 2) (P 3) k=P k):checkE P=0:=by rw [checkE,if_pos ⟨h1,same12_iff.2 h2⟩]
theorem checkE_other {P:Nat→Int} (h2:¬ ∀ k,k < 12→makeP (P 0) (P 1) (P 2) (P 3) k=P k):checkE P=4:=by rw [checkE,if_neg (fun h=>h2 (same12_iff.1 h.2))]
theorem checkE_bad {P:Nat→Int} (h1:makeE (P 0) (P 1) (P 2) (P 3) ≠ 0):checkE P=4:=by rw [checkE,if_neg (fun h=>h1 h.1)]
theorem checkE_two (P:Nat→Int):checkE P=0 ∨ checkE P=4:=by
 unfold checkE
 split
 ·exact .inl rfl
 ·exact .inr rfl

theorem check_err (P Q:Nat→Int) (e:Int) (w:World) (he:e ≠ 0) (H1:Hid (∀ u:World,Calls Tryz.prog 118 #[.int .i64 (P 0),.int .i64 (P 1),.int .i64 (P 2),.int .i64 (P 3)] u fun r w'=>r=.returned (.tuple #[PvN Q,.int .i64 e])∧Below u.heap.size u w')) :
  Calls Tryz.prog 100 #[PvN P] w fun r w'=>r=.returned (.int .i64 4)∧Below w.heap.size w w':=by
 go_enter Tryz.func100,Tryz.ntmps100
 go_wp2_with fail
 go_at_call 118
 refine (unhide H1 _).mono ?_
 rintro r w1 ⟨rfl,hb⟩
 have HB:=hide (((Below.refl w.heap.size w).alloc (Nat.le_refl _) (.cells (Pc P) 23)).trans (hb.mono (by simp)))
 clear hb H1
 go_wp2
 go_ret
 exact ⟨rfl,(unhide HB).alloc (unhide HB).size _⟩

theorem check_cmp (P Q:Nat→Int) (b:Bool) (w:World) (H1:Hid (∀ u:World,Calls Tryz.prog 118 #[.int .i64 (P 0),.int .i64 (P 1),.int .i64 (P 2),.int .i64 (P 3)] u fun r w'=>r=.returned (.tuple #[PvN Q,.int .i64 0])∧Below u.heap.size u w'))
  (hne:∀ u:World,(binOp .neq 23 (PvN Q) (PvN P)).run Tryz.prog u=.ok (.bool b) u) :
  Calls Tryz.prog 100 #[PvN P] w fun r w'=>r=.returned (.int .i64 (if b then 4 else 0))∧Below w.heap.size w w':=by
 go_enter Tryz.func100,Tryz.ntmps100
 go_wp2_with fail
 go_at_call 118
 refine (unhide H1 _).mono ?_
 rintro r w1 ⟨rfl,hb⟩
 have HR:=hide (((R12.new w P).below hb (R12.new w P).lt).alloc (.cells (Pc Q) 23))
 have HB:=hide ((((Below.refl w.heap.size w).alloc (Nat.le_refl _) (.cells (Pc P) 23)).trans (hb.mono (by simp))).alloc (by have:=hb.size; simp at this; omega) (.cells (Pc Q) 23))
 clear hb H1
 go_upto_region 2 with fail
 change Code.wp _ _ _ _ (w1.alloc (.cells (Pc Q) 23))
 have HQ:=hide (R12.new w1 Q)
 generalize w1.alloc (.cells (Pc Q) 23)=wx at *
 have f0:=(unhide HR).cell 0 (by omega)
 have f1:=(unhide HR).cell 1 (by omega)
 have f2:=(unhide HR).cell 2 (by omega)
 have f3:=(unhide HR).cell 3 (by omega)
 have f4:=(unhide HR).cell 4 (by omega)
 have f5:=(unhide HR).cell 5 (by omega)
 have f6:=(unhide HR).cell 6 (by omega)
 have f7:=(unhide HR).cell 7 (by omega)
 have f8:=(unhide HR).cell 8 (by omega)
 have f9:=(unhide HR).cell 9 (by omega)
 have f10:=(unhide HR).cell 10 (by omega)
 have f11:=(unhide HR).cell 11 (by omega)
 have g0:=(unhide HQ).cell 0 (by omega)
 have g1:=(unhide HQ).cell 1 (by omega)
 have g2:=(unhide HQ).cell 2 (by omega)
 have g3:=(unhide HQ).cell 3 (by omega)
 have g4:=(unhide HQ).cell 4 (by omega)
 have g5:=(unhide HQ).cell 5 (by omega)
 have g6:=(unhide HQ).cell 6 (by omega)
 have g7:=(unhide HQ).cell 7 (by omega)
 have g8:=(unhide HQ).cell 8 (by omega)
 have g9:=(unhide HQ).cell 9 (by omega)
 have g10:=(unhide HQ).cell 10 (by omega)
 have g11:=(unhide HQ).cell 11 (by omega)
 cases b
 ·go_wp2
  go_ret
  exact ⟨rfl,unhide HB⟩
 ·go_wp2
  go_ret
  exact ⟨rfl,unhide HB⟩

theorem check_any (P:Nat→Int) (w:World):Calls Tryz.prog 100 #[PvN P] w fun r w'=>r=.returned (.int .i64 (checkE P))∧Below w.heap.size w w':=by
 have h1:∀ u:World,Calls Tryz.prog 118 #[.int .i64 (P 0),.int .i64 (P 1),.int .i64 (P 2),.int .i64 (P 3)] u fun r w'=>r=.returned (.tuple #[PvN (makeP (P 0) (P 1) (P 2) (P 3)),.int .i64 (makeE (P 0) (P 1) (P 2) (P 3))])∧Below u.heap.size u w':=make_any (P 0) (P 1) (P 2) (P 3)
 by_cases he:makeE (P 0) (P 1) (P 2) (P 3)=0
 ·rw [he] at h1
  by_cases hk:∀ k,k < 12→makeP (P 0) (P 1) (P 2) (P 3) k=P k
  ·rw [checkE_ok he hk]
   exact check_cmp P _ false w h1 (neq_plan_no hk)
  ·rw [checkE_other hk]
   exact check_cmp P _ true w h1 (neq_plan_yes hk)
 ·rw [checkE_bad he]
  exact check_err P _ _ w he h1

theorem refCheck_err (P Q:Nat→Int) (e:Int) (w:World) (he:e ≠ 0) (H1:Hid (∀ u:World,Calls Tryz.prog 123 #[.int .i64 (P 0),.int .i64 (P 1),.int .i64 (P 2),.int .i64 (P 3)] u fun r w'=>r=.returned (.tuple #[PvN Q,.int .i64 e])∧Below u.heap.size u w')) :
  Calls Tryz.prog 108 #[PvN P] w fun r w'=>r=.returned (.int .i64 4)∧Below w.heap.size w w':=by
 go_enter Tryz.func108,Tryz.ntmps108
 go_wp2_with fail
 go_at_call 123
 refine (unhide H1 _).mono ?_
 rintro r w1 ⟨rfl,hb⟩
 have HB:=hide (((Below.refl w.heap.size w).alloc (Nat.le_refl _) (.cells (Pc P) 23)).trans (hb.mono (by simp)))
 clear hb H1
 go_wp2
 go_ret
 exact ⟨rfl,(unhide HB).alloc (unhide HB).size _⟩

theorem refCheck_cmp (P Q:Nat→Int) (b:Bool) (w:World) (H1:Hid (∀ u:World,Calls Tryz.prog 123 #[.int .i64 (P 0),.int .i64 (P 1),.int .i64 (P 2),.int .i64 (P 3)] u fun r w'=>r=.returned (.tuple #[PvN Q,.int .i64 0])∧Below u.heap.size u w'))
  (hne:∀ u:World,(binOp .neq 23 (PvN P) (PvN Q)).run Tryz.prog u=.ok (.bool b) u) :
  Calls Tryz.prog 108 #[PvN P] w fun r w'=>r=.returned (.int .i64 (if b then 4 else 0))∧Below w.heap.size w w':=by
 go_enter Tryz.func108,Tryz.ntmps108
 go_wp2_with fail
 go_at_call 123
 refine (unhide H1 _).mono ?_
 rintro r w1 ⟨rfl,hb⟩
 have HR:=hide (((R12.new w P).below hb (R12.new w P).lt).alloc (.cells (Pc Q) 23))
 have HB:=hide ((((Below.refl w.heap.size w).alloc (Nat.le_refl _) (.cells (Pc P) 23)).trans (hb.mono (by simp))).alloc (by have:=hb.size; simp at this; omega) (.cells (Pc Q) 23))
 clear hb H1
 go_upto_region 2 with fail
 change Code.wp _ _ _ _ (w1.alloc (.cells (Pc Q) 23))
 have HQ:=hide (R12.new w1 Q)
 generalize w1.alloc (.cells (Pc Q) 23)=wx at *
 have f0:=(unhide HR).cell 0 (by omega)
 have f1:=(unhide HR).cell 1 (by omega)
 have f2:=(unhide HR).cell 2 (by omega)
 have f3:=(unhide HR).cell 3 (by omega)
 have f4:=(unhide HR).cell 4 (by omega)
 have f5:=(unhide HR).cell 5 (by omega)
 have f6:=(unhide HR).cell 6 (by omega)
 have f7:=(unhide HR).cell 7 (by omega)
 have f8:=(unhide HR).cell 8 (by omega)
 have f9:=(unhide HR).cell 9 (by omega)
 have f10:=(unhide HR).cell 10 (by omega)
 have f11:=(unhide HR).cell 11 (by omega)
 have g0:=(unhide HQ).cell 0 (by omega)
 have g1:=(unhide HQ).cell 1 (by omega)
 have g2:=(unhide HQ).cell 2 (by omega)
 have g3:=(unhide HQ).cell 3 (by omega)
 have g4:=(unhide HQ).cell 4 (by omega)
 have g5:=(unhide HQ).cell 5 (by omega)
 have g6:=(unhide HQ).cell 6 (by omega)
 have g7:=(unhide HQ).cell 7 (by omega)
 have g8:=(unhide HQ).cell 8 (by omega)
 have g9:=(unhide HQ).cell 9 (by omega)
 have g10:=(unhide HQ).cell 10 (by omega)
 have g11:=(unhide HQ).cell 11 (by omega)
 cases b
 ·go_wp2
  go_ret
  exact ⟨rfl,unhide HB⟩
 ·go_wp2
  go_ret
  exact ⟨rfl,unhide HB⟩

theorem refCheck_any (P:Nat→Int) (w:World):Calls Tryz.prog 108 #[PvN P] w fun r w'=>r=.returned (.int .i64 (checkE P))∧Below w.heap.size w w':=by
 have h1:∀ u:World,Calls Tryz.prog 123 #[.int .i64 (P 0),.int .i64 (P 1),.int .i64 (P 2),.int .i64 (P 3)] u fun r w'=>r=.returned (.tuple #[PvN (makeP (P 0) (P 1) (P 2) (P 3)),.int .i64 (makeE (P 0) (P 1) (P 2) (P 3))])∧Below u.heap.size u w':=refMake_any (P 0) (P 1) (P 2) (P 3)
 by_cases he:makeE (P 0) (P 1) (P 2) (P 3)=0
 ·rw [he] at h1
  by_cases hk:∀ k,k < 12→makeP (P 0) (P 1) (P 2) (P 3) k=P k
  ·rw [checkE_ok he hk]
   exact refCheck_cmp P _ false w h1 (neq_plan_no (fun k h=>(hk k h).symm))
  ·rw [checkE_other hk]
   exact refCheck_cmp P _ true w h1 (neq_plan_yes (fun h=>hk (fun k h1=>(h k h1).symm)))
 ·rw [checkE_bad he]
  exact refCheck_err P _ _ w he h1

end Go.Proofs.YtknmgefpjdfenaaGreat

/- What a sound plan is. -/
namespace Go.Proofs.YtknmgefpjdfenaaGreat
set_option maxRecDepth 100000
set_option maxHeartbeats 8000000
open Go.RowKit Go.Shelf
set_option linter.unusedVariables false

theorem below_drewN {n:Nat} {w w':World} (h:Below n w w') (m:Nat):Below n w (w'.drewN m):=⟨h.os,h.tape,h.output,h.size,h.block⟩

structure Sound (P:Nat→Int):Prop where
 size:isSize (P 0)
 blocks:1 ≤ P 1∧P 1 ≤ 4096
 inodes:2 ≤ P 2∧P 2 ≤ 1024
 log:4 ≤ P 3∧P 3 ≤ 512
 bytes:P 0 * P 1 ≤ 1048576
 p4:P 4=2
 p5:P 5=2 + P 3
 p6:P 6=cd (P 2) (8 * P 0)
 p7:P 7=2 + P 3 + P 6
 p8:P 8=cd (P 1) (8 * P 0)
 p9:P 9=2 + P 3 + P 6 + P 8
 p10:P 10=cd (P 2) (P 0 / 32)
 p11:P 11=2 + P 3 + P 6 + P 8 + P 10
 data:P 11 < P 1

theorem makeE_zero {b bl ino lg:Int} (h:makeE b bl ino lg=0):¬ badArg b bl ino lg∧¬ 1048576 < b * bl∧¬ bl ≤ planOf b bl ino lg 11:=by
 unfold makeE at h
 split at h
 ·omega
 ·split at h
  ·omega
  ·split at h
   ·omega
   ·rename_i h1 h2 h3
    exact ⟨fun x=>h1 (badB_iff.2 x),h2,h3⟩

theorem sound {P:Nat→Int} (h:checkE P=0):Sound P:=by
 unfold checkE at h
 split at h
 case isFalse=>omega
 case isTrue hc =>
  obtain ⟨he,hs⟩:=hc
  have hk:=same12_iff.1 hs
  rw [makeP_ok he] at hk
  obtain ⟨h1,h2,h3⟩:=makeE_zero he
  obtain ⟨g1,g2,g3,g4⟩:=good_arg h1
  have k4:2=P 4:=hk 4 (by omega)
  have k5:2 + P 3=P 5:=hk 5 (by omega)
  have k6:cd (P 2) (8 * P 0)=P 6:=hk 6 (by omega)
  have k7:2 + P 3 + cd (P 2) (8 * P 0)=P 7:=hk 7 (by omega)
  have k8:cd (P 1) (8 * P 0)=P 8:=hk 8 (by omega)
  have k9:2 + P 3 + cd (P 2) (8 * P 0) + cd (P 1) (8 * P 0)=P 9:=hk 9 (by omega)
  have k10:cd (P 2) (P 0 / 32)=P 10:=hk 10 (by omega)
  have k11:2 + P 3 + cd (P 2) (8 * P 0) + cd (P 1) (8 * P 0) + cd (P 2) (P 0 / 32)=P 11:=hk 11 (by omega)
  rw [hk 11 (by omega)] at h3
  rw [k6] at k7 k9 k11
  rw [k8] at k9 k11
  rw [k10] at k11
  exact ⟨g1,by omega,by omega,by omega,by omega,k4.symm,k5.symm,k6.symm,k7.symm,k8.symm,k9.symm,k10.symm,k11.symm,by omega⟩

theorem cd_pos (n e:Int) (hn:1 ≤ n) (he:1 ≤ e):1 ≤ cd n e:=by
 unfold cd
 rw [Int.le_ediv_iff_mul_le (by omega)]
 omega

theorem Sound.bd {P:Nat→Int} (h:Sound P):(64 ≤ P 0∧P 0 ≤ 4096)∧(1 ≤ P 6∧P 6 ≤ 4096)∧(1 ≤ P 8∧P 8 ≤ 4096)∧(1 ≤ P 10∧P 10 ≤ 4096):=by
 have hs:=size_bd h.size
 have a:=h.blocks
 have b:=h.inodes
 have x:=cd_bd (P 2) (8 * P 0) (by omega) (by omega)
 have y:=cd_bd (P 1) (8 * P 0) (by omega) (by omega)
 have z:=cd_bd (P 2) (P 0 / 32) (by omega) (by omega)
 have x':=cd_pos (P 2) (8 * P 0) (by omega) (by omega)
 have y':=cd_pos (P 1) (8 * P 0) (by omega) (by omega)
 have z':=cd_pos (P 2) (P 0 / 32) (by omega) (by omega)
 rw [h.p6,h.p8,h.p10]
 exact ⟨hs,⟨x',x.2⟩,⟨y',y.2⟩,⟨z',z.2⟩⟩

theorem per_any (P:Nat→Int) (w:World) (h:64 ≤ P 0∧P 0 ≤ 4096) :
  Calls Tryz.prog 170 #[PvN P] w fun e w'=>e=.returned (.int .i64 (P 0 / 2))∧w'=w.alloc (.cells (Pc P) 23):=by
 go_enter Tryz.func170,Tryz.ntmps170
 go_wp2
 go_ret
 refine ⟨?_,rfl⟩
 go_num

end Go.Proofs.YtknmgefpjdfenaaGreat

