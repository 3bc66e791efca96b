/- Joined: XNLeaf, XNFile, XNRDir, XNTreeM, XNSum, XNRTree, XNTree. -/
import Derived.Test.YtknmgefpjdfenaaGreatSfJ0
import Derived.Test.YtknmgefpjdfenaaGreatSfJ8
import Derived.Test.YtknmgefpjdfenaaGreatSfJ1
/- The small functions of amounts, the program's and the document's. -/
namespace Go.Proofs.YtknmgefpjdfenaaGreat
set_option maxRecDepth 100000
set_option maxHeartbeats 8000000
open Go.RowKit Go.Shelf Ieee
set_option linter.unusedVariables false

theorem rd_of_int (n:Int) (h:-1125899906842624 ≤ n∧n ≤ 1125899906842624):Rd (floatOfInt .f64 n) n:=rd_int n (by omega)

theorem am_top {x:Nat} {n:Int} (h:Am x n) (hn:1073741824 < n):FloatKind.f64.format.order x 0=some .gt∧FloatKind.f64.format.order x 4742290407621132288=some .gt:=by
 rcases h with ⟨h0,h1,h2⟩ | ⟨h1,h2⟩
 ·exact ⟨order_at h2 rd_zero (cmp_gt (by omega)),order_at h2 rd_most (cmp_gt (by omega))⟩
 ·exact ⟨hg_order h2 rd_zero (by omega),hg_order h2 rd_most (by omega)⟩

theorem am_in {x:Nat} {n:Int} (h:Rd x n) (h0:0 ≤ n) (hn:n ≤ 1073741824):(FloatKind.f64.format.order x 0=some .eq∧FloatKind.f64.format.order x 4742290407621132288=some .lt) ∨ (FloatKind.f64.format.order x 0=some .gt∧FloatKind.f64.format.order x 4742290407621132288=some .lt) ∨ (FloatKind.f64.format.order x 0=some .gt∧FloatKind.f64.format.order x 4742290407621132288=some .eq):=by
 by_cases h1:n=0
 ·exact .inl ⟨order_at h rd_zero (by rw [h1]; exact cmp_eq _),order_at h rd_most (cmp_lt (by omega))⟩
 ·by_cases h2:n=1073741824
  ·exact .inr (.inr ⟨order_at h rd_zero (cmp_gt (by omega)),order_at h rd_most (by rw [h2]; exact cmp_eq _)⟩)
  ·exact .inr (.inl ⟨order_at h rd_zero (cmp_gt (by omega)),order_at h rd_most (cmp_lt (by omega))⟩)

theorem whole_am (x:Nat) (n:Int) (w:World) (h:Am x n) :
  Calls Tryz.prog 146 #[.float .f64 x] w fun e w'=>e=.returned (.bool (decide (n ≤ 1073741824)))∧w=w':=by
 by_cases hn:n ≤ 1073741824
 ·rw [decide_eq_true hn]
  have hr:=am_small h hn
  have h0:=h.nonneg
  have ti:=fun w=>run_convert_float_int (P:=Tryz.prog) w 173 3 .f64 .i64 x n (by kernel_rfl) (by kernel_rfl) (to_int hr (by omega))
  have o3:FloatKind.f64.format.order x (floatOfInt .f64 n)=some .eq:=order_at hr (rd_of_int n (by omega)) (cmp_eq _)
  have hc:=am_in hr h0 hn
  clear h hr h0 hn
  rcases hc with ⟨o1,o2⟩ | ⟨o1,o2⟩ | ⟨o1,o2⟩
  all_goals
   go_enter Tryz.func146,Tryz.ntmps146
   go_wp2
   go_ret
   exact ⟨rfl,rfl⟩
 ·rw [decide_eq_false hn]
  obtain ⟨o1,o2⟩:=am_top h (by omega)
  clear h hn
  go_enter Tryz.func146,Tryz.ntmps146
  go_wp2
  go_ret
  exact ⟨rfl,rfl⟩

theorem rwhole_am (x:Nat) (n:Int) (w:World) (h:Rd x n) (h0:0 ≤ n) (hn:n ≤ 1073741824) :
  Calls Tryz.prog 150 #[.float .f64 x] w fun e w'=>e=.returned (.tuple #[.int .i64 n,.bool true])∧w=w':=by
 have ti:=fun w=>run_convert_float_int (P:=Tryz.prog) w 173 3 .f64 .i64 x n (by kernel_rfl) (by kernel_rfl) (to_int h (by omega))
 have o3:FloatKind.f64.format.order (floatOfInt .f64 n) x=some .eq:=order_at (rd_of_int n (by omega)) h (cmp_eq _)
 have hc:=am_in h h0 hn
 clear h h0 hn
 rcases hc with ⟨o1,o2⟩ | ⟨o1,o2⟩ | ⟨o1,o2⟩
 all_goals
  go_enter Tryz.func150,Tryz.ntmps150
  go_wp2
  go_ret2
  exact ⟨rfl,rfl⟩

def okA (n m:Int):Bool:=decide (n ≤ 1073741824) && decide (m ≤ 1073741824)

theorem sound_am (x y:Nat) (n m:Int) (w:World) (hx:Am x n) (hy:Am y m) :
  Calls Tryz.prog 122 #[.complex .f64 x y] w fun e w'=>e=.returned (.bool (okA n m))∧w=w':=by
 have H1:=hide (fun w=>whole_am x n w hx)
 have H2:=hide (fun w=>whole_am y m w hy)
 unfold okA
 clear hx hy
 by_cases h1:n ≤ 1073741824
 ·rw [decide_eq_true h1] at *
  generalize decide (m ≤ 1073741824)=b at *
  clear h1
  go_enter Tryz.func122,Tryz.ntmps122
  go_wp2_with fail
  go_at_call 146
  refine (unhide H1 _).mono ?_
  rintro e w' ⟨rfl,rfl⟩
  go_wp2_with fail
  go_at_call 146
  refine (unhide H2 _).mono ?_
  rintro e w' ⟨rfl,rfl⟩
  go_wp2
  go_ret
  exact ⟨rfl,rfl⟩
 ·rw [decide_eq_false h1] at *
  clear h1 H2
  go_enter Tryz.func122,Tryz.ntmps122
  go_wp2_with fail
  go_at_call 146
  refine (unhide H1 _).mono ?_
  rintro e w' ⟨rfl,rfl⟩
  go_wp2
  go_ret
  exact ⟨rfl,rfl⟩

def AnsA (r:Ending) (E B I:Int):Prop:=∃ x y,r=.returned (.tuple #[.complex .f64 x y,.int .i64 E])∧Rd x B∧Rd y I

def toE (n m:Int):Int:=if okA n m then 0 else 3
def toB (n m:Int):Int:=if okA n m then n else 0
def toI (n m:Int):Int:=if okA n m then m else 0

theorem okA_iff {n m:Int}:okA n m=true ↔ n ≤ 1073741824∧m ≤ 1073741824:=by simp [okA]

theorem total_am (x y:Nat) (n m:Int) (w:World) (hx:Am x n) (hy:Am y m) :
  Calls Tryz.prog 103 #[.complex .f64 x y] w fun e w'=>AnsA e (toE n m) (toB n m) (toI n m)∧w=w':=by
 have H1:=hide (fun w=>sound_am x y n m w hx hy)
 have HX:=hide (And.intro hx hy)
 clear hx hy
 unfold toE toB toI
 by_cases h:okA n m=true
 ·have hb:=okA_iff.1 h
  rw [h] at H1
  have HR:Hid (Rd x n∧Rd y m):=⟨am_small (unhide HX).1 hb.1,am_small (unhide HX).2 hb.2⟩
  rw [if_pos h,if_pos h,if_pos h]
  clear h hb HX
  go_enter Tryz.func103,Tryz.ntmps103
  go_wp2_with fail
  go_at_call 122
  refine (unhide H1 _).mono ?_
  rintro e w' ⟨rfl,rfl⟩
  go_wp2
  go_ret2
  exact ⟨⟨x,y,rfl,(unhide HR).1,(unhide HR).2⟩,rfl⟩
 ·rw [Bool.not_eq_true] at h
  rw [h] at H1
  rw [if_neg (by simp [h]),if_neg (by simp [h]),if_neg (by simp [h])]
  clear h HX
  go_enter Tryz.func103,Tryz.ntmps103
  go_wp2_with fail
  go_at_call 122
  refine (unhide H1 _).mono ?_
  rintro e w' ⟨rfl,rfl⟩
  go_wp2
  go_ret2
  exact ⟨⟨0,0,rfl,rd_zero,rd_zero⟩,rfl⟩

def inA (b:Int):Prop:=0 ≤ b∧b ≤ 1073741824

theorem noutside_any (b:Int) (w:World) :
  Calls Tryz.prog 145 #[.int .i64 b] w fun e w'=>e=.returned (.bool (decide (b < 0 ∨ 1073741824 < b)))∧w=w':=by
 by_cases h1:b < 0
 ·go_enter Tryz.func145,Tryz.ntmps145
  go_wp2
  go_ret
  simp [h1]
 ·by_cases h2:1073741824 < b
  ·go_enter Tryz.func145,Tryz.ntmps145
   go_wp2
   go_ret
   simp
  ·go_enter Tryz.func145,Tryz.ntmps145
   go_wp2
   go_ret
   simp; omega

theorem amount_ok (b i:Int) (w:World) (hb:inA b) (hi:inA i) :
  Calls Tryz.prog 120 #[.int .i64 b,.int .i64 i] w fun e w'=>AnsA e 0 b i∧w=w':=by
 obtain ⟨b0,b1⟩:=hb
 obtain ⟨i0,i1⟩:=hi
 have e1:decide (b < 0 ∨ 1073741824 < b)=false:=decide_eq_false (by omega)
 have e2:decide (i < 0 ∨ 1073741824 < i)=false:=decide_eq_false (by omega)
 have H1:=hide (noutside_any b)
 have H2:=hide (noutside_any i)
 rw [e1] at H1
 rw [e2] at H2
 have HR:Hid (Rd (floatOfInt .f64 b) b∧Rd (floatOfInt .f64 i) i):=⟨rd_of_int b (by omega),rd_of_int i (by omega)⟩
 clear e1 e2 b0 b1 i0 i1
 go_enter Tryz.func120,Tryz.ntmps120
 go_wp2_with fail
 go_at_call 145
 refine (unhide H1 _).mono ?_
 rintro e w' ⟨rfl,rfl⟩
 go_wp2_with fail
 go_at_call 145
 refine (unhide H2 _).mono ?_
 rintro e w' ⟨rfl,rfl⟩
 go_wp2
 go_ret2
 exact ⟨⟨_,_,rfl,(unhide HR).1,(unhide HR).2⟩,rfl⟩

theorem rsound_any (b i:Int) (w:World) (hb:inA b) (hi:inA i) :
  Calls Tryz.prog 149 #[.int .i64 b,.int .i64 i] w fun e w'=>e=.returned (.bool true)∧w=w':=by
 obtain ⟨b0,b1⟩:=hb
 obtain ⟨i0,i1⟩:=hi
 go_enter Tryz.func149,Tryz.ntmps149
 go_wp2
 go_ret
 simp

theorem rsound_not (b i:Int) (w:World) (h0:0 ≤ b) (h1:0 ≤ i) (h:¬ (b ≤ 1073741824∧i ≤ 1073741824)) :
  Calls Tryz.prog 149 #[.int .i64 b,.int .i64 i] w fun e w'=>e=.returned (.bool false)∧w=w':=by
 by_cases h2:b ≤ 1073741824
 ·have h3:¬ i ≤ 1073741824:=fun h3=>h ⟨h2,h3⟩
  clear h
  go_enter Tryz.func149,Tryz.ntmps149
  go_wp2
  go_ret
  simp
 ·clear h
  go_enter Tryz.func149,Tryz.ntmps149
  go_wp2
  go_ret
  simp

theorem ramount_ok (b i:Int) (w:World) (hb:inA b) (hi:inA i) :
  Calls Tryz.prog 125 #[.int .i64 b,.int .i64 i] w fun e w'=>AnsA e 0 b i∧w=w':=by
 have H1:=hide (fun w=>rsound_any b i w hb hi)
 obtain ⟨b0,b1⟩:=hb
 obtain ⟨i0,i1⟩:=hi
 have HR:Hid (Rd (floatOfInt .f64 b) b∧Rd (floatOfInt .f64 i) i):=⟨rd_of_int b (by omega),rd_of_int i (by omega)⟩
 clear b0 b1 i0 i1
 go_enter Tryz.func125,Tryz.ntmps125
 go_wp2_with fail
 go_at_call 149
 refine (unhide H1 _).mono ?_
 rintro e w' ⟨rfl,rfl⟩
 go_wp2
 go_ret2
 exact ⟨⟨_,_,rfl,(unhide HR).1,(unhide HR).2⟩,rfl⟩

theorem ramount_not (b i:Int) (w:World) (h0:0 ≤ b) (h1:0 ≤ i) (h:¬ (b ≤ 1073741824∧i ≤ 1073741824)) :
  Calls Tryz.prog 125 #[.int .i64 b,.int .i64 i] w fun e w'=>AnsA e 3 0 0∧w=w':=by
 have H1:=hide (fun w=>rsound_not b i w h0 h1 h)
 clear h0 h1 h
 go_enter Tryz.func125,Tryz.ntmps125
 go_wp2_with fail
 go_at_call 149
 refine (unhide H1 _).mono ?_
 rintro e w' ⟨rfl,rfl⟩
 go_wp2
 go_ret2
 exact ⟨⟨0,0,rfl,rd_zero,rd_zero⟩,rfl⟩

theorem ramount_total (b i:Int) (w:World) (h0:0 ≤ b) (h1:0 ≤ i) :
  Calls Tryz.prog 125 #[.int .i64 b,.int .i64 i] w fun e w'=>AnsA e (toE b i) (toB b i) (toI b i)∧w=w':=by
 unfold toE toB toI
 by_cases h:okA b i=true
 ·have hb:=okA_iff.1 h
  rw [if_pos h,if_pos h,if_pos h]
  exact ramount_ok b i w ⟨h0,hb.1⟩ ⟨h1,hb.2⟩
 ·rw [if_neg h,if_neg h,if_neg h]
  exact ramount_not b i w h0 h1 (fun x=>h (okA_iff.2 x))

theorem rparts_ok (x y:Nat) (n m:Int) (w:World) (hx:Rd x n) (hy:Rd y m) (hn:inA n) (hm:inA m) :
  Calls Tryz.prog 127 #[.complex .f64 x y] w fun e w'=>e=.returned (.tuple #[.int .i64 n,.int .i64 m,.int .i64 0])∧w=w':=by
 have H1:=hide (fun w=>rwhole_am x n w hx hn.1 hn.2)
 have H2:=hide (fun w=>rwhole_am y m w hy hm.1 hm.2)
 clear hx hy hn hm
 go_enter Tryz.func127,Tryz.ntmps127
 go_wp2_with fail
 go_at_call 150
 refine (unhide H1 _).mono ?_
 rintro e w' ⟨rfl,rfl⟩
 go_wp2_with fail
 go_at_call 150
 refine (unhide H2 _).mono ?_
 rintro e w' ⟨rfl,rfl⟩
 go_wp2
 go_ret3
 exact ⟨rfl,rfl⟩

end Go.Proofs.YtknmgefpjdfenaaGreat

/- What files, directories and the device have: File, Dir, Have, the program's and the document's. -/
namespace Go.Proofs.YtknmgefpjdfenaaGreat
set_option maxRecDepth 100000
set_option maxHeartbeats 8000000
open Go.RowKit Go.Shelf Ieee
set_option linter.unusedVariables false

theorem ptr_bd {P:Nat→Int} (h:isSize (P 0)) {data:Int} (hd:0 ≤ data):0 ≤ ptr P data∧ptr P data ≤ data + 3:=by
 have hb:=size_bd h
 unfold ptr
 split
 ·omega
 ·split
  ·omega
  ·have:=cd_top (data - 8 - P 0 / 2) (P 0 / 2) (by omega) (by omega)
   omega

theorem whE_ok {P:Nat→Int} {n:Int} (h:whE P n=0):checkE P=0∧0 ≤ n∧n ≤ P 0 * mfb P:=by
 unfold whE at h
 split at h
 ·omega
 ·split at h
  ·omega
  ·omega

def flB (P:Nat→Int) (n:Int):Int:=whD P n + whP P n
def flI (P:Nat→Int) (n:Int):Int:=if whE P n=0 then 1 else 0

theorem flB_bad {P:Nat→Int} {n:Int} (h:whE P n ≠ 0):flB P n=0∧flI P n=0:=by
 unfold flB flI whD whP
 rw [if_neg h,if_neg h,if_neg h]
 exact ⟨rfl,rfl⟩

theorem flB_bd {P:Nat→Int} {n:Int}:0 ≤ flB P n∧flB P n ≤ 1073741∧0 ≤ flI P n∧flI P n ≤ 1∧0 ≤ whD P n∧whD P n ≤ 1073741∧0 ≤ whP P n∧whP P n ≤ 1073741:=by
 by_cases h:whE P n=0
 ·obtain ⟨h1,h2,h3⟩:=whE_ok h
  have hs:=(sound h1).size
  have hm:=msz_bd hs
  have hc:=cd_top n (P 0) h2 (by have:=size_bd hs; omega)
  have hp:=ptr_bd (data:=cd n (P 0)) hs hc.1
  unfold flB flI whD whP
  rw [if_pos h,if_pos h,if_pos h]
  generalize P 0 * mfb P=s at *
  omega
 ·have:=flB_bad h
  unfold whD whP
  rw [if_neg h,if_neg h]
  omega

theorem file_any (P:Nat→Int) (n:Int) (w:World) :
  Calls Tryz.prog 101 #[PvN P,.int .i64 n] w fun e w'=>AnsA e (whE P n) (flB P n) (flI P n)∧Below w.heap.size w w':=by
 have H1:=hide (whole_any P n)
 have HK:=hide (KpN.start w P)
 by_cases h:whE P n=0
 ·have hb:=flB_bd (P:=P) (n:=n)
  have H2:=hide (fun w=>amount_ok (flB P n) 1 w ⟨hb.1,by omega⟩ ⟨by omega,by omega⟩)
  rw [h] at H1
  have e1:flI P n=1:=by rw [flI,if_pos h]
  rw [h,e1]
  unfold flB at *
  generalize whD P n=d at *
  generalize whP P n=p at *
  obtain ⟨b1,b2,_,_,b3,b4,b5,b6⟩:=hb
  clear h e1
  go_enter Tryz.func101,Tryz.ntmps101
  go_wp2_with fail
  go_at_call 119
  refine (unhide H1 _).mono ?_
  rintro r w1 ⟨rfl,hx⟩
  replace HK:=hide ((unhide HK).call hx)
  clear hx H1
  go_wp2_with fail
  go_at_call 120
  refine (unhide H2 _).mono ?_
  rintro r w2 ⟨⟨x,y,rfl,hx,hy⟩,rfl⟩
  have HR:=hide (And.intro hx hy)
  clear hx hy H2 b1 b2 b3 b4 b5 b6
  go_wp2
  go_ret2
  exact ⟨⟨x,y,rfl,(unhide HR).1,(unhide HR).2⟩,(unhide HK).2⟩
 ·obtain ⟨e1,e2⟩:=flB_bad h
  rw [e1,e2]
  clear e1 e2
  generalize whE P n=E at *
  generalize whD P n=d at *
  generalize whP P n=p at *
  go_enter Tryz.func101,Tryz.ntmps101
  go_wp2_with fail
  go_at_call 119
  refine (unhide H1 _).mono ?_
  rintro r w1 ⟨rfl,hx⟩
  replace HK:=hide ((unhide HK).call hx)
  clear hx H1
  go_wp2
  go_ret2
  exact ⟨⟨0,0,rfl,rd_zero,rd_zero⟩,(unhide HK).2⟩

theorem rfile_any (P:Nat→Int) (n:Int) (w:World) :
  Calls Tryz.prog 109 #[PvN P,.int .i64 n] w fun e w'=>AnsA e (whE P n) (flB P n) (flI P n)∧Below w.heap.size w w':=by
 have H1:=hide (refWhole_any P n)
 have HK:=hide (KpN.start w P)
 by_cases h:whE P n=0
 ·have hb:=flB_bd (P:=P) (n:=n)
  have H2:=hide (fun w=>ramount_ok (flB P n) 1 w ⟨hb.1,by omega⟩ ⟨by omega,by omega⟩)
  rw [h] at H1
  have e1:flI P n=1:=by rw [flI,if_pos h]
  rw [h,e1]
  unfold flB at *
  generalize whD P n=d at *
  generalize whP P n=p at *
  obtain ⟨b1,b2,_,_,b3,b4,b5,b6⟩:=hb
  clear h e1
  go_enter Tryz.func109,Tryz.ntmps109
  go_wp2_with fail
  go_at_call 124
  refine (unhide H1 _).mono ?_
  rintro r w1 ⟨rfl,hx⟩
  replace HK:=hide ((unhide HK).call hx)
  clear hx H1
  go_wp2_with fail
  go_at_call 125
  refine (unhide H2 _).mono ?_
  rintro r w2 ⟨⟨x,y,rfl,hx,hy⟩,rfl⟩
  have HR:=hide (And.intro hx hy)
  clear hx hy H2 b1 b2 b3 b4 b5 b6
  go_wp2
  go_ret2
  exact ⟨⟨x,y,rfl,(unhide HR).1,(unhide HR).2⟩,(unhide HK).2⟩
 ·obtain ⟨e1,e2⟩:=flB_bad h
  rw [e1,e2]
  clear e1 e2
  generalize whE P n=E at *
  generalize whD P n=d at *
  generalize whP P n=p at *
  go_enter Tryz.func109,Tryz.ntmps109
  go_wp2_with fail
  go_at_call 124
  refine (unhide H1 _).mono ?_
  rintro r w1 ⟨rfl,hx⟩
  replace HK:=hide ((unhide HK).call hx)
  clear hx H1
  go_wp2
  go_ret2
  exact ⟨⟨0,0,rfl,rd_zero,rd_zero⟩,(unhide HK).2⟩

def drE (P:Nat→Int) (k:Int):Int:=if checkE P ≠ 0 then 4 else if k < 0 ∨ P 0 * mfb P / 16 < k then 2 else 0
def drB (P:Nat→Int) (k:Int):Int:=if drE P k=0 then flB P (k * 16) else 0
def drI (P:Nat→Int) (k:Int):Int:=if drE P k=0 then 1 else 0

theorem drE_ok {P:Nat→Int} {k:Int} (h:drE P k=0):checkE P=0∧0 ≤ k∧k * 16 ≤ P 0 * mfb P∧whE P (k * 16)=0:=by
 unfold drE at h
 split at h
 ·omega
 ·rename_i hc
  split at h
  ·omega
  ·have h1:checkE P=0:=by omega
   have h2:0 ≤ k * 16∧k * 16 ≤ P 0 * mfb P:=by omega
   refine ⟨h1,by omega,h2.2,?_⟩
   rw [whE,if_neg hc,if_neg (by omega)]

theorem drB_bad {P:Nat→Int} {k:Int} (h:drE P k ≠ 0):drB P k=0∧drI P k=0:=by
 unfold drB drI
 rw [if_neg h,if_neg h]
 exact ⟨rfl,rfl⟩

theorem drB_bd {P:Nat→Int} {k:Int}:0 ≤ drB P k∧drB P k ≤ 1073741∧0 ≤ drI P k∧drI P k ≤ 1:=by
 have:=flB_bd (P:=P) (n:=k * 16)
 unfold drB drI
 split <;> omega

theorem dir_form (P:Nat→Int) (k:Int) (w:World) (h:checkE P ≠ 0) :
  Calls Tryz.prog 102 #[PvN P,.int .i64 k] w fun e w'=>AnsA e 4 0 0∧Below w.heap.size w w':=by
 have H1:=hide (fun w=>maxSize_form P w h)
 have HK:=hide (KpN.start w P)
 clear h
 go_enter Tryz.func102,Tryz.ntmps102
 go_wp2_with fail
 go_at_call 121
 refine (unhide H1 _).mono ?_
 rintro r w1 ⟨rfl,hx⟩
 replace HK:=hide ((unhide HK).call hx)
 clear hx H1
 go_wp2
 go_ret2
 exact ⟨⟨0,0,rfl,rd_zero,rd_zero⟩,(unhide HK).2⟩

theorem dir_range (P:Nat→Int) (k:Int) (w:World) (h:checkE P=0) (hk:k < 0 ∨ P 0 * mfb P / 16 < k) :
  Calls Tryz.prog 102 #[PvN P,.int .i64 k] w fun e w'=>AnsA e 2 0 0∧Below w.heap.size w w':=by
 have H1:=hide (fun w=>maxSize_ok P w h)
 have hm:=msz_bd (sound h).size
 have HK:=hide (KpN.start w P)
 generalize P 0 * mfb P=s at *
 obtain ⟨q,hq⟩:∃ q,s / 16=q:=⟨_,rfl⟩
 rw [hq] at hk
 have HN:=hide hk
 clear h hk
 by_cases h1:k < 0
 ·go_enter Tryz.func102,Tryz.ntmps102
  go_wp2_with fail
  go_at_call 121
  refine (unhide H1 _).mono ?_
  rintro r w1 ⟨rfl,hx⟩
  replace HK:=hide ((unhide HK).call hx)
  clear hx H1
  go_wp2
  go_ret2
  exact ⟨⟨0,0,rfl,rd_zero,rd_zero⟩,(unhide HK).2⟩
 ·have h2:q < k:=by have:=unhide HN; omega
  clear HN
  go_enter Tryz.func102,Tryz.ntmps102
  go_wp2_with fail
  go_at_call 121
  refine (unhide H1 _).mono ?_
  rintro r w1 ⟨rfl,hx⟩
  replace HK:=hide ((unhide HK).call hx)
  clear hx H1
  go_wp2
  go_ret2
  exact ⟨⟨0,0,rfl,rd_zero,rd_zero⟩,(unhide HK).2⟩

theorem dir_ok (P:Nat→Int) (k:Int) (w:World) (h:drE P k=0) :
  Calls Tryz.prog 102 #[PvN P,.int .i64 k] w fun e w'=>AnsA e 0 (flB P (k * 16)) 1∧Below w.heap.size w w':=by
 obtain ⟨h1,h2,h3,h4⟩:=drE_ok h
 have H1:=hide (fun w=>maxSize_ok P w h1)
 have H2:=hide (fun w=>file_any P (k * 16) w)
 have hm:=msz_bd (sound h1).size
 rw [h4,show flI P (k * 16)=1 by rw [flI,if_pos h4]] at H2
 generalize flB P (k * 16)=B at *
 have HK:=hide (KpN.start w P)
 generalize P 0 * mfb P=s at *
 obtain ⟨q,hq⟩:∃ q,s / 16=q:=⟨_,rfl⟩
 have h5:¬ q < k:=by omega
 have h6:¬ k < 0:=by omega
 clear h h1 h4
 go_enter Tryz.func102,Tryz.ntmps102
 go_wp2_with fail
 go_at_call 121
 refine (unhide H1 _).mono ?_
 rintro r w1 ⟨rfl,hx⟩
 replace HK:=hide ((unhide HK).call hx)
 clear hx H1
 obtain ⟨f0,f1,f2,f3,f4,f5,f6,f7,f8,f9,f10,f11⟩:=(unhide HK).cells
 go_wp2_with fail
 go_at_call 101
 refine (unhide H2 _).mono ?_
 rintro r w2 ⟨⟨x,y,rfl,hx,hy⟩,hb⟩
 replace HK:=hide ((unhide HK).call hb)
 have HR:=hide (And.intro hx hy)
 clear hx hy hb H2 f0 f1 f2 f3 f4 f5 f6 f7 f8 f9 f10 f11
 go_wp2
 go_ret2
 exact ⟨⟨x,y,rfl,(unhide HR).1,(unhide HR).2⟩,(unhide HK).2⟩

theorem dir_any (P:Nat→Int) (k:Int) (w:World) :
  Calls Tryz.prog 102 #[PvN P,.int .i64 k] w fun e w'=>AnsA e (drE P k) (drB P k) (drI P k)∧Below w.heap.size w w':=by
 by_cases h:drE P k=0
 ·rw [h,show drB P k=flB P (k * 16) by rw [drB,if_pos h],show drI P k=1 by rw [drI,if_pos h]]
  exact dir_ok P k w h
 ·rw [(drB_bad h).1,(drB_bad h).2]
  by_cases hc:checkE P=0
  ·by_cases hk:k < 0 ∨ P 0 * mfb P / 16 < k
   ·rw [show drE P k=2 by rw [drE,if_neg (by omega),if_pos hk]]
    exact dir_range P k w hc hk
   ·exact absurd (by rw [drE,if_neg (by omega),if_neg hk]) h
  ·rw [show drE P k=4 by rw [drE,if_pos hc]]
   exact dir_form P k w hc

end Go.Proofs.YtknmgefpjdfenaaGreat

/- The document's Dir. -/
namespace Go.Proofs.YtknmgefpjdfenaaGreat
set_option maxRecDepth 100000
set_option maxHeartbeats 8000000
open Go.RowKit Go.Shelf Ieee
set_option linter.unusedVariables false

theorem rdir_form (P:Nat→Int) (k:Int) (w:World) (h:checkE P ≠ 0) :
  Calls Tryz.prog 110 #[PvN P,.int .i64 k] w fun e w'=>AnsA e 4 0 0∧Below w.heap.size w w':=by
 have H1:=hide (fun w=>refMaxSize_form P w h)
 have HK:=hide (KpN.start w P)
 clear h
 go_enter Tryz.func110,Tryz.ntmps110
 go_wp2_with fail
 go_at_call 126
 refine (unhide H1 _).mono ?_
 rintro r w1 ⟨rfl,hx⟩
 replace HK:=hide ((unhide HK).call hx)
 clear hx H1
 go_wp2
 go_ret2
 exact ⟨⟨0,0,rfl,rd_zero,rd_zero⟩,(unhide HK).2⟩

theorem rdir_range (P:Nat→Int) (k:Int) (w:World) (h:checkE P=0) (hk:k < 0 ∨ P 0 * mfb P < k) :
  Calls Tryz.prog 110 #[PvN P,.int .i64 k] w fun e w'=>AnsA e 2 0 0∧Below w.heap.size w w':=by
 have H1:=hide (fun w=>refMaxSize_ok P w h)
 have hm:=msz_bd (sound h).size
 have HK:=hide (KpN.start w P)
 generalize P 0 * mfb P=s at *
 have HN:=hide hk
 clear h hk
 by_cases h1:k < 0
 ·go_enter Tryz.func110,Tryz.ntmps110
  go_wp2_with fail
  go_at_call 126
  refine (unhide H1 _).mono ?_
  rintro r w1 ⟨rfl,hx⟩
  replace HK:=hide ((unhide HK).call hx)
  clear hx H1
  go_wp2
  go_ret2
  exact ⟨⟨0,0,rfl,rd_zero,rd_zero⟩,(unhide HK).2⟩
 ·have h2:s < k:=by have:=unhide HN; omega
  clear HN
  go_enter Tryz.func110,Tryz.ntmps110
  go_wp2_with fail
  go_at_call 126
  refine (unhide H1 _).mono ?_
  rintro r w1 ⟨rfl,hx⟩
  replace HK:=hide ((unhide HK).call hx)
  clear hx H1
  go_wp2
  go_ret2
  exact ⟨⟨0,0,rfl,rd_zero,rd_zero⟩,(unhide HK).2⟩

theorem cd_up {n b:Int} (hb:0 < b):n ≤ cd n b * b∧cd n b * b < n + b:=by
 unfold cd
 have h1:=Int.emod_add_mul_ediv (n + b - 1) b
 have h2:=Int.emod_nonneg (n + b - 1) (by omega:b ≠ 0)
 have h3:=Int.emod_lt_of_pos (n + b - 1) hb
 rw [Int.mul_comm] at h1
 omega

theorem cd_cd {c b:Int} (hb:0 < b):cd (c * b) b=c:=by
 have h:=cd_up (n:=c * b) hb
 obtain ⟨d,hd⟩:∃ d,cd (c * b) b=d:=⟨_,rfl⟩
 rw [hd] at h ⊢
 have h1:c ≤ d:=Int.le_of_mul_le_mul_right h.1 hb
 have h2:d < c + 1:=by
  refine Int.lt_of_mul_lt_mul_right (a:=b) ?_ (by omega)
  rw [Int.add_mul]
  omega
 omega

theorem up_least {n b c s:Int} (hb:0 < b) (hc:cd n b=c) (h1:n ≤ s) (h2:s ≤ c * b) (h3:s % b=0):s=c * b:=by
 have h:=cd_up (n:=n) hb
 rw [hc] at h
 obtain ⟨m,hm⟩:∃ m,s=m * b:=⟨s / b,by have:=Int.emod_add_mul_ediv s b; rw [h3,Int.mul_comm] at this; omega⟩
 subst hm
 have h4:c - 1 < m:=by
  refine Int.lt_of_mul_lt_mul_right (a:=b) ?_ (by omega)
  rw [Int.sub_mul]
  omega
 have h5:m ≤ c:=Int.le_of_mul_le_mul_right h2 hb
 have:m=c:=by omega
 rw [this]

theorem size16 {b:Int} (h:isSize b):b % 16=0:=by unfold isSize at h; omega

theorem mul16 {c b:Int} (h:b % 16=0):(c * b) % 16=0:=by
 rw [Int.mul_emod,h]; simp

theorem up_same {P:Nat→Int} {k:Int} (h:checkE P=0) (hk:0 ≤ k) :
  whE P (cd (k * 16) (P 0) * P 0)=drE P k∧flB P (cd (k * 16) (P 0) * P 0)=drB P k∧flI P (cd (k * 16) (P 0) * P 0)=drI P k:=by
 have hs:=(sound h).size
 have hb:=size_bd hs
 have hu:=cd_up (n:=k * 16) (b:=P 0) (by omega)
 have hle:cd (k * 16) (P 0) * P 0 ≤ P 0 * mfb P ↔ k * 16 ≤ P 0 * mfb P:=by
  constructor
  ·intro x; omega
  ·intro x
   have h1:cd (k * 16) (P 0) - 1 < mfb P:=by
    refine Int.lt_of_mul_lt_mul_right (a:=P 0) ?_ (by omega)
    rw [Int.sub_mul,Int.mul_comm (mfb P)]
    omega
   have h2:cd (k * 16) (P 0) * P 0 ≤ mfb P * P 0:=Int.mul_le_mul_of_nonneg_right (by omega) (by omega)
   rw [Int.mul_comm (P 0)]
   exact h2
 have e1:whE P (cd (k * 16) (P 0) * P 0)=drE P k:=by
  unfold whE drE
  rw [if_neg (show ¬ checkE P ≠ 0 by omega),if_neg (show ¬ checkE P ≠ 0 by omega)]
  by_cases hm:k * 16 ≤ P 0 * mfb P
  ·have:=hle.2 hm
   rw [if_neg (by omega),if_neg (by omega)]
  ·have h3:¬ cd (k * 16) (P 0) * P 0 ≤ P 0 * mfb P:=fun x=>hm (hle.1 x)
   rw [if_pos (by omega),if_pos (by omega)]
 refine ⟨e1,?_,?_⟩
 ·by_cases h0:drE P k=0
  ·have h4:=(drE_ok h0).2.2.2
   unfold drB flB whD whP
   rw [if_pos h0,e1,if_pos h0,if_pos h0,if_pos h4,if_pos h4,cd_cd (by omega)]
  ·rw [(drB_bad h0).1,(flB_bad (by rw [e1]; exact h0)).1]
 ·unfold flI drI
  rw [e1]

theorem rem_at {j b:Int} (hj:0 ≤ j) (hb:0 < b):j.tmod b=j % b:=Int.tmod_eq_emod_of_nonneg hj

theorem rdir_rest (P:Nat→Int) (k:Int) (w:World) (h:checkE P=0) (hk:0 ≤ k) (hk2:k ≤ P 0 * mfb P) :
  Calls Tryz.prog 110 #[PvN P,.int .i64 k] w fun e w'=>AnsA e (drE P k) (drB P k) (drI P k)∧Below w.heap.size w w':=by
 have H1:=hide (fun w=>refMaxSize_ok P w h)
 have hs:=(sound h).size
 have hb:=size_bd hs
 have hm:=msz_bd hs
 obtain ⟨e1,e2,e3⟩:=up_same h hk
 have H2:=hide (fun w=>rfile_any P (cd (k * 16) (P 0) * P 0) w)
 rw [e1,e2,e3] at H2
 have hu:=cd_up (n:=k * 16) (b:=P 0) (by omega)
 have HL:Hid (∀ s,k * 16 ≤ s→s ≤ cd (k * 16) (P 0) * P 0→s % P 0=0→s=cd (k * 16) (P 0) * P 0):=fun s a b c=>up_least (by omega) rfl a b c
 have HM:Hid ((cd (k * 16) (P 0) * P 0) % 16=0):=mul16 (size16 hs)
 have HV:Hid ((cd (k * 16) (P 0) * P 0) % P 0=0):=Int.mul_emod_left _ _
 generalize cd (k * 16) (P 0) * P 0=U at *
 generalize drE P k=E at *
 generalize drB P k=B at *
 generalize drI P k=I at *
 have HK:=hide (KpN.start w P)
 generalize P 0 * mfb P=s at *
 have h5:¬ s < k:=by omega
 have h6:¬ k < 0:=by omega
 clear h hs e1 e2 e3
 go_enter Tryz.func110,Tryz.ntmps110
 go_wp2_with fail
 go_at_call 126
 refine (unhide H1 _).mono ?_
 rintro r w1 ⟨rfl,hx⟩
 replace HK:=hide ((unhide HK).call hx)
 clear hx H1
 obtain ⟨f0,f1,f2,f3,f4,f5,f6,f7,f8,f9,f10,f11⟩:=(unhide HK).cells
 go_wp2
 go_loop [8] (fun i=>∃ j:Int,i=.int .i64 j∧k * 16 ≤ j∧j ≤ U∧j % 16=0) (fun i=>(U - intOf i).toNat)
 case atStart=>exact ⟨k * 16,by go_num,by omega,by omega,by omega⟩
 case round =>
  obtain ⟨j,rfl,j1,j2,j3⟩:=hrel
  have r1:j.tmod (P 0)=j % P 0:=rem_at (by omega) (by omega)
  have r2:=Int.emod_nonneg j (by omega:P 0 ≠ 0)
  have r3:=Int.emod_lt_of_pos j (by omega:0 < P 0)
  by_cases hz:j % P 0=0
  ·obtain rfl:=unhide HL j j1 j2 hz
   have HZ:=hide hz
   go_wp2_with fail
   go_at_call 109
   refine (unhide H2 _).mono ?_
   rintro r w2 ⟨⟨x,y,rfl,hx,hy⟩,hb⟩
   replace HK:=hide ((unhide HK).call hb)
   have HR:=hide (And.intro hx hy)
   clear hx hy hb H2 f0 f1 f2 f3 f4 f5 f6 f7 f8 f9 f10 f11
   go_wp2
   go_ret2
   exact ⟨⟨x,y,rfl,(unhide HR).1,(unhide HR).2⟩,(unhide HK).2⟩
  ·go_wp2
   have:=unhide HM
   have hlt:j ≠ U:=fun e=>hz (by rw [e]; exact unhide HV)
   exact ⟨⟨j + 16,by go_num,by omega,by omega,by omega⟩,by simp [intOf]; omega⟩

theorem rdir_any (P:Nat→Int) (k:Int) (w:World) :
  Calls Tryz.prog 110 #[PvN P,.int .i64 k] w fun e w'=>AnsA e (drE P k) (drB P k) (drI P k)∧Below w.heap.size w w':=by
 by_cases hc:checkE P=0
 ·by_cases hk:k < 0 ∨ P 0 * mfb P < k
  ·have hm:=msz_bd (sound hc).size
   have h:drE P k=2:=by rw [drE,if_neg (by omega),if_pos (by omega)]
   rw [(drB_bad (by omega)).1,(drB_bad (by omega)).2,h]
   exact rdir_range P k w hc hk
  ·exact rdir_rest P k w hc (by omega) (by omega)
 ·have h:drE P k=4:=by rw [drE,if_pos hc]
  rw [(drB_bad (by omega)).1,(drB_bad (by omega)).2,h]
  exact rdir_form P k w hc

end Go.Proofs.YtknmgefpjdfenaaGreat

/- What a tree needs, in numbers. -/
namespace Go.Proofs.YtknmgefpjdfenaaGreat
set_option maxRecDepth 100000
set_option maxHeartbeats 8000000
open Go.RowKit Go.Shelf Ieee
set_option linter.unusedVariables false

def fstE:List Int→Int
 | []=>0
 | e :: r=>if e=0 then fstE r else e

def pre (f:Int→Int) (zs:List Int) (k:Nat):Int:=((zs.take k).map f).sum

theorem pre_zero (f:Int→Int) (zs:List Int):pre f zs 0=0:=rfl

theorem pre_next (f:Int→Int) (zs:List Int) (k:Nat) (h:k < zs.length):pre f zs (k + 1)=pre f zs k + f (zs[k]?.getD 0):=by
 unfold pre
 rw [List.take_add_one,List.map_append,List.sum_append,List.getElem?_eq_getElem h]
 simp

theorem pre_all (f:Int→Int) (zs:List Int):pre f zs zs.length=(zs.map f).sum:=by
 unfold pre
 rw [List.take_length]

def allOk (f:Int→Int) (zs:List Int) (k:Nat):Prop:=∀ j,j < k→f (zs[j]?.getD 0)=0

theorem allOk_next {f:Int→Int} {zs:List Int} {k:Nat} (h:allOk f zs k) (h1:f (zs[k]?.getD 0)=0):allOk f zs (k + 1):=by
 intro j hj
 by_cases e:j=k
 ·rw [e]; exact h1
 ·exact h j (by omega)

theorem fst_ok {f:Int→Int}:∀ {zs:List Int} (l:List Int),allOk f zs zs.length→fstE (zs.map f ++ l)=fstE l
 | [],l,_=>rfl
 | z :: zs,l,h=>by
  have h0:f z=0:=by simpa using h 0 (by simp)
  have ht:allOk f zs zs.length:=by
   intro j hj
   have:=h (j + 1) (by simp; omega)
   simpa using this
  rw [List.map_cons,List.cons_append,fstE,if_pos h0]
  exact fst_ok l ht

theorem fst_bad {f:Int→Int}:∀ {zs:List Int} {k:Nat} (l:List Int),k < zs.length→allOk f zs k→f (zs[k]?.getD 0) ≠ 0→fstE (zs.map f ++ l)=f (zs[k]?.getD 0)
 | [],k,l,h,_,_=>by simp at h
 | z :: zs,0,l,_,_,h1=>by
  have h1':f z ≠ 0:=by simpa using h1
  rw [List.map_cons,List.cons_append,fstE,if_neg h1']
  simp
 | z :: zs,k + 1,l,hk,h,h1=>by
  have h0:f z=0:=by simpa using h 0 (by omega)
  have ht:allOk f zs k:=by
   intro j hj
   have:=h (j + 1) (by omega)
   simpa using this
  rw [List.map_cons,List.cons_append,fstE,if_pos h0]
  have:=fst_bad (f:=f) (zs:=zs) (k:=k) l (by simpa using hk) ht (by simpa using h1)
  simpa using this

def erT (P:Nat→Int) (F D:List Int):Int:=fstE (F.map (whE P) ++ D.map (drE P))
def suB (P:Nat→Int) (F D:List Int):Int:=(F.map (flB P)).sum + (D.map (drB P)).sum
def suI (P:Nat→Int) (F D:List Int):Int:=(F.map (flI P)).sum + (D.map (drI P)).sum

def trEN (P:Nat→Int) (F D:List Int):Int:=if checkE P ≠ 0 then 4 else if erT P F D ≠ 0 then erT P F D else toE (suB P F D) (suI P F D)
def trB (P:Nat→Int) (F D:List Int):Int:=if checkE P ≠ 0 then 0 else if erT P F D ≠ 0 then 0 else toB (suB P F D) (suI P F D)
def trI (P:Nat→Int) (F D:List Int):Int:=if checkE P ≠ 0 then 0 else if erT P F D ≠ 0 then 0 else toI (suB P F D) (suI P F D)

theorem tr_form {P:Nat→Int} {F D:List Int} (h:checkE P ≠ 0):trEN P F D=4∧trB P F D=0∧trI P F D=0:=by
 unfold trEN trB trI
 rw [if_pos h,if_pos h,if_pos h]
 exact ⟨rfl,rfl,rfl⟩

theorem tr_err {P:Nat→Int} {F D:List Int} {E:Int} (h:checkE P=0) (he:erT P F D=E) (h0:E ≠ 0):trEN P F D=E∧trB P F D=0∧trI P F D=0:=by
 unfold trEN trB trI
 rw [if_neg (show ¬ checkE P ≠ 0 by omega),if_neg (show ¬ checkE P ≠ 0 by omega),if_neg (show ¬ checkE P ≠ 0 by omega),he,if_pos h0,if_pos h0,if_pos h0]
 exact ⟨rfl,rfl,rfl⟩

theorem tr_sum {P:Nat→Int} {F D:List Int} (h:checkE P=0) (he:erT P F D=0):trEN P F D=toE (suB P F D) (suI P F D)∧trB P F D=toB (suB P F D) (suI P F D)∧trI P F D=toI (suB P F D) (suI P F D):=by
 unfold trEN trB trI
 rw [if_neg (show ¬ checkE P ≠ 0 by omega),if_neg (show ¬ checkE P ≠ 0 by omega),if_neg (show ¬ checkE P ≠ 0 by omega),he,if_neg (by omega),if_neg (by omega),if_neg (by omega)]
 exact ⟨rfl,rfl,rfl⟩

theorem er_file {P:Nat→Int} {F D:List Int} {k:Nat} (hk:k < F.length) (h:allOk (whE P) F k) (h1:whE P (F[k]?.getD 0) ≠ 0):erT P F D=whE P (F[k]?.getD 0):=fst_bad _ hk h h1

theorem er_dir {P:Nat→Int} {F D:List Int} {k:Nat} (hF:allOk (whE P) F F.length) (hk:k < D.length) (h:allOk (drE P) D k) (h1:drE P (D[k]?.getD 0) ≠ 0):erT P F D=drE P (D[k]?.getD 0):=by
 unfold erT
 rw [fst_ok _ hF]
 have:=fst_bad (f:=drE P) (zs:=D) [] hk h h1
 rwa [List.append_nil] at this

theorem er_none {P:Nat→Int} {F D:List Int} (hF:allOk (whE P) F F.length) (hD:allOk (drE P) D D.length):erT P F D=0:=by
 unfold erT
 rw [fst_ok _ hF]
 have:=fst_ok (f:=drE P) (zs:=D) [] hD
 rwa [List.append_nil] at this

theorem am_two {x y u v:Nat} {n m a b:Int} (hx:Am x n) (hy:Am y m) (hu:Rd u a) (hv:Rd v b) (ha:0 ≤ a∧a ≤ 1073741824) (hb:0 ≤ b∧b ≤ 1073741824) :
  ∃ p q,cSumBits .add .f64 x y u v=some (p,q)∧Am p (n + a)∧Am q (m + b):=by
 obtain ⟨p,e1,r1⟩:=am_add hx hu ha.1 ha.2
 obtain ⟨q,e2,r2⟩:=am_add hy hv hb.1 hb.2
 exact ⟨p,q,by simp [cSumBits,e1,e2],r1,r2⟩

end Go.Proofs.YtknmgefpjdfenaaGreat

/- Lists of amounts, and their sums: the program's Sum and the document's. -/
namespace Go.Proofs.YtknmgefpjdfenaaGreat
set_option maxRecDepth 100000
set_option maxHeartbeats 8000000
open Go.RowKit Go.Shelf Ieee
set_option linter.unusedVariables false

def itV (p:Nat × Nat × Int × Int):Value:=.complex .f64 p.1 p.2.1
def itOk (p:Nat × Nat × Int × Int):Prop:=Rd p.1 p.2.2.1∧Rd p.2.1 p.2.2.2∧inA p.2.2.1∧inA p.2.2.2

def pb (L:List (Nat × Nat × Int × Int)) (k:Nat):Int:=((L.take k).map (fun p=>p.2.2.1)).sum
def pi (L:List (Nat × Nat × Int × Int)) (k:Nat):Int:=((L.take k).map (fun p=>p.2.2.2)).sum
def lb (L:List (Nat × Nat × Int × Int)):Int:=(L.map (fun p=>p.2.2.1)).sum
def li (L:List (Nat × Nat × Int × Int)):Int:=(L.map (fun p=>p.2.2.2)).sum

theorem pb_next {L:List (Nat × Nat × Int × Int)} {k:Nat} {p:Nat × Nat × Int × Int} (h:L[k]?=some p):pb L (k + 1)=pb L k + p.2.2.1∧pi L (k + 1)=pi L k + p.2.2.2:=by
 unfold pb pi
 rw [List.take_add_one,List.map_append,List.sum_append,List.map_append,List.sum_append,h]
 simp

theorem pb_all (L:List (Nat × Nat × Int × Int)):pb L L.length=lb L∧pi L L.length=li L:=by
 unfold pb pi lb li
 rw [List.take_length]
 exact ⟨rfl,rfl⟩

theorem pb_bd {L:List (Nat × Nat × Int × Int)} (h:∀ p ∈ L,itOk p):∀ k,0 ≤ pb L k∧pb L k ≤ 1073741824 * k∧0 ≤ pi L k∧pi L k ≤ 1073741824 * k
 | 0=>by simp [pb,pi]
 | k + 1=>by
  have ih:=pb_bd h k
  by_cases hk:k < L.length
  ·have hp:L[k]?=some L[k]:=List.getElem?_eq_getElem hk
   obtain ⟨_,_,h3,h4⟩:=h L[k] (List.getElem_mem hk)
   obtain ⟨e1,e2⟩:=pb_next hp
   unfold inA at h3 h4
   rw [e1,e2]
   omega
  ·have e1:L.take (k + 1)=L.take k:=by rw [List.take_of_length_le (by omega),List.take_of_length_le (by omega)]
   unfold pb pi at *
   rw [e1]
   omega

def AHas (u:World) (a:Option Addr) (n:Nat) (L:List (Nat × Nat × Int × Int)):Prop :=
 L.length=n∧(∀ p ∈ L,itOk p)∧(0 < n→∃ b off,a=some ⟨b,off,none⟩∧∀ j p,L[j]?=some p→u.cell? ⟨b,off + j,none⟩=some (itV p))

theorem AHas.later {u u':World} {a:Option Addr} {n:Nat} {L:List (Nat × Nat × Int × Int)} (h:AHas u a n L) (hb:Below u.heap.size u u'):AHas u' a n L:=by
 refine ⟨h.1,h.2.1,fun hp=>?_⟩
 obtain ⟨b,off,e,hc⟩:=h.2.2 hp
 refine ⟨b,off,e,fun j p hj=>?_⟩
 have h1:=hc j p hj
 exact (hb.cell (p:=⟨b,off + j,none⟩) (cell_block_lt h1)).trans h1

theorem sum_nn:∀ {l:List Int},(∀ x ∈ l,0 ≤ x)→0 ≤ l.sum
 | [],_=>by simp
 | x :: r,h=>by
  have h1:=h x (List.mem_cons_self ..)
  have h2:=sum_nn (l:=r) (fun y hy=>h y (List.mem_cons_of_mem _ hy))
  rw [List.sum_cons]
  omega

theorem pb_le {L:List (Nat × Nat × Int × Int)} (h:∀ p ∈ L,itOk p) (k:Nat):pb L k ≤ lb L∧pi L k ≤ li L:=by
 have e:L.take k ++ L.drop k=L:=List.take_append_drop k L
 have e1:lb L=pb L k + ((L.drop k).map (fun p=>p.2.2.1)).sum:=by
  unfold lb pb
  rw [← List.sum_append,← List.map_append,e]
 have e2:li L=pi L k + ((L.drop k).map (fun p=>p.2.2.2)).sum:=by
  unfold li pi
  rw [← List.sum_append,← List.map_append,e]
 have n1:0 ≤ ((L.drop k).map (fun p=>p.2.2.1)).sum:=sum_nn (fun x hx=>by
  obtain ⟨p,hp,rfl⟩:=List.mem_map.1 hx
  exact (h p (List.mem_of_mem_drop hp)).2.2.1.1)
 have n2:0 ≤ ((L.drop k).map (fun p=>p.2.2.2)).sum:=sum_nn (fun x hx=>by
  obtain ⟨p,hp,rfl⟩:=List.mem_map.1 hx
  exact (h p (List.mem_of_mem_drop hp)).2.2.2.1)
 omega

theorem rsum_any (a:Option Addr) (n c:Nat) (L:List (Nat × Nat × Int × Int)) (w:World) (h:AHas w a n L) (hn:n ≤ 140737488351232) (hbd:lb L ≤ 4611686018427387904∧li L ≤ 4611686018427387904) :
  Calls Tryz.prog 111 #[.slice a n c] w fun e w'=>AnsA e (toE (lb L) (li L)) (toB (lb L) (li L)) (toI (lb L) (li L))∧w=w':=by
 have HL:=hide h
 have hlen:=h.1
 have HB:=hide (pb_bd h.2.1)
 have HD:Hid (∀ k,pb L k ≤ 4611686018427387904∧pi L k ≤ 4611686018427387904):=fun k=>⟨Int.le_trans (pb_le h.2.1 k).1 hbd.1,Int.le_trans (pb_le h.2.1 k).2 hbd.2⟩
 have HX:=hide hlen
 clear h hlen hbd
 go_enter Tryz.func111,Tryz.ntmps111
 go_wp2
 go_loop [4,5,6] (fun b i s=>∃ k:Nat,k ≤ n∧b=.int .i64 (pb L k)∧i=.int .i64 (pi L k)∧s=.int .i64 (k:Int)) (fun _ _ s=>n - (intOf s).toNat)
 case atStart=>exact ⟨0,Nat.zero_le _,rfl,rfl,rfl⟩
 case round =>
  obtain ⟨k,hk,rfl,rfl,rfl⟩:=hrel
  by_cases hlt:k < n
  ·obtain ⟨b,off,rfl,hc⟩:=(unhide HL).2.2 (by omega)
   obtain ⟨p,hp⟩:∃ p,L[k]?=some p:=⟨L[k]'(by rw [unhide HX]; exact hlt),List.getElem?_eq_getElem _⟩
   have hok:=(unhide HL).2.1 p (List.mem_of_getElem? hp)
   have e1:=hc k p hp
   obtain ⟨x,y,P,I⟩:=p
   change w.cell? ⟨b,off + k,none⟩=some (.complex .f64 x y) at e1
   have HE:=hide (pb_next hp)
   have HP:=hide (fun w=>rparts_ok x y P I w hok.1 hok.2.1 hok.2.2.1 hok.2.2.2)
   obtain ⟨i1,i2⟩:inA P∧inA I:=⟨hok.2.2.1,hok.2.2.2⟩
   have b1:=unhide HB k
   unfold inA at i1 i2
   have b2:0 ≤ pb L k∧pb L k ≤ 4611686018427387904:=⟨b1.1,(unhide HD k).1⟩
   have b3:0 ≤ pi L k∧pi L k ≤ 4611686018427387904:=⟨b1.2.2.1,(unhide HD k).2⟩
   have hlt':(k:Int) < (n:Int):=by omega
   clear hc hp hok b1 hlt
   have HM:Hid (pb L (k + 1)=pb L k + P∧pi L (k + 1)=pi L k + I):=HE
   clear HE
   generalize pb L k=pk at *
   generalize pi L k=ik at *
   go_wp2_with fail
   go_at_call 127
   refine (unhide HP _).mono ?_
   rintro r w2 ⟨rfl,rfl⟩
   clear HP
   go_wp2
   exact ⟨⟨k + 1,by omega,by rw [(unhide HM).1],by rw [(unhide HM).2],by go_num⟩,by simp [intOf]; omega⟩
  ·obtain rfl:k=n:=by omega
   have hb:=unhide HB k
   have HA:Hid (pb L k=lb L∧pi L k=li L):=by
    have:=pb_all L
    rw [unhide HX] at this
    exact this
   have HT:=hide (fun w=>ramount_total (pb L k) (pi L k) w hb.1 hb.2.2.1)
   clear hb hlt hk
   generalize pb L k=pk at *
   generalize pi L k=ik at *
   go_wp2_with fail
   go_at_call 125
   refine (unhide HT _).mono ?_
   rintro r w2 ⟨⟨u,v,rfl,hu,hv⟩,rfl⟩
   have HU:=hide (And.intro hu hv)
   clear hu hv HT
   go_wp2
   go_ret2
   obtain ⟨e1,e2⟩:=unhide HA
   rw [← e1,← e2]
   exact ⟨⟨u,v,rfl,(unhide HU).1,(unhide HU).2⟩,rfl⟩

end Go.Proofs.YtknmgefpjdfenaaGreat

/- The document's Tree: it makes a list of amounts, and sums them up. -/
namespace Go.Proofs.YtknmgefpjdfenaaGreat
set_option maxRecDepth 100000
set_option maxHeartbeats 8000000
open Go.RowKit Go.Shelf Ieee
set_option linter.unusedVariables false

theorem info_cx:(Tryz.prog.info? 58).map (fun i=>(i.zero,i.size,i.bytes))=some (some (.complex .f64 0 0),1,16):=by kernel_rfl

def LA (B:Nat) (u:World) (v:Value) (L:List (Nat × Nat × Int × Int)):Prop:=u.ownsRow B 58 1 v L.length (L.map itV)∧∀ p ∈ L,itOk p

theorem LA.later {B:Nat} {u u':World} {v:Value} {L:List (Nat × Nat × Int × Int)} (h:LA B u v L) (hb:Below u.heap.size u u'):LA B u' v L:=by
 obtain ⟨⟨h1,h2⟩,h3⟩:=h
 refine ⟨⟨h1,?_⟩,h3⟩
 rcases h2 with h2 | ⟨g,cap,cur,e,hg,hh,k1,k2,k3,k4⟩
 ·exact .inl h2
 ·exact .inr ⟨g,cap,cur,e,hg,(hb.block g (Array.getElem?_eq_some_iff.1 hh).1).trans hh,k1,k2,k3,k4⟩

theorem LA.nil (B:Nat) (u:World):LA B u (.slice none 0 0) []:=⟨⟨rfl,.inl ⟨rfl,rfl⟩⟩,fun p hp=>by simp at hp⟩

theorem LA.app {B:Nat} {u:World} {v:Value} {L:List (Nat × Nat × Int × Int)} (h:LA B u v L) (hB:B ≤ u.heap.size) (p:Nat × Nat × Int × Int) (hp:itOk p) (hn:L.length ≤ 1800000000002) :
  ∃ v' w',(∀ ty,(Builtin.append_ #[145,145] ty #[v,.slice (some ⟨u.heap.size,0,none⟩) 1 1]).run Tryz.prog (u.alloc (.cells #[.complex .f64 p.1 p.2.1] 58))=.ok v' w')∧LA B w' v' (L ++ [p])∧Below B u w':=by
 obtain ⟨i0,hi,hz0,hz1,hz2⟩:=info_parts info_cx
 have hb0:Below u.heap.size u (u.alloc (.cells #[.complex .f64 p.1 p.2.1] 58)):=(Below.refl _ u).alloc (Nat.le_refl _) _
 have h':=h.later hb0
 have hnews:∀ (j:Nat) (x:Value),[itV p][j]?=some x→(u.alloc (.cells #[.complex .f64 p.1 p.2.1] 58)).cell? ((⟨u.heap.size,0,none⟩:Addr).add j)=some x:=by
  intro j x hj
  have h0:j=0:=by
   have:=(List.getElem?_eq_some_iff.1 hj).1
   simp at this
   exact this
  subst h0
  simp at hj
  subst hj
  rw [World.add_zero_spot]
  simp [go_sem,itV]
 obtain ⟨v',w',hr,ho,hg,_⟩:=run_append_own (P:=Tryz.prog) (u.alloc (.cells #[.complex .f64 p.1 p.2.1] 58)) B 145 0 58 i0 (.complex .f64 0 0) 1 16 (by kernel_rfl) hi hz0 hz1 hz2 rfl (by decide) v L.length (L.map itV) h'.1 ⟨u.heap.size,0,none⟩ 1 1 [itV p] (by simp) hnews (by simp [itV,Value.oneCell']) (by unfold maxLen; omega) (by omega) (by simp; omega)
 refine ⟨v',w',fun ty=>hr,⟨?_,?_⟩,?_⟩
 ·have e:(L ++ [p]).map itV=L.map itV ++ [itV p]:=by simp
  have e2:(L ++ [p]).length=L.length + 1:=by simp
  rw [e,e2]
  exact ho
 ·intro q hq
  simp at hq
  rcases hq with hq | rfl
  ·exact h.2 q hq
  ·exact hp
 ·refine Below.grown ((hb0.mono hB)) hg (by simp; omega) ?_
  intro k hk
  rcases h.1.2 with ⟨rfl,_⟩ | ⟨g,cap,cur,rfl,hg2,_⟩
  ·simp [Value.ownBlock] at hk
  ·simp [Value.ownBlock] at hk
   omega

theorem LA.has {B:Nat} {u:World} {v:Value} {L:List (Nat × Nat × Int × Int)} (h:LA B u v L):∃ a c,v=.slice a L.length c∧AHas u a L.length L:=by
 obtain ⟨⟨h1,h2⟩,h3⟩:=h
 rcases h2 with ⟨rfl,h0⟩ | ⟨g,cap,cur,rfl,hg,hh,k1,k2,k3,k4⟩
 ·refine ⟨none,0,by rw [h0],rfl,h3,fun hp=>by omega⟩
 ·refine ⟨_,cap,rfl,rfl,h3,fun hp=>⟨g,0,rfl,fun j p hj=>?_⟩⟩
  have hjl:=(List.getElem?_eq_some_iff.1 hj).1
  rw [Nat.zero_add]
  rw [Nat.mul_one] at k4
  have hx:(cur.toList.take L.length)[j]?=some (itV p):=by rw [k4,List.getElem?_map,hj]; rfl
  rw [List.getElem?_take_of_lt hjl] at hx
  simp only [World.cell?,hh]
  simpa using hx

theorem lb_app (L:List (Nat × Nat × Int × Int)) (p:Nat × Nat × Int × Int):lb (L ++ [p])=lb L + p.2.2.1∧li (L ++ [p])=li L + p.2.2.2:=by
 unfold lb li
 simp

def RT1 (w:World) (P:Nat→Int) (F:List Int) (k:Nat) (v:Value) (u:World):Prop:=KpN w P u∧allOk (whE P) F k∧∃ L,LA (w.heap.size + 1) u v L∧L.length=k∧lb L=pre (flB P) F k∧li L=pre (flI P) F k

def RT2 (w:World) (P:Nat→Int) (F D:List Int) (k:Nat) (v:Value) (u:World):Prop:=KpN w P u∧allOk (whE P) F F.length∧allOk (drE P) D k∧∃ L,LA (w.heap.size + 1) u v L∧L.length=F.length + k∧lb L=(F.map (flB P)).sum + pre (drB P) D k∧li L=(F.map (flI P)).sum + pre (drI P) D k

theorem KpN.grow {w u u':World} {P:Nat→Int} (h:KpN w P u) (hb:Below (w.heap.size + 1) u u'):KpN w P u' :=
 ⟨h.1.below hb (by omega),h.2.trans (hb.mono (by omega))⟩

theorem RT1.next {w:World} {P:Nat→Int} {F:List Int} {k x y:Nat} {v:Value} {s s':World} (h:RT1 w P F k v s) (hk:k < F.length) (hF:F.length ≤ 1800000000002) (hb:Below s.heap.size s s') (hE:whE P (F[k]?.getD 0)=0) (hx:Rd x (flB P (F[k]?.getD 0))) (hy:Rd y (flI P (F[k]?.getD 0))) :
  ∃ v' w',(∀ ty,(Builtin.append_ #[145,145] ty #[v,.slice (some ⟨s'.heap.size,0,none⟩) 1 1]).run Tryz.prog (s'.alloc (.cells #[.complex .f64 x y] 58))=.ok v' w')∧RT1 w P F (k + 1) v' w':=by
 obtain ⟨h1,h2,L,h3,h4,h5,h6⟩:=h
 have hd:=flB_bd (P:=P) (n:=F[k]?.getD 0)
 have hK:=h1.call hb
 have hsz:w.heap.size + 1 ≤ s'.heap.size:=by have:=hK.1.lt; omega
 obtain ⟨v',w',hr,hL,hB⟩:=(h3.later hb).app hsz (x,y,flB P (F[k]?.getD 0),flI P (F[k]?.getD 0)) ⟨hx,hy,show inA (flB P _) from ⟨by omega,by omega⟩,show inA (flI P _) from ⟨by omega,by omega⟩⟩ (by omega)
 refine ⟨v',w',hr,hK.grow hB,allOk_next h2 hE,L ++ [_],hL,by simp; omega,?_,?_⟩
 ·rw [(lb_app _ _).1,pre_next _ _ _ hk,h5]
 ·rw [(lb_app _ _).2,pre_next _ _ _ hk,h6]

theorem RT2.next {w:World} {P:Nat→Int} {F D:List Int} {k x y:Nat} {v:Value} {s s':World} (h:RT2 w P F D k v s) (hk:k < D.length) (hF:F.length + D.length ≤ 1800000000002) (hb:Below s.heap.size s s') (hE:drE P (D[k]?.getD 0)=0) (hx:Rd x (drB P (D[k]?.getD 0))) (hy:Rd y (drI P (D[k]?.getD 0))) :
  ∃ v' w',(∀ ty,(Builtin.append_ #[145,145] ty #[v,.slice (some ⟨s'.heap.size,0,none⟩) 1 1]).run Tryz.prog (s'.alloc (.cells #[.complex .f64 x y] 58))=.ok v' w')∧RT2 w P F D (k + 1) v' w':=by
 obtain ⟨h1,h2,h2',L,h3,h4,h5,h6⟩:=h
 have hd:=drB_bd (P:=P) (k:=D[k]?.getD 0)
 have hK:=h1.call hb
 have hsz:w.heap.size + 1 ≤ s'.heap.size:=by have:=hK.1.lt; omega
 obtain ⟨v',w',hr,hL,hB⟩:=(h3.later hb).app hsz (x,y,drB P (D[k]?.getD 0),drI P (D[k]?.getD 0)) ⟨hx,hy,show inA (drB P _) from ⟨by omega,by omega⟩,show inA (drI P _) from ⟨by omega,by omega⟩⟩ (by omega)
 refine ⟨v',w',hr,hK.grow hB,h2,allOk_next h2' hE,L ++ [_],hL,by simp; omega,?_,?_⟩
 ·rw [(lb_app _ _).1,pre_next _ _ _ hk,h5]; dsimp only; omega
 ·rw [(lb_app _ _).2,pre_next _ _ _ hk,h6]; dsimp only; omega

theorem RT1.done {w:World} {P:Nat→Int} {F:List Int} {v:Value} {s:World} (D:List Int) (h:RT1 w P F F.length v s):RT2 w P F D 0 v s:=by
 obtain ⟨h1,h2,L,h3,h4,h5,h6⟩:=h
 rw [pre_all] at h5 h6
 exact ⟨h1,h2,fun j hj=>by omega,L,h3,by omega,by rw [pre_zero]; omega,by rw [pre_zero]; omega⟩

theorem rtree_form (P:Nat→Int) (a1 a2:Option Addr) (l1 c1 l2 c2:Nat) (F D:List Int) (w:World) (h:checkE P ≠ 0) :
  Calls Tryz.prog 91 #[PvN P,.slice a1 l1 c1,.slice a2 l2 c2] w fun e w'=>AnsA e (trEN P F D) (trB P F D) (trI P F D)∧Below w.heap.size w w':=by
 obtain ⟨e1,e2,e3⟩:=tr_form (F:=F) (D:=D) h
 rw [e1,e2,e3]
 have H1:=hide (refCheck_any P)
 have HK:=hide (KpN.start w P)
 have h4:checkE P=4:=by have:=checkE_two P; omega
 rw [h4] at H1
 clear h h4 e1 e2 e3
 go_enter Tryz.func91,Tryz.ntmps91
 go_wp2_with fail
 go_at_call 108
 refine (unhide H1 _).mono ?_
 rintro r w1 ⟨rfl,hx⟩
 replace HK:=hide ((unhide HK).call hx)
 clear hx H1
 go_wp2
 go_ret2
 exact ⟨⟨0,0,rfl,rd_zero,rd_zero⟩,(unhide HK).2⟩

def Kq (w wr:World) (P:Nat→Int) (b o:Nat) (z:Int) (u:World):Prop:=KpN w P wr∧wr.cell? ⟨b,o,none⟩=some (.int .i64 z)∧Below wr.heap.size wr u

theorem Kq.start {w wr:World} {P:Nat→Int} {b o:Nat} {z:Int} (h:KpN w P wr) (g:wr.cell? ⟨b,o,none⟩=some (.int .i64 z)):Kq w wr P b o z wr:=⟨h,g,Below.refl _ _⟩

theorem Kq.drew {w wr u:World} {P:Nat→Int} {b o:Nat} {z:Int} (h:Kq w wr P b o z u):Kq w wr P b o z u.drew:=⟨h.1,h.2.1,h.2.2.drew⟩

theorem Kq.call {w wr u u':World} {P:Nat→Int} {b o:Nat} {z:Int} (h:Kq w wr P b o z u) (hb:Below u.heap.size u u'):Kq w wr P b o z u':=⟨h.1,h.2.1,h.2.2.trans (hb.mono h.2.2.size)⟩

theorem Kq.js {w wr u:World} {P:Nat→Int} {b o:Nat} {z:Int} (h:Kq w wr P b o z u):Hid (Kq w wr P b o z u)∧u.cell? ⟨b,o,none⟩=some (.int .i64 z)∧u.cell? ⟨w.heap.size,0,none⟩=some (.int .i64 (P 0))∧u.cell? ⟨w.heap.size,1,none⟩=some (.int .i64 (P 1))∧u.cell? ⟨w.heap.size,2,none⟩=some (.int .i64 (P 2))∧u.cell? ⟨w.heap.size,3,none⟩=some (.int .i64 (P 3))∧u.cell? ⟨w.heap.size,4,none⟩=some (.int .i64 (P 4))∧u.cell? ⟨w.heap.size,5,none⟩=some (.int .i64 (P 5))∧u.cell? ⟨w.heap.size,6,none⟩=some (.int .i64 (P 6))∧u.cell? ⟨w.heap.size,7,none⟩=some (.int .i64 (P 7))∧u.cell? ⟨w.heap.size,8,none⟩=some (.int .i64 (P 8))∧u.cell? ⟨w.heap.size,9,none⟩=some (.int .i64 (P 9))∧u.cell? ⟨w.heap.size,10,none⟩=some (.int .i64 (P 10))∧u.cell? ⟨w.heap.size,11,none⟩=some (.int .i64 (P 11)) :=
 ⟨hide h,(h.2.2.cell (p:=⟨b,o,none⟩) (cell_block_lt h.2.1)).trans h.2.1,(h.1.call h.2.2).cells⟩

theorem sum_le {f:Int→Int} {c:Int} (h:∀ z,f z ≤ c):∀ l:List Int,(l.map f).sum ≤ c * l.length
 | []=>by simp
 | x :: r=>by
  have h1:=h x
  have h2:=sum_le h r
  rw [List.map_cons,List.sum_cons,List.length_cons]
  have e:c * ((r.length + 1:Nat):Int)=c * r.length + c:=by rw [Int.natCast_add,Int.mul_add]; simp
  omega

theorem su_bd {P:Nat→Int} {F D:List Int} (h:F.length + D.length ≤ 1800000000002):suB P F D ≤ 4611686018427387904∧suI P F D ≤ 4611686018427387904:=by
 have b1:=sum_le (f:=flB P) (c:=1073741) (fun z=>(flB_bd (P:=P) (n:=z)).2.1) F
 have b2:=sum_le (f:=drB P) (c:=1073741) (fun z=>(drB_bd (P:=P) (k:=z)).2.1) D
 have b3:=sum_le (f:=flI P) (c:=1) (fun z=>(flB_bd (P:=P) (n:=z)).2.2.2.1) F
 have b4:=sum_le (f:=drI P) (c:=1) (fun z=>(drB_bd (P:=P) (k:=z)).2.2.2) D
 unfold suB suI
 omega

theorem rtree_good (P:Nat→Int) (a1 a2:Option Addr) (l1 c1 l2 c2:Nat) (F D:List Int) (w:World) (h:checkE P=0) (h1:IHas w a1 l1 F) (h2:IHas w a2 l2 D) (hl:l1 + l2 ≤ 1800000000002) :
  Calls Tryz.prog 91 #[PvN P,.slice a1 l1 c1,.slice a2 l2 c2] w fun e w'=>AnsA e (trEN P F D) (trB P F D) (trI P F D)∧Below w.heap.size w w':=by
 have H1:=hide (refCheck_any P)
 have HK:=hide (KpN.start w P)
 rw [h] at H1
 have HC:=hide h
 have HF:=hide h1
 have HD:=hide h2
 have L1:Hid (F.length=l1):=h1.1
 have L2:Hid (D.length=l2):=h2.1
 have l1b:l1 ≤ 1800000000002:=by omega
 have l2b:l2 ≤ 1800000000002:=by omega
 have HL:=hide hl
 clear h h1 h2 hl
 have H2:=hide (rfile_any P)
 have H3:=hide (rdir_any P)
 go_enter Tryz.func91,Tryz.ntmps91
 go_wp2_with fail
 go_at_call 108
 refine (unhide H1 _).mono ?_
 rintro r w1 ⟨rfl,hx⟩
 replace HK:=hide ((unhide HK).call hx)
 clear hx H1
 go_wp2
 go_loopw [8,9] (fun s i wr=>∃ k:Nat,i=.int .i64 (k:Int)∧k ≤ l1∧Hid (RT1 w P F k s wr)) (fun _ i _=>l1 - (intOf i).toNat)
 case atStart=>exact ⟨0,rfl,Nat.zero_le _,hide ⟨unhide HK,fun j hj=>by omega,[],LA.nil _ _,rfl,rfl,rfl⟩⟩
 case round =>
  obtain ⟨k,rfl,hk,hJ⟩:=hrel
  clear HK
  by_cases hlt:k < l1
  ·obtain ⟨b1,o1,rfl,hc1⟩:=((unhide HF).later (unhide hJ).1.2).2 (by omega)
   have g1:=hc1 k hlt
   have HE:=hide (fun x y s' hb=>(unhide hJ).next (x:=x) (y:=y) (s':=s') (by rw [unhide L1]; exact hlt) (by rw [unhide L1]; exact l1b) hb)
   have HX:=hide (fun hz=>er_file (P:=P) (F:=F) (D:=D) (k:=k) (by rw [unhide L1]; exact hlt) (unhide hJ).2.1 hz)
   generalize F[k]?.getD 0=z at *
   obtain ⟨f0,f1,f2,f3,f4,f5,f6,f7,f8,f9,f10,f11⟩:=(unhide hJ).1.cells
   have hlt':(k:Int) < (l1:Int):=by omega
   clear hc1 hlt
   go_wp2
   have HQ:=hide (Kq.start (unhide hJ).1 g1)
   go_region_held3 (fun u=>Hid (Kq w wr P b1 (o1 + k) z u)∧u.cell? ⟨b1,o1 + k,none⟩=some (.int .i64 z)∧u.cell? ⟨w.heap.size,0,none⟩=some (.int .i64 (P 0))∧u.cell? ⟨w.heap.size,1,none⟩=some (.int .i64 (P 1))∧u.cell? ⟨w.heap.size,2,none⟩=some (.int .i64 (P 2))∧u.cell? ⟨w.heap.size,3,none⟩=some (.int .i64 (P 3))∧u.cell? ⟨w.heap.size,4,none⟩=some (.int .i64 (P 4))∧u.cell? ⟨w.heap.size,5,none⟩=some (.int .i64 (P 5))∧u.cell? ⟨w.heap.size,6,none⟩=some (.int .i64 (P 6))∧u.cell? ⟨w.heap.size,7,none⟩=some (.int .i64 (P 7))∧u.cell? ⟨w.heap.size,8,none⟩=some (.int .i64 (P 8))∧u.cell? ⟨w.heap.size,9,none⟩=some (.int .i64 (P 9))∧u.cell? ⟨w.heap.size,10,none⟩=some (.int .i64 (P 10))∧u.cell? ⟨w.heap.size,11,none⟩=some (.int .i64 (P 11)))
    (with_reducible (first | exact (unhide HQ).drew.js | exact (unhide J1).js | exact (unhide HQ).js))
    ((go_at_call 109; refine (unhide H2 _ _).mono ?_; rintro e w6 ⟨⟨x,y,rfl,hx,hy⟩,hb⟩; have J1:Hid (Kq w wr P b1 (o1 + k) z w6):=Kq.call (unhide (‹Hid (Kq w wr P b1 (o1 + k) z _)∧_›).1) hb; have HU:=hide (And.intro hx hy); clear hb hx hy))
   all_goals
    have jj:=hide (unhide (‹Hid (Kq w wr P b1 (o1 + k) z _)∧_›).1).2.2
    clear f0 f1 f2 f3 f4 f5 f6 f7 f8 f9 f10 f11 g1 HQ
    by_cases hz:whE P z=0
    ·obtain ⟨v',w',R,hN⟩:=unhide HE x y _ (unhide jj) hz (unhide HU).1 (unhide HU).2
     have HR:=hide R
     have HN:=hide hN
     rw [hz]
     clear R hN HE HX HU hz hJ jj
     go_wp2_with (at_builtin; refine wpList_append_run 145 rfl _ _ rfl _ _ _ rfl rfl (unhide HR) ?_; clear HR)
     exact ⟨⟨k + 1,by go_num,by omega,HN⟩,by simp [intOf]; omega⟩
    ·have HT:=hide (tr_err (unhide HC) (unhide HX hz) hz)
     clear HE HX HU
     generalize whE P z=E at *
     go_wp2
     go_ret2
     rw [(unhide HT).1,(unhide HT).2.1,(unhide HT).2.2]
     exact ⟨⟨0,0,rfl,rd_zero,rd_zero⟩,((unhide hJ).1.call (unhide jj)).2⟩
  ·obtain rfl:k=l1:=by omega
   have hJ2:=unhide hJ
   rw [← unhide L1] at hJ2
   replace hJ2:=hide (hJ2.done D)
   clear hJ hlt hk
   go_wp2
   go_loopw [8,12] (fun s i wr=>∃ j:Nat,i=.int .i64 (j:Int)∧j ≤ l2∧Hid (RT2 w P F D j s wr)) (fun _ i _=>l2 - (intOf i).toNat)
   case atStart=>exact ⟨0,rfl,Nat.zero_le _,hJ2⟩
   case round =>
    obtain ⟨j,rfl,hk,hJ⟩:=hrel
    clear hJ2
    by_cases hlt:j < l2
    ·obtain ⟨b1,o1,rfl,hc1⟩:=((unhide HD).later (unhide hJ).1.2).2 (by omega)
     have g1:=hc1 j hlt
     have HE:=hide (fun x y s' hb=>(unhide hJ).next (x:=x) (y:=y) (s':=s') (by rw [unhide L2]; exact hlt) (by rw [unhide L1,unhide L2]; exact unhide HL) hb)
     have HX:=hide (fun hz=>er_dir (P:=P) (F:=F) (D:=D) (k:=j) (unhide hJ).2.1 (by rw [unhide L2]; exact hlt) (unhide hJ).2.2.1 hz)
     generalize D[j]?.getD 0=z at *
     obtain ⟨f0,f1,f2,f3,f4,f5,f6,f7,f8,f9,f10,f11⟩:=(unhide hJ).1.cells
     have hlt':(j:Int) < (l2:Int):=by omega
     clear hc1 hlt
     go_wp2
     have HQ:=hide (Kq.start (unhide hJ).1 g1)
     go_region_held3 (fun u=>Hid (Kq w wr P b1 (o1 + j) z u)∧u.cell? ⟨b1,o1 + j,none⟩=some (.int .i64 z)∧u.cell? ⟨w.heap.size,0,none⟩=some (.int .i64 (P 0))∧u.cell? ⟨w.heap.size,1,none⟩=some (.int .i64 (P 1))∧u.cell? ⟨w.heap.size,2,none⟩=some (.int .i64 (P 2))∧u.cell? ⟨w.heap.size,3,none⟩=some (.int .i64 (P 3))∧u.cell? ⟨w.heap.size,4,none⟩=some (.int .i64 (P 4))∧u.cell? ⟨w.heap.size,5,none⟩=some (.int .i64 (P 5))∧u.cell? ⟨w.heap.size,6,none⟩=some (.int .i64 (P 6))∧u.cell? ⟨w.heap.size,7,none⟩=some (.int .i64 (P 7))∧u.cell? ⟨w.heap.size,8,none⟩=some (.int .i64 (P 8))∧u.cell? ⟨w.heap.size,9,none⟩=some (.int .i64 (P 9))∧u.cell? ⟨w.heap.size,10,none⟩=some (.int .i64 (P 10))∧u.cell? ⟨w.heap.size,11,none⟩=some (.int .i64 (P 11)))
      (with_reducible (first | exact (unhide HQ).drew.js | exact (unhide J1).js | exact (unhide HQ).js))
      ((go_at_call 110; refine (unhide H3 _ _).mono ?_; rintro e w6 ⟨⟨x,y,rfl,hx,hy⟩,hb⟩; have J1:Hid (Kq w wr P b1 (o1 + j) z w6):=Kq.call (unhide (‹Hid (Kq w wr P b1 (o1 + j) z _)∧_›).1) hb; have HU:=hide (And.intro hx hy); clear hb hx hy))
     all_goals
      have jj:=hide (unhide (‹Hid (Kq w wr P b1 (o1 + j) z _)∧_›).1).2.2
      clear f0 f1 f2 f3 f4 f5 f6 f7 f8 f9 f10 f11 g1 HQ
      by_cases hz:drE P z=0
      ·obtain ⟨v',w',R,hN⟩:=unhide HE x y _ (unhide jj) hz (unhide HU).1 (unhide HU).2
       have HR:=hide R
       have HN:=hide hN
       rw [hz]
       clear R hN HE HX HU hz hJ jj
       go_wp2_with (at_builtin; refine wpList_append_run 145 rfl _ _ rfl _ _ _ rfl rfl (unhide HR) ?_; clear HR)
       exact ⟨⟨j + 1,by go_num,by omega,HN⟩,by simp [intOf]; omega⟩
      ·have HT:=hide (tr_err (unhide HC) (unhide HX hz) hz)
       clear HE HX HU
       generalize drE P z=E at *
       go_wp2
       go_ret2
       rw [(unhide HT).1,(unhide HT).2.1,(unhide HT).2.2]
       exact ⟨⟨0,0,rfl,rd_zero,rd_zero⟩,((unhide hJ).1.call (unhide jj)).2⟩
    ·obtain rfl:j=l2:=by omega
     have HT:=hide (tr_sum (unhide HC) (er_none (unhide hJ).2.1 (by have:=(unhide hJ).2.2.1; rw [← unhide L2] at this; exact this)))
     obtain ⟨hK,_,_,L,hL,hlen,hB,hI⟩:=unhide hJ
     obtain ⟨a,c,rfl,hA⟩:=hL.has
     rw [← unhide L2,pre_all] at hB hI
     have HS:Hid (lb L=suB P F D∧li L=suI P F D):=⟨hB,hI⟩
     have H4:=hide (fun w1 hb=>rsum_any a L.length c L w1 (hA.later hb) (by rw [hlen,unhide L1]; have:=unhide HL; omega) (by rw [hB,hI]; exact su_bd (by rw [unhide L1,unhide L2]; have:=unhide HL; omega)))
     rw [(unhide HS).1,(unhide HS).2] at H4
     have HK:=hide hK
     clear hK hL hlen hB hI hA hlt hk hJ HS
     generalize L.length=n at *
     go_wp2_with fail
     go_at_call 111
     refine (unhide H4 _ (Below.refl _ _)).mono ?_
     rintro r w2 ⟨⟨u,v,rfl,hu,hv⟩,rfl⟩
     have HU:=hide (And.intro hu hv)
     clear hu hv
     go_wp2
     go_ret2
     rw [(unhide HT).1,(unhide HT).2.1,(unhide HT).2.2]
     exact ⟨⟨u,v,rfl,(unhide HU).1,(unhide HU).2⟩,(unhide HK).2⟩

theorem rtree_any (P:Nat→Int) (a1 a2:Option Addr) (l1 c1 l2 c2:Nat) (F D:List Int) (w:World) (h1:IHas w a1 l1 F) (h2:IHas w a2 l2 D) (hl:l1 + l2 ≤ 1800000000002) :
  Calls Tryz.prog 91 #[PvN P,.slice a1 l1 c1,.slice a2 l2 c2] w fun e w'=>AnsA e (trEN P F D) (trB P F D) (trI P F D)∧Below w.heap.size w w':=by
 by_cases h:checkE P=0
 ·exact rtree_good P a1 a2 l1 c1 l2 c2 F D w h h1 h2 hl
 ·exact rtree_form P a1 a2 l1 c1 l2 c2 F D w h

end Go.Proofs.YtknmgefpjdfenaaGreat

/- The program's Tree. -/
namespace Go.Proofs.YtknmgefpjdfenaaGreat
set_option maxRecDepth 100000
set_option maxHeartbeats 8000000
open Go.RowKit Go.Shelf Ieee
set_option linter.unusedVariables false

def NT1 (w:World) (P:Nat→Int) (F:List Int) (k x y:Nat) (u:World):Prop:=KpN w P u∧Am x (pre (flB P) F k)∧Am y (pre (flI P) F k)∧allOk (whE P) F k

def NT2 (w:World) (P:Nat→Int) (F D:List Int) (k x y:Nat) (u:World):Prop:=KpN w P u∧Am x ((F.map (flB P)).sum + pre (drB P) D k)∧Am y ((F.map (flI P)).sum + pre (drI P) D k)∧allOk (whE P) F F.length∧allOk (drE P) D k

theorem NT1.next {w:World} {P:Nat→Int} {F:List Int} {k x y u v:Nat} {s s':World} (h:NT1 w P F k x y s) (hk:k < F.length) (hb:Below s.heap.size s s') (hE:whE P (F[k]?.getD 0)=0) (hu:Rd u (flB P (F[k]?.getD 0))) (hv:Rd v (flI P (F[k]?.getD 0))) :
  ∃ p q,cSumBits .add .f64 x y u v=some (p,q)∧NT1 w P F (k + 1) p q s':=by
 have hd:=flB_bd (P:=P) (n:=F[k]?.getD 0)
 obtain ⟨p,q,e,h1,h2⟩:=am_two h.2.1 h.2.2.1 hu hv (by omega) (by omega)
 refine ⟨p,q,e,h.1.call hb,?_,?_,allOk_next h.2.2.2 hE⟩
 ·rw [pre_next _ _ _ hk]; exact h1
 ·rw [pre_next _ _ _ hk]; exact h2

theorem NT2.next {w:World} {P:Nat→Int} {F D:List Int} {k x y u v:Nat} {s s':World} (h:NT2 w P F D k x y s) (hk:k < D.length) (hb:Below s.heap.size s s') (hE:drE P (D[k]?.getD 0)=0) (hu:Rd u (drB P (D[k]?.getD 0))) (hv:Rd v (drI P (D[k]?.getD 0))) :
  ∃ p q,cSumBits .add .f64 x y u v=some (p,q)∧NT2 w P F D (k + 1) p q s':=by
 have hd:=drB_bd (P:=P) (k:=D[k]?.getD 0)
 obtain ⟨p,q,e,h1,h2⟩:=am_two h.2.1 h.2.2.1 hu hv (by omega) (by omega)
 refine ⟨p,q,e,h.1.call hb,?_,?_,h.2.2.2.1,allOk_next h.2.2.2.2 hE⟩
 ·rw [pre_next _ _ _ hk,← Int.add_assoc]; exact h1
 ·rw [pre_next _ _ _ hk,← Int.add_assoc]; exact h2

theorem NT1.done {w:World} {P:Nat→Int} {F:List Int} {x y:Nat} {s:World} (D:List Int) (h:NT1 w P F F.length x y s):NT2 w P F D 0 x y s:=by
 obtain ⟨h1,h2,h3,h4⟩:=h
 rw [pre_all] at h2 h3
 refine ⟨h1,?_,?_,h4,fun j hj=>by omega⟩
 ·rw [pre_zero,Int.add_zero]; exact h2
 ·rw [pre_zero,Int.add_zero]; exact h3

theorem tree_form (P:Nat→Int) (a1 a2:Option Addr) (l1 c1 l2 c2:Nat) (F D:List Int) (w:World) (h:checkE P ≠ 0) :
  Calls Tryz.prog 65 #[PvN P,.slice a1 l1 c1,.slice a2 l2 c2] w fun e w'=>AnsA e (trEN P F D) (trB P F D) (trI P F D)∧Below w.heap.size w w':=by
 obtain ⟨e1,e2,e3⟩:=tr_form (F:=F) (D:=D) h
 rw [e1,e2,e3]
 have H1:=hide (check_any P)
 have HK:=hide (KpN.start w P)
 have h4:checkE P=4:=by have:=checkE_two P; omega
 rw [h4] at H1
 clear h h4 e1 e2 e3
 go_enter Tryz.func65,Tryz.ntmps65
 go_wp2_with fail
 go_at_call 100
 refine (unhide H1 _).mono ?_
 rintro r w1 ⟨rfl,hx⟩
 replace HK:=hide ((unhide HK).call hx)
 clear hx H1
 go_wp2
 go_ret2
 exact ⟨⟨0,0,rfl,rd_zero,rd_zero⟩,(unhide HK).2⟩

theorem tree_good (P:Nat→Int) (a1 a2:Option Addr) (l1 c1 l2 c2:Nat) (F D:List Int) (w:World) (h:checkE P=0) (h1:IHas w a1 l1 F) (h2:IHas w a2 l2 D) (hl1:l1 ≤ 140737488351232) (hl2:l2 ≤ 140737488351232) :
  Calls Tryz.prog 65 #[PvN P,.slice a1 l1 c1,.slice a2 l2 c2] w fun e w'=>AnsA e (trEN P F D) (trB P F D) (trI P F D)∧Below w.heap.size w w':=by
 have H1:=hide (check_any P)
 have HK:=hide (KpN.start w P)
 rw [h] at H1
 have HC:=hide h
 have HF:=hide h1
 have HD:=hide h2
 have L1:Hid (F.length=l1):=h1.1
 have L2:Hid (D.length=l2):=h2.1
 clear h h1 h2
 have H2:=hide (file_any P)
 have H3:=hide (dir_any P)
 have H4:=hide total_am
 go_enter Tryz.func65,Tryz.ntmps65
 go_wp2_with fail
 go_at_call 100
 refine (unhide H1 _).mono ?_
 rintro r w1 ⟨rfl,hx⟩
 replace HK:=hide ((unhide HK).call hx)
 clear hx H1
 go_wp2
 go_loopw [8,22] (fun s i wr=>∃ k x y:Nat,s=.complex .f64 x y∧i=.int .i64 (k:Int)∧k ≤ l1∧Hid (NT1 w P F k x y wr)) (fun _ i _=>l1 - (intOf i).toNat)
 case atStart=>exact ⟨0,0,0,rfl,rfl,Nat.zero_le _,hide ⟨unhide HK,am_of (n:=0) rd_zero (by omega) (by omega),am_of (n:=0) rd_zero (by omega) (by omega),fun j hj=>by omega⟩⟩
 case round =>
  obtain ⟨k,x,y,rfl,rfl,hk,hJ⟩:=hrel
  clear HK
  by_cases hlt:k < l1
  ·obtain ⟨b1,o1,rfl,hc1⟩:=((unhide HF).later (unhide hJ).1.2).2 (by omega)
   have g1:=hc1 k hlt
   have HE:=hide (fun u v s' hb=>(unhide hJ).next (u:=u) (v:=v) (s':=s') (by rw [unhide L1]; exact hlt) hb)
   have HX:=hide (fun hz=>er_file (P:=P) (F:=F) (D:=D) (k:=k) (by rw [unhide L1]; exact hlt) (unhide hJ).2.2.2 hz)
   generalize F[k]?.getD 0=z at *
   obtain ⟨f0,f1,f2,f3,f4,f5,f6,f7,f8,f9,f10,f11⟩:=(unhide hJ).1.cells
   have hlt':(k:Int) < (l1:Int):=by omega
   clear hc1 hlt
   go_wp2_with fail
   go_at_call 101
   refine (unhide H2 _ _).mono ?_
   rintro r w2 ⟨⟨u,v,rfl,hu,hv⟩,hb⟩
   have HU:=hide (And.intro hu hv)
   have HB:=hide hb
   clear hu hv hb f0 f1 f2 f3 f4 f5 f6 f7 f8 f9 f10 f11
   by_cases hz:whE P z=0
   ·obtain ⟨p,q,e,hN⟩:=unhide HE u v w2 (unhide HB) hz (unhide HU).1 (unhide HU).2
    have HN:=hide hN
    have sm:=fun w=>run_complex_sum (P:=Tryz.prog) w .add (.inl rfl) 58 .f64 x y u v p q e
    rw [hz]
    clear HE HX HU HB hN e hz hJ
    go_wp2
    exact ⟨⟨k + 1,p,q,rfl,by go_num,by omega,HN⟩,by simp [intOf]; omega⟩
   ·have HT:=hide (tr_err (unhide HC) (unhide HX hz) hz)
    clear HE HX HU
    generalize whE P z=E at *
    go_wp2
    go_ret2
    rw [(unhide HT).1,(unhide HT).2.1,(unhide HT).2.2]
    exact ⟨⟨0,0,rfl,rd_zero,rd_zero⟩,((unhide hJ).1.call (unhide HB)).2⟩
  ·obtain rfl:k=l1:=by omega
   have hJ2:Hid (NT2 w P F D 0 x y wr):=by
    have h:=unhide hJ
    rw [← unhide L1] at h
    exact h.done D
   clear hJ hlt hk
   go_wp2
   go_loopw [8,41] (fun s i wr=>∃ k x y:Nat,s=.complex .f64 x y∧i=.int .i64 (k:Int)∧k ≤ l2∧Hid (NT2 w P F D k x y wr)) (fun _ i _=>l2 - (intOf i).toNat)
   case atStart=>exact ⟨0,x,y,rfl,rfl,Nat.zero_le _,hJ2⟩
   case round =>
    obtain ⟨j,x,y,rfl,rfl,hk,hJ⟩:=hrel
    clear hJ2
    by_cases hlt:j < l2
    ·obtain ⟨b1,o1,rfl,hc1⟩:=((unhide HD).later (unhide hJ).1.2).2 (by omega)
     have g1:=hc1 j hlt
     have HE:=hide (fun u v s' hb=>(unhide hJ).next (u:=u) (v:=v) (s':=s') (by rw [unhide L2]; exact hlt) hb)
     have HX:=hide (fun hz=>er_dir (P:=P) (F:=F) (D:=D) (k:=j) (unhide hJ).2.2.2.1 (by rw [unhide L2]; exact hlt) (unhide hJ).2.2.2.2 hz)
     generalize D[j]?.getD 0=z at *
     obtain ⟨f0,f1,f2,f3,f4,f5,f6,f7,f8,f9,f10,f11⟩:=(unhide hJ).1.cells
     have hlt':(j:Int) < (l2:Int):=by omega
     clear hc1 hlt
     go_wp2_with fail
     go_at_call 102
     refine (unhide H3 _ _).mono ?_
     rintro r w2 ⟨⟨u,v,rfl,hu,hv⟩,hb⟩
     have HU:=hide (And.intro hu hv)
     have HB:=hide hb
     clear hu hv hb f0 f1 f2 f3 f4 f5 f6 f7 f8 f9 f10 f11
     by_cases hz:drE P z=0
     ·obtain ⟨p,q,e,hN⟩:=unhide HE u v w2 (unhide HB) hz (unhide HU).1 (unhide HU).2
      have HN:=hide hN
      have sm:=fun w=>run_complex_sum (P:=Tryz.prog) w .add (.inl rfl) 58 .f64 x y u v p q e
      rw [hz]
      clear HE HX HU HB hN e hz hJ
      go_wp2
      exact ⟨⟨j + 1,p,q,rfl,by go_num,by omega,HN⟩,by simp [intOf]; omega⟩
     ·have HT:=hide (tr_err (unhide HC) (unhide HX hz) hz)
      clear HE HX HU
      generalize drE P z=E at *
      go_wp2
      go_ret2
      rw [(unhide HT).1,(unhide HT).2.1,(unhide HT).2.2]
      exact ⟨⟨0,0,rfl,rd_zero,rd_zero⟩,((unhide hJ).1.call (unhide HB)).2⟩
    ·obtain rfl:j=l2:=by omega
     have HT:=hide (tr_sum (unhide HC) (er_none (unhide hJ).2.2.2.1 (by have:=(unhide hJ).2.2.2.2; rw [← unhide L2] at this; exact this)))
     have HS:Hid (Am x (suB P F D)∧Am y (suI P F D)):=by
      have h1:=(unhide hJ).2.1
      have h2:=(unhide hJ).2.2.1
      rw [← unhide L2,pre_all] at h1 h2
      exact ⟨h1,h2⟩
     clear hlt hk
     go_wp2_with fail
     go_at_call 103
     refine (unhide H4 x y _ _ _ (unhide HS).1 (unhide HS).2).mono ?_
     rintro r w2 ⟨⟨u,v,rfl,hu,hv⟩,rfl⟩
     have HU:=hide (And.intro hu hv)
     clear hu hv
     go_wp2
     go_ret2
     rw [(unhide HT).1,(unhide HT).2.1,(unhide HT).2.2]
     exact ⟨⟨u,v,rfl,(unhide HU).1,(unhide HU).2⟩,(unhide hJ).1.2⟩

theorem tree_any (P:Nat→Int) (a1 a2:Option Addr) (l1 c1 l2 c2:Nat) (F D:List Int) (w:World) (h1:IHas w a1 l1 F) (h2:IHas w a2 l2 D) (hl1:l1 ≤ 140737488351232) (hl2:l2 ≤ 140737488351232) :
  Calls Tryz.prog 65 #[PvN P,.slice a1 l1 c1,.slice a2 l2 c2] w fun e w'=>AnsA e (trEN P F D) (trB P F D) (trI P F D)∧Below w.heap.size w w':=by
 by_cases h:checkE P=0
 ·exact tree_good P a1 a2 l1 c1 l2 c2 F D w h h1 h2 hl1 hl2
 ·exact tree_form P a1 a2 l1 c1 l2 c2 F D w h

end Go.Proofs.YtknmgefpjdfenaaGreat

