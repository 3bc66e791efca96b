/- Joined: NAmt, AAlloc. -/
import Derived.Test.YtdfanhjnkjdngabGreatDoorAnJ1
import Derived.Test.YtdfanhjnkjdngabGreatDoorAnJ2
import Derived.Test.YtdfanhjnkjdngabGreatDoorAnJ46
import Derived.Deep.RegionHeld3
/- Amounts of blocks and inodes. -/
namespace Go.Proofs.YtdfanhjnkjdngabGreatDoor
set_option maxRecDepth 100000
set_option maxHeartbeats 8000000
open Go.RowKit Go.Shelf Ieee
set_option linter.unusedVariables false

theorem rd_of_int (n:Int) (h:-1125899906842624 ≤ n∧n ≤ 1125899906842624):Rd (floatOfInt .f64 n) n:=rd_int n (by omega)

def AnsA (r:Ending) (E B I:Int):Prop:=∃ x y,r=.returned (.tuple #[.complex .f64 x y,.int .i64 E])∧Rd x B∧Rd y I

def inA (b:Int):Prop:=0 ≤ b∧b ≤ 1073741824

theorem noutside_any (b:Int) (w:World) :
  Calls Tryz.prog 61 #[.int .i64 b] w fun e w'=>e=.returned (.bool (decide (b < 0 ∨ 1073741824 < b)))∧w=w':=by
 by_cases h1:b < 0
 ·go_enter Tryz.func61,Tryz.ntmps61
  go_wp2
  go_ret
  simp [h1]
 ·by_cases h2:1073741824 < b
  ·go_enter Tryz.func61,Tryz.ntmps61
   go_wp2
   go_ret
   simp
  ·go_enter Tryz.func61,Tryz.ntmps61
   go_wp2
   go_ret
   simp; omega

theorem amount_ok (b i:Int) (w:World) (hb:inA b) (hi:inA i) :
  Calls Tryz.prog 32 #[.int .i64 b,.int .i64 i] w fun e w'=>AnsA e 0 b i∧w=w':=by
 obtain ⟨b0,b1⟩:=hb
 obtain ⟨i0,i1⟩:=hi
 have e1:decide (b < 0 ∨ 1073741824 < b)=false:=decide_eq_false (by omega)
 have e2:decide (i < 0 ∨ 1073741824 < i)=false:=decide_eq_false (by omega)
 have H1:=hide (noutside_any b)
 have H2:=hide (noutside_any i)
 rw [e1] at H1
 rw [e2] at H2
 have HR:Hid (Rd (floatOfInt .f64 b) b∧Rd (floatOfInt .f64 i) i):=⟨rd_of_int b (by omega),rd_of_int i (by omega)⟩
 clear e1 e2 b0 b1 i0 i1
 go_enter Tryz.func32,Tryz.ntmps32
 go_wp2_with fail
 go_at_call 61
 refine (unhide H1 _).mono ?_
 rintro e w' ⟨rfl,rfl⟩
 go_wp2_with fail
 go_at_call 61
 refine (unhide H2 _).mono ?_
 rintro e w' ⟨rfl,rfl⟩
 go_wp2
 go_ret2
 exact ⟨⟨_,_,rfl,(unhide HR).1,(unhide HR).2⟩,rfl⟩

end Go.Proofs.YtdfanhjnkjdngabGreatDoor

/- The calls of an Alloc. -/
namespace Go.Proofs.YtdfanhjnkjdngabGreatDoor
set_option maxRecDepth 100000
set_option maxHeartbeats 8000000
open Go.RowKit Go.Shelf Go.Maps
set_option linter.unusedVariables false

structure Ab (P:Nat→Int) (G:Geo) (E:Nat→Bool) (bb da ni:Nat):Prop where
 p7:P 7=(bb:Int)
 p11:P 11=(da:Int)
 p2:P 2=(ni:Int)
 eb:E bb=true
 ei:E G.ib=true
 ed:∀ j,da ≤ j→j < G.n→E j=false
 dn:da ≤ G.n
 n8:G.n ≤ 8 * G.blk
 i8:ni ≤ 8 * G.blk
 b4:bb ≤ 4096
 ne:G.ib ≠ bb

theorem al_block {w:World} {P:Nat→Int} {G:Geo} {E:Nat→Bool} {g o:Nat} {rows:List (Nat × Obj)} {i:Nat} {V:Nat→List Int} {F:Nat→Bool} {V':Nat→List Int} {K:Nat→Bool} {u:World} {a:Nat} {bb da ni:Nat} (h:Lp w P G E g o rows i V F V' K u) (hA:Ab P G E bb da ni) (ha:(a,alO g P) ∈ rows) (h0:0 < w.heap.size) :
  Calls Tryz.prog 12 #[.pointer (some ⟨a,0,none⟩),.pointer (some ⟨o,0,none⟩)] u fun e u'=>e=.returned (.tuple #[.int .i64 (tkN (V' bb) K da G.n),.int .i64 (tkE (V' bb) K da G.n)])∧Hid (Lp w P G E g o rows i V F (fun j=>if j=bb then tkZ (V' bb) K da G.n else V' j) K u'):=by
 have hpg:=h.ok
 have hbk:=hpg.ok.blk
 have hp0:=hpg.p0
 have hp1:=hpg.p1
 have hal:Bl u a (alA g P) 78:=h.row ha
 have c0:=hal.cell 0 (.pointer (some ⟨g,0,none⟩)) rfl
 have KA:Hid (∀ v,Below u.heap.size u v→Calls Tryz.prog 27 #[.pointer (some ⟨a,0,none⟩)] v fun e w'=>e=.returned (Bv (bb:Int) (8 * P 0) (da:Int) (G.n:Int))∧Hid (Below u.heap.size u w')∧w'.cell? ⟨a,0,none⟩=some (.pointer (some ⟨g,0,none⟩))):=fun v hv=>by
  have hal2:Bl v a (alA g P) 78:=hal.call hv
  have:=ablocks_any (u:=v) (a:=a) (g:=g) (P:=P) hal2 (by omega)
  rw [hA.p7,hA.p11,hp1] at this
  refine this.mono ?_
  rintro e w' ⟨rfl,b1⟩
  have b2:=hv.trans (b1.mono hv.size)
  exact ⟨rfl,b2,(hal.call b2).cell 0 (.pointer (some ⟨g,0,none⟩)) rfl⟩
 have KT:Hid (∀ v,Below u.heap.size u v→Calls Tryz.prog 33 #[Bv (bb:Int) (8 * P 0) (da:Int) (G.n:Int),.pointer (some ⟨o,0,none⟩),.func (.func 29) #[.pointer (some ⟨g,0,none⟩)] #[]] v fun e u'=>e=.returned (.tuple #[.int .i64 (tkN (V' bb) K da G.n),.int .i64 (tkE (V' bb) K da G.n)])∧Hid (Lp w P G E g o rows i V F (fun j=>if j=bb then tkZ (V' bb) K da G.n else V' j) K u')):=fun v hv =>
  take_K da G.n (h.later hv) hA.eb (8 * P 0) (by rw [hp0]) hA.dn hA.n8 hA.b4 h0 (fun j h1 h2=>⟨hA.ed j h1 h2,h2⟩)
 have HB:Hid (∀ q,Below u.heap.size u (u.drewN q)):=fun q=>below_drewN (Below.refl _ _) q
 clear h hA ha h0 hpg hbk hp0 hp1 hal
 generalize tkN (V' bb) K da G.n=tn at *
 generalize tkE (V' bb) K da G.n=te at *
 generalize tkZ (V' bb) K da G.n=tz at *
 generalize 8 * P 0=e8 at *
 generalize (bb:Int)=bi at *
 generalize (da:Int)=di at *
 generalize (G.n:Int)=ni at *
 go_enter Tryz.func12,Tryz.ntmps12
 go_upto_region 3 with fail
 go_region_with (first
  | (go_at_call 27; refine (unhide KA _ (by first | exact Below.refl _ _ | exact (Below.refl _ _).drew)).mono ?_; rintro e w1 ⟨rfl,hb1,c1⟩; clear KA)
  | (go_at_call 33; refine (unhide KT _ (by first | exact unhide hb1 | exact (unhide hb1).drew)).mono ?_; rintro e w2 ⟨rfl,Z⟩; clear KT))
 all_goals (go_wp2_with fail; go_ret2; first | exact ⟨rfl,Z⟩ | exact ⟨rfl,hide ((unhide Z).later (Below.refl _ _).drew)⟩)

theorem al_inode {w:World} {P:Nat→Int} {G:Geo} {E:Nat→Bool} {g o:Nat} {rows:List (Nat × Obj)} {i:Nat} {V:Nat→List Int} {F:Nat→Bool} {V':Nat→List Int} {K:Nat→Bool} {u:World} {a:Nat} {bb da ni:Nat} (h:Lp w P G E g o rows i V F V' K u) (hA:Ab P G E bb da ni) (ha:(a,alO g P) ∈ rows) (h0:0 < w.heap.size) :
  Calls Tryz.prog 11 #[.pointer (some ⟨a,0,none⟩),.pointer (some ⟨o,0,none⟩)] u fun e u'=>e=.returned (.tuple #[.int .i64 (tkN (V' G.ib) (fun _=>false) 0 ni),.int .i64 (tkE (V' G.ib) (fun _=>false) 0 ni)])∧Hid (Lp w P G E g o rows i V F (fun j=>if j=G.ib then tkZ (V' G.ib) (fun _=>false) 0 ni else V' j) K u'):=by
 have hpg:=h.ok
 have hbk:=hpg.ok.blk
 have hp0:=hpg.p0
 have hp5:=hpg.p5
 have hi4:G.ib ≤ 4096:=by have:=hpg.ok.n1; have:=hpg.ok.n2; unfold Geo.ib; omega
 have hal:Bl u a (alA g P) 78:=h.row ha
 have KA:Hid (Calls Tryz.prog 30 #[.pointer (some ⟨a,0,none⟩)] u fun e w'=>e=.returned (Bv (G.ib:Int) (8 * P 0) ((0:Nat):Int) (ni:Int))∧Hid (Below u.heap.size u w')):=by
  have:=ainodes_any (u:=u) (a:=a) (g:=g) (P:=P) hal (by omega)
  rw [hA.p2,hp5] at this
  exact this
 have KT:Hid (∀ v,Below u.heap.size u v→Calls Tryz.prog 33 #[Bv (G.ib:Int) (8 * P 0) ((0:Nat):Int) (ni:Int),.pointer (some ⟨o,0,none⟩),.func (.func 31) #[] #[]] v fun e u'=>e=.returned (.tuple #[.int .i64 (tkN (V' G.ib) (fun _=>false) 0 ni),.int .i64 (tkE (V' G.ib) (fun _=>false) 0 ni)])∧Hid (Lp w P G E g o rows i V F (fun j=>if j=G.ib then tkZ (V' G.ib) (fun _=>false) 0 ni else V' j) K u')):=fun v hv =>
  take_N 0 ni (h.later hv) hA.ei (8 * P 0) (by rw [hp0]) (Nat.zero_le _) hA.i8 hi4 h0
 clear h hA ha h0 hpg hbk hp0 hp5 hal hi4
 generalize tkN (V' G.ib) (fun _=>false) 0 ni=tn at *
 generalize tkE (V' G.ib) (fun _=>false) 0 ni=te at *
 generalize tkZ (V' G.ib) (fun _=>false) 0 ni=tz at *
 generalize 8 * P 0=e8 at *
 generalize (G.ib:Int)=bi at *
 generalize ((0:Nat):Int)=z0 at *
 generalize (ni:Int)=ni at *
 go_enter Tryz.func11,Tryz.ntmps11
 go_wp2_with fail
 go_at_call 30
 refine (unhide KA).mono ?_
 rintro e w1 ⟨rfl,hb1⟩
 have K2:=hide (unhide KT w1 (unhide hb1))
 clear KA KT hb1
 go_wp2_with fail
 go_at_call 33
 refine (unhide K2).mono ?_
 rintro e w2 ⟨rfl,Z⟩
 clear K2
 go_wp2_with fail
 go_ret2
 exact ⟨rfl,Z⟩

theorem al_freeBlock_range {w:World} {P:Nat→Int} {G:Geo} {E:Nat→Bool} {g o:Nat} {rows:List (Nat × Obj)} {i:Nat} {V:Nat→List Int} {F:Nat→Bool} {V':Nat→List Int} {K:Nat→Bool} {u:World} {a:Nat} {bb da ni:Nat} (h:Lp w P G E g o rows i V F V' K u) (hA:Ab P G E bb da ni) (ha:(a,alO g P) ∈ rows) (q:Value) (b:Int) (hb:b < (da:Int) ∨ (G.n:Int) ≤ b) :
  Calls Tryz.prog 16 #[.pointer (some ⟨a,0,none⟩),q,.int .i64 b] u fun e u'=>e=.returned (.int .i64 2)∧u=u':=by
 have hp1:=h.ok.p1
 have hal:Bl u a (alA g P) 78:=h.row ha
 have c2:=hal.cell 2 (.int .i64 (P 1)) rfl
 have c12:=hal.cell 12 (.int .i64 (P 11)) rfl
 rw [hA.p11] at c12
 rw [hp1] at c2
 clear h hA ha hp1 hal
 generalize (da:Int)=di at *
 generalize (G.n:Int)=ni at *
 by_cases h1:b < di
 ·clear hb
  go_enter Tryz.func16,Tryz.ntmps16
  go_wp2_with fail
  go_ret
  exact ⟨rfl,rfl⟩
 ·have h2:ni ≤ b:=by omega
  clear hb
  go_enter Tryz.func16,Tryz.ntmps16
  go_wp2_with fail
  go_ret
  exact ⟨rfl,rfl⟩

theorem al_freeInode_range {w:World} {P:Nat→Int} {G:Geo} {E:Nat→Bool} {g o:Nat} {rows:List (Nat × Obj)} {i:Nat} {V:Nat→List Int} {F:Nat→Bool} {V':Nat→List Int} {K:Nat→Bool} {u:World} {a:Nat} {bb da ni:Nat} (h:Lp w P G E g o rows i V F V' K u) (hA:Ab P G E bb da ni) (ha:(a,alO g P) ∈ rows) (q:Value) (b:Int) (hb:b < 2 ∨ (ni:Int) ≤ b) :
  Calls Tryz.prog 15 #[.pointer (some ⟨a,0,none⟩),q,.int .i64 b] u fun e u'=>e=.returned (.int .i64 2)∧u=u':=by
 have hal:Bl u a (alA g P) 78:=h.row ha
 have c3:=hal.cell 3 (.int .i64 (P 2)) rfl
 rw [hA.p2] at c3
 clear h hA ha hal
 generalize (ni:Int)=ni at *
 by_cases h1:b < 2
 ·clear hb
  go_enter Tryz.func15,Tryz.ntmps15
  go_wp2_with fail
  go_ret
  exact ⟨rfl,rfl⟩
 ·have h2:ni ≤ b:=by omega
  clear hb
  go_enter Tryz.func15,Tryz.ntmps15
  go_wp2_with fail
  go_ret
  exact ⟨rfl,rfl⟩

theorem al_free {w:World} {P:Nat→Int} {G:Geo} {E:Nat→Bool} {g o:Nat} {rows:List (Nat × Obj)} {i:Nat} {V:Nat→List Int} {F:Nat→Bool} {V':Nat→List Int} {K:Nat→Bool} {u:World} {a:Nat} {bb da ni:Nat} (h:Lp w P G E g o rows i V F V' K u) (hA:Ab P G E bb da ni) (ha:(a,alO g P) ∈ rows) (h0:0 < w.heap.size) :
  Calls Tryz.prog 10 #[.pointer (some ⟨a,0,none⟩),.pointer (some ⟨o,0,none⟩)] u fun e u'=>AnsA e 0 ((numF (V' bb) K da G.n:Nat):Int) ((numF (V' G.ib) (fun _=>false) 0 ni:Nat):Int)∧Hid (Lp w P G E g o rows i V F V' K u'):=by
 have hpg:=h.ok
 have hbk:=hpg.ok.blk
 have hp0:=hpg.p0
 have hp1:=hpg.p1
 have hp5:=hpg.p5
 have hi4:G.ib ≤ 4096:=by have:=hpg.ok.n1; have:=hpg.ok.n2; unfold Geo.ib; omega
 have hal:Bl u a (alA g P) 78:=h.row ha
 have c0:=hal.cell 0 (.pointer (some ⟨g,0,none⟩)) rfl
 have KA:Hid (∀ v,Below u.heap.size u v→Calls Tryz.prog 27 #[.pointer (some ⟨a,0,none⟩)] v fun e w'=>e=.returned (Bv (bb:Int) (8 * P 0) (da:Int) (G.n:Int))∧Hid (Below u.heap.size u w')∧w'.cell? ⟨a,0,none⟩=some (.pointer (some ⟨g,0,none⟩))):=fun v hv=>by
  have hal2:Bl v a (alA g P) 78:=hal.call hv
  have:=ablocks_any (u:=v) (a:=a) (g:=g) (P:=P) hal2 (by omega)
  rw [hA.p7,hA.p11,hp1] at this
  refine this.mono ?_
  rintro e w' ⟨rfl,b1⟩
  have b2:=hv.trans (b1.mono hv.size)
  exact ⟨rfl,b2,(hal.call b2).cell 0 (.pointer (some ⟨g,0,none⟩)) rfl⟩
 have KT:Hid (∀ v,Below u.heap.size u v→Calls Tryz.prog 28 #[Bv (bb:Int) (8 * P 0) (da:Int) (G.n:Int),.pointer (some ⟨o,0,none⟩),.func (.func 29) #[.pointer (some ⟨g,0,none⟩)] #[]] v fun e u'=>e=.returned (.tuple #[.int .i64 ((numF (V' bb) K da G.n:Nat):Int),.int .i64 0])∧Hid (Lp w P G E g o rows i V F V' K u')):=fun v hv =>
  count_K da G.n (h.later hv) hA.eb (8 * P 0) (by rw [hp0]) hA.dn hA.n8 hA.b4 h0 (fun j h1 h2=>⟨hA.ed j h1 h2,h2⟩)
 have KI:Hid (∀ v,Lp w P G E g o rows i V F V' K v→Calls Tryz.prog 30 #[.pointer (some ⟨a,0,none⟩)] v fun e w'=>e=.returned (Bv (G.ib:Int) (8 * P 0) ((0:Nat):Int) (ni:Int))∧Hid (Lp w P G E g o rows i V F V' K w')):=fun v hv=>by
  have:=ainodes_any (u:=v) (a:=a) (g:=g) (P:=P) (hv.row ha) (by omega)
  rw [hA.p2,hp5] at this
  refine this.mono ?_
  rintro e w' ⟨rfl,b1⟩
  exact ⟨rfl,hv.later b1⟩
 have KN:Hid (∀ v,Lp w P G E g o rows i V F V' K v→Calls Tryz.prog 28 #[Bv (G.ib:Int) (8 * P 0) ((0:Nat):Int) (ni:Int),.pointer (some ⟨o,0,none⟩),.func (.func 31) #[] #[]] v fun e u'=>e=.returned (.tuple #[.int .i64 ((numF (V' G.ib) (fun _=>false) 0 ni:Nat):Int),.int .i64 0])∧Hid (Lp w P G E g o rows i V F V' K u')):=fun v hv =>
  count_N 0 ni hv hA.ei (8 * P 0) (by rw [hp0]) (Nat.zero_le _) hA.i8 hi4 h0
 have hn8:=hA.n8
 have hi8:=hA.i8
 have n1:numF (V' bb) K da G.n ≤ G.n - da:=cnF_le _ _ _
 have n2:numF (V' G.ib) (fun _=>false) 0 ni ≤ ni - 0:=cnF_le _ _ _
 have KM:Hid (∀ v,Calls Tryz.prog 32 #[.int .i64 ((numF (V' bb) K da G.n:Nat):Int),.int .i64 ((numF (V' G.ib) (fun _=>false) 0 ni:Nat):Int)] v fun e w'=>AnsA e 0 ((numF (V' bb) K da G.n:Nat):Int) ((numF (V' G.ib) (fun _=>false) 0 ni:Nat):Int)∧v=w'):=fun v=>amount_ok _ _ v ⟨by omega,by omega⟩ ⟨by omega,by omega⟩
 clear h hA ha h0 hpg hbk hp0 hp1 hp5 hal hi4 hn8 hi8 n1 n2
 generalize ((numF (V' bb) K da G.n:Nat):Int)=n1 at *
 generalize ((numF (V' G.ib) (fun _=>false) 0 ni:Nat):Int)=n2 at *
 generalize 8 * P 0=e8 at *
 generalize (bb:Int)=bi at *
 generalize (da:Int)=di at *
 generalize (G.n:Int)=gn at *
 generalize (G.ib:Int)=ib at *
 generalize ((0:Nat):Int)=z0 at *
 generalize (ni:Int)=ni at *
 go_enter Tryz.func10,Tryz.ntmps10
 go_upto_region 3 with fail
 go_region_with (first
  | (go_at_call 27; refine (unhide KA _ (by first | exact Below.refl _ _ | exact (Below.refl _ _).drew)).mono ?_; rintro e w1 ⟨rfl,hb1,c1⟩; clear KA)
  | (go_at_call 28; refine (unhide KT _ (by first | exact unhide hb1 | exact (unhide hb1).drew)).mono ?_; rintro e w2 ⟨rfl,Z⟩; clear KT))
 all_goals
  clear c0 c1 hb1
  go_wp2_with fail
  go_at_call 30
  refine (unhide KI _ (unhide Z)).mono ?_
  rintro e w4 ⟨rfl,Z4⟩
  clear KI Z
  go_wp2_with fail
  go_at_call 28
  refine (unhide KN _ (unhide Z4)).mono ?_
  rintro e w5 ⟨rfl,Z5⟩
  clear KN Z4
  go_wp2_with fail
  go_at_call 32
  refine (unhide KM _).mono ?_
  rintro e w6 ⟨⟨x,y,rfl,r1,r2⟩,rfl⟩
  have R1:=hide r1
  have R2:=hide r2
  clear KM r1 r2
  go_wp2_with fail
  go_ret2
  exact ⟨⟨x,y,rfl,unhide R1,unhide R2⟩,Z5⟩

end Go.Proofs.YtdfanhjnkjdngabGreatDoor

