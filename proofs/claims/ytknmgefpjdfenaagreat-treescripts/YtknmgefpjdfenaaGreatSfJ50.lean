/- Joined: SStep, SDumpB, SStepD, SStepE. -/
import Derived.Test.YtknmgefpjdfenaaGreatSfJ49
import Derived.Test.YtknmgefpjdfenaaGreatSfJ20
import Derived.Test.YtknmgefpjdfenaaGreatSfJ8
import Derived.Test.YtknmgefpjdfenaaGreatSfJ42
import Derived.Test.YtknmgefpjdfenaaGreatSfJ38
import Derived.Test.YtknmgefpjdfenaaGreatSfJ29
import Derived.Test.YtknmgefpjdfenaaGreatSfJ36
import Derived.Test.YtknmgefpjdfenaaGreatSfJ27
import Derived.Test.YtknmgefpjdfenaaGreatSfJ1
/- One call of both: the state behind it. -/
namespace Go.Proofs.YtknmgefpjdfenaaGreat
set_option maxRecDepth 100000
set_option maxHeartbeats 8000000
open Go.RowKit Go.Shelf Go.Maps
set_option linter.unusedVariables false

def JW (W:World) (g h r k:Nat) (w:World):Prop :=
 ∃ S R s u,TM w S g s∧SM w R h u∧(∀ j,S j→¬ R j)∧Good s u r k∧(∀ j,S j ∨ R j→W.heap.size ≤ j)∧Below W.heap.size W w

theorem TM.kp {u u':World} {S R:Nat→Prop} {g:Nat} {s:Tr} (h:TM u S g s) (hk:Kp R u u') (hd:∀ k,S k→¬ R k):TM u' S g s :=
 h.kept (fun k hs=>hk.block k (h.lt k hs) (hd k hs)) (fun k hs=>hs) (fun k hs=>Nat.lt_of_lt_of_le (h.lt k hs) hk.size)

theorem JW.pair {W w w1 w2:World} {S R:Nat→Prop} {g h r k:Nat} {s s':Tr} {u u':RTr} (hT:TM w S g s) (hM:SM w R h u) (hd:∀ j,S j→¬ R j) (hlo:∀ j,S j ∨ R j→W.heap.size ≤ j) (hb:Below W.heap.size W w)
  (h1:TM w1 (Up S w.heap.size w1.heap.size) g s') (hk:Kp S w w1) (h2:SM w2 (Up R w1.heap.size w2.heap.size) h u') (hk2:Kp R w1 w2) (hG:Good s' u' r k):JW W g h r k w2:=by
 have hd1:∀ j,Up S w.heap.size w1.heap.size j→¬ R j:=fun j q hr=>q.elim (fun e=>hd j e hr) (fun e=>by have:=hM.lt j hr; omega)
 refine ⟨_,_,s',u',h1.kp hk2 hd1,h2,fun j q q2=>?_,hG,fun j q=>?_,?_⟩
 ·rcases q2 with q2 | q2
  ·exact hd1 j q q2
  ·have:=h1.lt j q
   omega
 ·rcases q with q | q
  ·exact q.elim (fun e=>hlo j (.inl e)) (fun e=>Nat.le_trans hb.size e.1)
  ·exact q.elim (fun e=>hlo j (.inr e)) (fun e=>Nat.le_trans (Nat.le_trans hb.size hk.size) e.1)
 ·have b1:Below W.heap.size w w1:=hk.below hb.size (fun j q=>hlo j (.inl q))
  have b2:Below W.heap.size w1 w2:=hk2.below (Nat.le_trans hb.size hk.size) (fun j q=>hlo j (.inr q))
  exact hb.trans (b1.trans b2)

theorem JW.still {W w w2:World} {g h r k m:Nat} (hJ:JW W g h r k w) (hb:Below w.heap.size w w2) (hm:k ≤ m):JW W g h r m w2:=by
 obtain ⟨S,R,s,u,h1,h2,h3,h4,h5,h6⟩:=hJ
 exact ⟨S,R,s,u,h1.below hb,h2.below hb,h3,h4.mono hm,h5,h6.trans (hb.mono h6.size)⟩

end Go.Proofs.YtknmgefpjdfenaaGreat

/- Both Dumps are one. -/
namespace Go.Proofs.YtknmgefpjdfenaaGreat
set_option maxRecDepth 100000
set_option maxHeartbeats 8000000
open Go.RowKit Go.Shelf Go.Maps
set_option linter.unusedVariables false

theorem rDump_rel {w:World} {R:Nat→Prop} {h r k:Nat} {s:Tr} {u:RTr} (hM:SM w R h u) (hG:Good s u r k) (hn:k ≤ 1700000000000) :
  Calls Tryz.prog 13 #[.pointer (some ⟨h,0,none⟩)] w fun e w'=>∃ v ys,e=.returned v∧DL w.heap.size w' v ys∧ys.map Nd.obs=(dumpL s 1700000000010 [47] r).map obT∧Below w.heap.size w w':=by
 have hw:=hG.1.wo.wf
 obtain ⟨rk,hdp,hrk⟩:=hw.deep (by omega)
 have hlt:rk r < 1700000000010:=by have:=hrk r; omega
 obtain ⟨t,ht,_⟩:=hw.ok.dir
 have hlen:=hw.dump_len hdp hlt
 have hK:Calls Tryz.prog 51 #[.pointer (some ⟨h,0,none⟩),.slice none 0 0,.string ⟨#[47]⟩,.int .i64 1] w fun e w'=>∃ v',e=.returned v'∧DP w.heap.size s 1700000000010 [47] r [] w v' w':=by
  have:=rdump_rel hG.2.2 hw hn hG.2.1.rl hdp (B:=w.heap.size) hM.lt 1700000000010 r [] w (.slice none 0 0) [] t ht hlt hM (DL.nil _ _) (Nat.le_refl _) (fun ys e hg=>hG.1.pv ys e hg) (by
   show 0 + (dumpL s 1700000000010 [47] r).length ≤ _
   rw [hlen]
   have:=hw.few
   omega)
  rw [nmb_root hw] at this
  exact this
 have K:=hide hK
 clear hK hlen hlt hrk hdp ht hM hG hw
 go_enter Tryz.func13,Tryz.ntmps13
 go_wp2_with fail
 refine (unhide K).mono ?_
 rintro e w1 ⟨v,rfl,ys,hD,ho,hb,hf⟩
 have HR:Hid (DL w.heap.size w1 v ys∧ys.map Nd.obs=(dumpL s 1700000000010 [47] r).map obT∧Below w.heap.size w w1):=⟨hD,ho,hb⟩
 clear K hD ho hb hf
 go_wp2_with fail
 go_ret
 exact ⟨v,ys,rfl,HR.out⟩

theorem both_dump {W w:World} {g h r k:Nat} (hJ:JW W g h r k w) (hn:k ≤ 1700000000000) :
  Calls Tryz.prog 12 #[.pointer (some ⟨g,0,none⟩)] w fun e w1=>∃ v,e=.returned v∧Below w.heap.size w w1 ∧
   Calls Tryz.prog 13 #[.pointer (some ⟨h,0,none⟩)] w1 fun e w2=>∃ v2,e=.returned v2∧Below w1.heap.size w1 w2 ∧
    Calls Tryz.prog 11 #[v,v2] w2 fun e w3=>e=.returned (.bool true)∧Below w2.heap.size w2 w3:=by
 obtain ⟨S,R,s,u,hT,hM,hd,hG,hlo,hbW⟩:=hJ
 have hw:=hG.1.wo.wf
 refine (dump_wo hT hG.1.wo hn).mono ?_
 rintro e w1 ⟨v,ys,rfl,hD,hm,hb⟩
 refine ⟨v,rfl,hb,(rDump_rel (hM.below hb) hG hn).mono ?_⟩
 rintro e w2 ⟨v2,zs,rfl,hD2,hz,hb2⟩
 refine ⟨v2,rfl,hb2,sameNodes_true (hD.below hb2 (Nat.le_refl _)) hD2 ?_ ?_⟩
 ·rw [hz,← hm,List.map_map]
  rfl
 ·have h1:=(hG.1.wo.told hn hm).1
  have h2:=hw.few
  omega

end Go.Proofs.YtknmgefpjdfenaaGreat

/- The law's step: Read. -/
namespace Go.Proofs.YtknmgefpjdfenaaGreat
set_option maxRecDepth 100000
set_option maxHeartbeats 8000000
open Go.RowKit Go.Shelf Go.Maps
set_option linter.unusedVariables false

theorem cut_eq (d:List Int) (A N:Nat):(d.drop (min A d.length)).take (min N (d.length - min A d.length))=(d.drop A).take N:=by
 by_cases h:A ≤ d.length
 ·rw [Nat.min_eq_left h]
  by_cases h2:N ≤ d.length - A
  ·rw [Nat.min_eq_left h2]
  ·rw [Nat.min_eq_right (by omega),List.take_of_length_le (by rw [List.length_drop]; omega),List.take_of_length_le (by rw [List.length_drop]; omega)]
 ·have e:min A d.length=d.length:=Nat.min_eq_right (by omega)
  rw [e,List.drop_of_length_le (Nat.le_refl _),List.drop_of_length_le (show d.length ≤ A by omega)]
  simp

theorem tread_any {w:World} {S:Nat→Prop} {g r k:Nat} {s:Tr} {u:RTr} (hT:TM w S g s) (hG:Good s u r k) (hn:k ≤ 1700000000000) (f at0 n:Int) (hat:at0 ≤ 9223372036854775807) :
  Calls Tryz.prog 19 #[.pointer (some ⟨g,0,none⟩),.int .i64 f,.int .i64 at0,.int .i64 n] w fun e w'=>∃ a c,e=.returned (.tuple #[.slice a (rdR u f at0 n).2.length c,.int .i64 (rdR u f at0 n).1])∧Has w' a (rdR u f at0 n).2.length (rdR u f at0 n).2∧Below w.heap.size w w':=by
 have hw:=hG.1.wo.wf
 have hr:=hG.2.2
 by_cases hE:rdT s f at0 n=0
 ·rcases hr.hnd hw hG.2.1.low f with ⟨e1,e2⟩ | ⟨b,t,x,e1,ht,hk1,e2,e3,hx,hk⟩
  ·unfold rdT at hE
   rw [if_pos e1] at hE
   cases hE
  ·have hz:0 ≤ at0∧0 ≤ n∧n ≤ 4096:=by
    unfold rdT at hE
    rw [if_neg (show ¬ s.hnd f=none by rw [e1]; exact fun e=>by cases e)] at hE
    split at hE
    ·cases hE
    ·split at hE
     ·cases hE
     ·omega
   obtain ⟨A,rfl⟩:∃ A:Nat,at0=(A:Int):=⟨at0.toNat,by omega⟩
   obtain ⟨N,rfl⟩:∃ N:Nat,n=(N:Int):=⟨n.toNat,by omega⟩
   obtain ⟨j,rfl,hj,ho⟩:=hnd_nat e1
   have hrd:rdR u (j:Int) (A:Int) (N:Int)=(0,(t.d.drop A).take N):=by
    unfold rdR
    rw [if_neg e3,if_neg (by omega),if_neg (by omega),e2,daR_of hx,hk.d]
    simp
   have hsz:=hw.siz b t ht
   have hms:=hw.mst
   refine (read_ok hT hj ho hw.ok.row_ne ht (by omega) A N (by omega) (by omega)).mono ?_
   rintro e w' ⟨a,c,rfl,o,hb⟩
   rw [cut_eq] at o
   have hlen:min N (t.d.length - min A t.d.length)=((t.d.drop A).take N).length:=o.1.symm
   rw [hrd]
   rw [hlen] at o ⊢
   exact ⟨a,c,rfl,o.has,hb⟩
 ·have hrd:rdR u f at0 n=(rdT s f at0 n,[]):=by
   unfold rdR rdT at *
   rcases hr.hnd hw hG.2.1.low f with ⟨e1,e2⟩ | ⟨b,t,x,e1,ht,hk1,e2,e3,hx,hk⟩
   ·rw [if_pos e2,if_pos e1]
   ·have hne:¬ s.hnd f=none:=by rw [e1]; exact fun e=>by cases e
    rw [if_neg e3,if_neg hne]
    rw [if_neg hne] at hE
    by_cases q:at0 < 0 ∨ n < 0
    ·rw [if_pos q,if_pos q]
    ·rw [if_neg q,if_neg q]
     rw [if_neg q] at hE
     by_cases q2:n > 4096
     ·rw [if_pos q2,if_pos q2]
     ·rw [if_neg q2] at hE
      exact absurd rfl hE
  refine (tread_no hT hw f at0 n hE).mono ?_
  rintro e w' ⟨rfl,rfl⟩
  rw [hrd]
  exact ⟨none,0,rfl,Has.nil _,Below.refl _ _⟩

theorem step_read {W w:World} {g h r k:Nat} (hJ:JW W g h r k w) (hn:k ≤ 1700000000000) (P:Nat→Int) (o:OpD) (hk:o.kind=11) (hat:o.n ≤ 9223372036854775807) :
  Calls Tryz.prog 10 #[.pointer (some ⟨g,0,none⟩),.pointer (some ⟨h,0,none⟩),PvN P,.agg o.v] w fun e w'=>e=.returned (.bool true)∧JW W g h r (k + 1) w':=by
 have HJ:=hide hJ
 obtain ⟨S,R,s,u,hT,hM,hd,hG,hlo,hbW⟩:=hJ
 have hb1:Below w.heap.size w (w.alloc (.cells (Pc P) 23)):=(Below.refl _ w).alloc (Nat.le_refl _) _
 have hb0:Below w.heap.size w ((w.alloc (.cells (Pc P) 23)).alloc (.cells o.v 36)):=hb1.alloc hb1.size _
 have hbl:=Bl.new (w.alloc (.cells (Pc P) 23)) o.v 36
 rw [show (w.alloc (.cells (Pc P) 23)).heap.size=w.heap.size + 1 by simp] at hbl
 have hT0:=hT.below hb0
 have hw:=hG.1.wo.wf
 have hr:=hG.2.2
 have hrs:=hr.rs hw hn
 have K1:=hide (tread_any hT0 hG hn o.f o.n o.m hat)
 have K2:Hid (∀ v,Below w.heap.size w v→Calls Tryz.prog 39 #[.pointer (some ⟨h,0,none⟩),.int .i64 o.f,.int .i64 o.n,.int .i64 o.m] v fun e w'=>∃ a c,e=.returned (.tuple #[.slice a (rdR u o.f o.n o.m).2.length c,.int .i64 (rdR u o.f o.n o.m).1])∧Has w' a (rdR u o.f o.n o.m).2.length (rdR u o.f o.n o.m).2∧Below v.heap.size v w'):=fun v hv=>by
  refine (rread18_any (hM.below hv) o.f o.n o.m hrs.len (fun hne=>?_)).mono ?_
  ·rcases hr.hnd hw hG.2.1.low o.f with ⟨e1,e2⟩ | ⟨b,t,x,e1,ht,hk1,e2,e3,hx,hk⟩
   ·exact absurd e2 hne
   ·have hsz:=hw.siz b t ht
    have hms:=hw.mst
    exact ⟨x,by rw [e2]; exact hx,by rw [hk.d]; omega⟩
  ·rintro e w' ⟨a,c,rfl,o,hb⟩
   exact ⟨a,c,rfl,o.has,hb⟩
 have HB:=hide hb0
 have HL:=hide hbl
 have hml:=hbl.lt
 clear hT hM hd hG hlo hbW hb1 hb0 hT0 hw hr hrs hat
 obtain ⟨kind,oa,ob,of,on,om,da,dl,dc,data⟩:=o
 unfold OpD.v at *
 simp only at *
 subst hk
 generalize St oa=sa at *
 generalize St ob=sb at *
 generalize (rdR u of on om).2=L at *
 generalize (rdR u of on om).1=E at *
 have c0:=hbl.cell 0 _ rfl
 have c3:=hbl.cell 3 _ rfl
 have c4:=hbl.cell 4 _ rfl
 have c5:=hbl.cell 5 _ rfl
 clear hbl
 go_enter Tryz.func10,Tryz.ntmps10
 go_upto_region 1 with fail
 change Code.wp _ _ _ _ ((w.alloc (.cells (Pc P) 23)).alloc (.cells #[.int .i64 11,.string sa,.string sb,.int .i64 of,.int .i64 on,.int .i64 om,.slice da dl dc] 36))
 generalize (w.alloc (.cells (Pc P) 23)).alloc (.cells #[.int .i64 11,.string sa,.string sb,.int .i64 of,.int .i64 on,.int .i64 om,.slice da dl dc] 36)=w0 at *
 go_wp2_with fail
 refine (unhide K1).mono ?_
 rintro e w1 ⟨a1,z1,rfl,h1,hb⟩
 have HB1:=hide (HB.out.trans (hb.mono HB.out.size))
 have K2:=hide (K2.out w1 HB1.out)
 have H1:=hide h1
 have hL:=HL.out.call hb
 clear K1 h1 hb HB HL c0 c3 c4 c5
 have c3:=hL.cell 3 _ rfl
 have c4:=hL.cell 4 _ rfl
 have c5:=hL.cell 5 _ rfl
 clear hL
 go_wp2_with fail
 refine (unhide K2).mono ?_
 rintro e w2 ⟨a2,z2,rfl,h2,hb⟩
 have KS:=hide (same_true a1 a2 L.length z1 z2 L w2 (H1.out.later hb) h2)
 have HR:=hide (HJ.out.still (HB1.out.trans (hb.mono HB1.out.size)) (Nat.le_succ k))
 clear K2 h2 hb H1 HB1 HJ c3 c4 c5
 go_wp2_with fail
 refine (unhide KS).mono ?_
 rintro e w3 ⟨rfl,hw3⟩
 obtain rfl:=hw3
 clear KS
 go_wp2_with fail
 go_ret
 exact ⟨rfl,HR.out⟩

end Go.Proofs.YtknmgefpjdfenaaGreat

/- The law's step: calls that answer an error alone. -/
namespace Go.Proofs.YtknmgefpjdfenaaGreat
set_option maxRecDepth 100000
set_option maxHeartbeats 8000000
open Go.RowKit Go.Shelf Go.Maps
set_option linter.unusedVariables false

theorem step_create {W w:World} {g h r k:Nat} (hJ:JW W g h r k w) (hn:k ≤ 1700000000000) (P:Nat→Int) (o:OpD) (hk:o.kind=1) (ha:o.a.length ≤ 9223372036854775807) (hb:o.b.length ≤ 9223372036854775807) :
  Calls Tryz.prog 10 #[.pointer (some ⟨g,0,none⟩),.pointer (some ⟨h,0,none⟩),PvN P,.agg o.v] w fun e w'=>e=.returned (.bool true)∧JW W g h r (k + 1) w':=by
 obtain ⟨S,R,s,u,hT,hM,hd,hG,hlo,hbW⟩:=hJ
 have hb1:Below w.heap.size w (w.alloc (.cells (Pc P) 23)):=(Below.refl _ w).alloc (Nat.le_refl _) _
 have hb0:Below w.heap.size w ((w.alloc (.cells (Pc P) 23)).alloc (.cells o.v 36)):=hb1.alloc hb1.size _
 have hbl:=Bl.new (w.alloc (.cells (Pc P) 23)) o.v 36
 rw [show (w.alloc (.cells (Pc P) 23)).heap.size=w.heap.size + 1 by simp] at hbl
 have hT0:=hT.below hb0
 have hM0:=hM.below hb0
 have hbW0:=hbW.trans (hb0.mono hbW.size)
 have K1:=hide (pair_create (R:=R) (h:=h) (u:=u) hT0 hG hn ha)
 have HJ:Hid (∀ w1 w2 s' u',TM w1 (Up S ((w.alloc (.cells (Pc P) 23)).alloc (.cells o.v 36)).heap.size w1.heap.size) g s'→Kp S ((w.alloc (.cells (Pc P) 23)).alloc (.cells o.v 36)) w1→SM w2 (Up R w1.heap.size w2.heap.size) h u'→Kp R w1 w2→Good s' u' r (k + 1)→JW W g h r (k + 1) w2):=fun w1 w2 s' u' a1 a2 a3 a4 a5=>JW.pair hT0 hM0 hd hlo hbW0 a1 a2 a3 a4 a5
 have HMk:Hid (∀ w1,Kp S ((w.alloc (.cells (Pc P) 23)).alloc (.cells o.v 36)) w1→SM w1 R h u∧Bl w1 (w.heap.size + 1) o.v 36):=fun w1 hk=>⟨hM0.kp hk (fun j q q2=>hd j q2 q),(hk.block _ hbl.lt (fun q=>by have:=hT.lt _ q; omega)).trans hbl⟩
 clear hT hM hd hG hlo hbW hb1 hb0 hT0 hM0 hbW0 ha hb
 obtain ⟨kind,oa,ob,of,on,om,da,dl,dc,data⟩:=o
 unfold OpD.v at *
 simp only at *
 subst hk
 generalize St oa=sa at *
 generalize St ob=sb at *
 have c0:=hbl.cell 0 _ rfl
 have c1:=hbl.cell 1 _ rfl
 have c2:=hbl.cell 2 _ rfl
 have c3:=hbl.cell 3 _ rfl
 have c4:=hbl.cell 4 _ rfl
 have c5:=hbl.cell 5 _ rfl
 have c6:=hbl.cell 6 _ rfl
 clear hbl
 go_enter Tryz.func10,Tryz.ntmps10
 go_upto_region 1 with fail
 change Code.wp _ _ _ _ ((w.alloc (.cells (Pc P) 23)).alloc (.cells #[.int .i64 1,.string sa,.string sb,.int .i64 of,.int .i64 on,.int .i64 om,.slice da dl dc] 36))
 generalize (w.alloc (.cells (Pc P) 23)).alloc (.cells #[.int .i64 1,.string sa,.string sb,.int .i64 of,.int .i64 on,.int .i64 om,.slice da dl dc] 36)=w0 at *
 go_wp2_with fail
 refine (unhide K1).mono ?_
 rintro e w1 ⟨E,s',rfl,q1,q2,q3⟩
 obtain ⟨hMw,hbl⟩:=(HMk.out w1 q2)
 have K2:=hide (q3 w1 hMw)
 have HQ:=hide (And.intro q1 q2)
 clear K1 HMk q1 q2 q3 hMw c0 c1 c2 c3 c4 c5 c6
 have c0:=hbl.cell 0 _ rfl
 have c1:=hbl.cell 1 _ rfl
 have c2:=hbl.cell 2 _ rfl
 have c3:=hbl.cell 3 _ rfl
 have c4:=hbl.cell 4 _ rfl
 have c5:=hbl.cell 5 _ rfl
 have c6:=hbl.cell 6 _ rfl
 clear hbl
 go_wp2_with fail
 refine (unhide K2).mono ?_
 rintro e w2 ⟨u',rfl,z1,z2,z3⟩
 have HR:=hide (HJ.out w1 w2 s' u' HQ.out.1 HQ.out.2 z1 z2 z3)
 clear K2 HJ HQ z1 z2 z3 c0 c1 c2 c3 c4 c5 c6
 go_wp2_with fail
 go_ret
 exact ⟨rfl,HR.out⟩

theorem step_mkdir {W w:World} {g h r k:Nat} (hJ:JW W g h r k w) (hn:k ≤ 1700000000000) (P:Nat→Int) (o:OpD) (hk:o.kind=2) (ha:o.a.length ≤ 9223372036854775807) (hb:o.b.length ≤ 9223372036854775807) :
  Calls Tryz.prog 10 #[.pointer (some ⟨g,0,none⟩),.pointer (some ⟨h,0,none⟩),PvN P,.agg o.v] w fun e w'=>e=.returned (.bool true)∧JW W g h r (k + 1) w':=by
 obtain ⟨S,R,s,u,hT,hM,hd,hG,hlo,hbW⟩:=hJ
 have hb1:Below w.heap.size w (w.alloc (.cells (Pc P) 23)):=(Below.refl _ w).alloc (Nat.le_refl _) _
 have hb0:Below w.heap.size w ((w.alloc (.cells (Pc P) 23)).alloc (.cells o.v 36)):=hb1.alloc hb1.size _
 have hbl:=Bl.new (w.alloc (.cells (Pc P) 23)) o.v 36
 rw [show (w.alloc (.cells (Pc P) 23)).heap.size=w.heap.size + 1 by simp] at hbl
 have hT0:=hT.below hb0
 have hM0:=hM.below hb0
 have hbW0:=hbW.trans (hb0.mono hbW.size)
 have K1:=hide (pair_mkdir (R:=R) (h:=h) (u:=u) hT0 hG hn ha)
 have HJ:Hid (∀ w1 w2 s' u',TM w1 (Up S ((w.alloc (.cells (Pc P) 23)).alloc (.cells o.v 36)).heap.size w1.heap.size) g s'→Kp S ((w.alloc (.cells (Pc P) 23)).alloc (.cells o.v 36)) w1→SM w2 (Up R w1.heap.size w2.heap.size) h u'→Kp R w1 w2→Good s' u' r (k + 1)→JW W g h r (k + 1) w2):=fun w1 w2 s' u' a1 a2 a3 a4 a5=>JW.pair hT0 hM0 hd hlo hbW0 a1 a2 a3 a4 a5
 have HMk:Hid (∀ w1,Kp S ((w.alloc (.cells (Pc P) 23)).alloc (.cells o.v 36)) w1→SM w1 R h u∧Bl w1 (w.heap.size + 1) o.v 36):=fun w1 hk=>⟨hM0.kp hk (fun j q q2=>hd j q2 q),(hk.block _ hbl.lt (fun q=>by have:=hT.lt _ q; omega)).trans hbl⟩
 clear hT hM hd hG hlo hbW hb1 hb0 hT0 hM0 hbW0 ha hb
 obtain ⟨kind,oa,ob,of,on,om,da,dl,dc,data⟩:=o
 unfold OpD.v at *
 simp only at *
 subst hk
 generalize St oa=sa at *
 generalize St ob=sb at *
 have c0:=hbl.cell 0 _ rfl
 have c1:=hbl.cell 1 _ rfl
 have c2:=hbl.cell 2 _ rfl
 have c3:=hbl.cell 3 _ rfl
 have c4:=hbl.cell 4 _ rfl
 have c5:=hbl.cell 5 _ rfl
 have c6:=hbl.cell 6 _ rfl
 clear hbl
 go_enter Tryz.func10,Tryz.ntmps10
 go_upto_region 1 with fail
 change Code.wp _ _ _ _ ((w.alloc (.cells (Pc P) 23)).alloc (.cells #[.int .i64 2,.string sa,.string sb,.int .i64 of,.int .i64 on,.int .i64 om,.slice da dl dc] 36))
 generalize (w.alloc (.cells (Pc P) 23)).alloc (.cells #[.int .i64 2,.string sa,.string sb,.int .i64 of,.int .i64 on,.int .i64 om,.slice da dl dc] 36)=w0 at *
 go_wp2_with fail
 refine (unhide K1).mono ?_
 rintro e w1 ⟨E,s',rfl,q1,q2,q3⟩
 obtain ⟨hMw,hbl⟩:=(HMk.out w1 q2)
 have K2:=hide (q3 w1 hMw)
 have HQ:=hide (And.intro q1 q2)
 clear K1 HMk q1 q2 q3 hMw c0 c1 c2 c3 c4 c5 c6
 have c0:=hbl.cell 0 _ rfl
 have c1:=hbl.cell 1 _ rfl
 have c2:=hbl.cell 2 _ rfl
 have c3:=hbl.cell 3 _ rfl
 have c4:=hbl.cell 4 _ rfl
 have c5:=hbl.cell 5 _ rfl
 have c6:=hbl.cell 6 _ rfl
 clear hbl
 go_wp2_with fail
 refine (unhide K2).mono ?_
 rintro e w2 ⟨u',rfl,z1,z2,z3⟩
 have HR:=hide (HJ.out w1 w2 s' u' HQ.out.1 HQ.out.2 z1 z2 z3)
 clear K2 HJ HQ z1 z2 z3 c0 c1 c2 c3 c4 c5 c6
 go_wp2_with fail
 go_ret
 exact ⟨rfl,HR.out⟩

theorem step_link {W w:World} {g h r k:Nat} (hJ:JW W g h r k w) (hn:k ≤ 1700000000000) (P:Nat→Int) (o:OpD) (hk:o.kind=3) (ha:o.a.length ≤ 9223372036854775807) (hb:o.b.length ≤ 9223372036854775807) :
  Calls Tryz.prog 10 #[.pointer (some ⟨g,0,none⟩),.pointer (some ⟨h,0,none⟩),PvN P,.agg o.v] w fun e w'=>e=.returned (.bool true)∧JW W g h r (k + 1) w':=by
 obtain ⟨S,R,s,u,hT,hM,hd,hG,hlo,hbW⟩:=hJ
 have hb1:Below w.heap.size w (w.alloc (.cells (Pc P) 23)):=(Below.refl _ w).alloc (Nat.le_refl _) _
 have hb0:Below w.heap.size w ((w.alloc (.cells (Pc P) 23)).alloc (.cells o.v 36)):=hb1.alloc hb1.size _
 have hbl:=Bl.new (w.alloc (.cells (Pc P) 23)) o.v 36
 rw [show (w.alloc (.cells (Pc P) 23)).heap.size=w.heap.size + 1 by simp] at hbl
 have hT0:=hT.below hb0
 have hM0:=hM.below hb0
 have hbW0:=hbW.trans (hb0.mono hbW.size)
 have K1:=hide (pair_link (R:=R) (h:=h) (u:=u) hT0 hG hn ha hb)
 have HJ:Hid (∀ w1 w2 s' u',TM w1 (Up S ((w.alloc (.cells (Pc P) 23)).alloc (.cells o.v 36)).heap.size w1.heap.size) g s'→Kp S ((w.alloc (.cells (Pc P) 23)).alloc (.cells o.v 36)) w1→SM w2 (Up R w1.heap.size w2.heap.size) h u'→Kp R w1 w2→Good s' u' r (k + 1)→JW W g h r (k + 1) w2):=fun w1 w2 s' u' a1 a2 a3 a4 a5=>JW.pair hT0 hM0 hd hlo hbW0 a1 a2 a3 a4 a5
 have HMk:Hid (∀ w1,Kp S ((w.alloc (.cells (Pc P) 23)).alloc (.cells o.v 36)) w1→SM w1 R h u∧Bl w1 (w.heap.size + 1) o.v 36):=fun w1 hk=>⟨hM0.kp hk (fun j q q2=>hd j q2 q),(hk.block _ hbl.lt (fun q=>by have:=hT.lt _ q; omega)).trans hbl⟩
 clear hT hM hd hG hlo hbW hb1 hb0 hT0 hM0 hbW0 ha hb
 obtain ⟨kind,oa,ob,of,on,om,da,dl,dc,data⟩:=o
 unfold OpD.v at *
 simp only at *
 subst hk
 generalize St oa=sa at *
 generalize St ob=sb at *
 have c0:=hbl.cell 0 _ rfl
 have c1:=hbl.cell 1 _ rfl
 have c2:=hbl.cell 2 _ rfl
 have c3:=hbl.cell 3 _ rfl
 have c4:=hbl.cell 4 _ rfl
 have c5:=hbl.cell 5 _ rfl
 have c6:=hbl.cell 6 _ rfl
 clear hbl
 go_enter Tryz.func10,Tryz.ntmps10
 go_upto_region 1 with fail
 change Code.wp _ _ _ _ ((w.alloc (.cells (Pc P) 23)).alloc (.cells #[.int .i64 3,.string sa,.string sb,.int .i64 of,.int .i64 on,.int .i64 om,.slice da dl dc] 36))
 generalize (w.alloc (.cells (Pc P) 23)).alloc (.cells #[.int .i64 3,.string sa,.string sb,.int .i64 of,.int .i64 on,.int .i64 om,.slice da dl dc] 36)=w0 at *
 go_wp2_with fail
 refine (unhide K1).mono ?_
 rintro e w1 ⟨E,s',rfl,q1,q2,q3⟩
 obtain ⟨hMw,hbl⟩:=(HMk.out w1 q2)
 have K2:=hide (q3 w1 hMw)
 have HQ:=hide (And.intro q1 q2)
 clear K1 HMk q1 q2 q3 hMw c0 c1 c2 c3 c4 c5 c6
 have c0:=hbl.cell 0 _ rfl
 have c1:=hbl.cell 1 _ rfl
 have c2:=hbl.cell 2 _ rfl
 have c3:=hbl.cell 3 _ rfl
 have c4:=hbl.cell 4 _ rfl
 have c5:=hbl.cell 5 _ rfl
 have c6:=hbl.cell 6 _ rfl
 clear hbl
 go_wp2_with fail
 refine (unhide K2).mono ?_
 rintro e w2 ⟨u',rfl,z1,z2,z3⟩
 have HR:=hide (HJ.out w1 w2 s' u' HQ.out.1 HQ.out.2 z1 z2 z3)
 clear K2 HJ HQ z1 z2 z3 c0 c1 c2 c3 c4 c5 c6
 go_wp2_with fail
 go_ret
 exact ⟨rfl,HR.out⟩

theorem step_unlink {W w:World} {g h r k:Nat} (hJ:JW W g h r k w) (hn:k ≤ 1700000000000) (P:Nat→Int) (o:OpD) (hk:o.kind=5) (ha:o.a.length ≤ 9223372036854775807) (hb:o.b.length ≤ 9223372036854775807) :
  Calls Tryz.prog 10 #[.pointer (some ⟨g,0,none⟩),.pointer (some ⟨h,0,none⟩),PvN P,.agg o.v] w fun e w'=>e=.returned (.bool true)∧JW W g h r (k + 1) w':=by
 obtain ⟨S,R,s,u,hT,hM,hd,hG,hlo,hbW⟩:=hJ
 have hb1:Below w.heap.size w (w.alloc (.cells (Pc P) 23)):=(Below.refl _ w).alloc (Nat.le_refl _) _
 have hb0:Below w.heap.size w ((w.alloc (.cells (Pc P) 23)).alloc (.cells o.v 36)):=hb1.alloc hb1.size _
 have hbl:=Bl.new (w.alloc (.cells (Pc P) 23)) o.v 36
 rw [show (w.alloc (.cells (Pc P) 23)).heap.size=w.heap.size + 1 by simp] at hbl
 have hT0:=hT.below hb0
 have hM0:=hM.below hb0
 have hbW0:=hbW.trans (hb0.mono hbW.size)
 have K1:=hide (pair_unlink (R:=R) (h:=h) (u:=u) hT0 hG hn ha)
 have HJ:Hid (∀ w1 w2 s' u',TM w1 (Up S ((w.alloc (.cells (Pc P) 23)).alloc (.cells o.v 36)).heap.size w1.heap.size) g s'→Kp S ((w.alloc (.cells (Pc P) 23)).alloc (.cells o.v 36)) w1→SM w2 (Up R w1.heap.size w2.heap.size) h u'→Kp R w1 w2→Good s' u' r (k + 1)→JW W g h r (k + 1) w2):=fun w1 w2 s' u' a1 a2 a3 a4 a5=>JW.pair hT0 hM0 hd hlo hbW0 a1 a2 a3 a4 a5
 have HMk:Hid (∀ w1,Kp S ((w.alloc (.cells (Pc P) 23)).alloc (.cells o.v 36)) w1→SM w1 R h u∧Bl w1 (w.heap.size + 1) o.v 36):=fun w1 hk=>⟨hM0.kp hk (fun j q q2=>hd j q2 q),(hk.block _ hbl.lt (fun q=>by have:=hT.lt _ q; omega)).trans hbl⟩
 clear hT hM hd hG hlo hbW hb1 hb0 hT0 hM0 hbW0 ha hb
 obtain ⟨kind,oa,ob,of,on,om,da,dl,dc,data⟩:=o
 unfold OpD.v at *
 simp only at *
 subst hk
 generalize St oa=sa at *
 generalize St ob=sb at *
 have c0:=hbl.cell 0 _ rfl
 have c1:=hbl.cell 1 _ rfl
 have c2:=hbl.cell 2 _ rfl
 have c3:=hbl.cell 3 _ rfl
 have c4:=hbl.cell 4 _ rfl
 have c5:=hbl.cell 5 _ rfl
 have c6:=hbl.cell 6 _ rfl
 clear hbl
 go_enter Tryz.func10,Tryz.ntmps10
 go_upto_region 1 with fail
 change Code.wp _ _ _ _ ((w.alloc (.cells (Pc P) 23)).alloc (.cells #[.int .i64 5,.string sa,.string sb,.int .i64 of,.int .i64 on,.int .i64 om,.slice da dl dc] 36))
 generalize (w.alloc (.cells (Pc P) 23)).alloc (.cells #[.int .i64 5,.string sa,.string sb,.int .i64 of,.int .i64 on,.int .i64 om,.slice da dl dc] 36)=w0 at *
 go_wp2_with fail
 refine (unhide K1).mono ?_
 rintro e w1 ⟨E,s',rfl,q1,q2,q3⟩
 obtain ⟨hMw,hbl⟩:=(HMk.out w1 q2)
 have K2:=hide (q3 w1 hMw)
 have HQ:=hide (And.intro q1 q2)
 clear K1 HMk q1 q2 q3 hMw c0 c1 c2 c3 c4 c5 c6
 have c0:=hbl.cell 0 _ rfl
 have c1:=hbl.cell 1 _ rfl
 have c2:=hbl.cell 2 _ rfl
 have c3:=hbl.cell 3 _ rfl
 have c4:=hbl.cell 4 _ rfl
 have c5:=hbl.cell 5 _ rfl
 have c6:=hbl.cell 6 _ rfl
 clear hbl
 go_wp2_with fail
 refine (unhide K2).mono ?_
 rintro e w2 ⟨u',rfl,z1,z2,z3⟩
 have HR:=hide (HJ.out w1 w2 s' u' HQ.out.1 HQ.out.2 z1 z2 z3)
 clear K2 HJ HQ z1 z2 z3 c0 c1 c2 c3 c4 c5 c6
 go_wp2_with fail
 go_ret
 exact ⟨rfl,HR.out⟩

theorem step_rmdir {W w:World} {g h r k:Nat} (hJ:JW W g h r k w) (hn:k ≤ 1700000000000) (P:Nat→Int) (o:OpD) (hk:o.kind=6) (ha:o.a.length ≤ 9223372036854775807) (hb:o.b.length ≤ 9223372036854775807) :
  Calls Tryz.prog 10 #[.pointer (some ⟨g,0,none⟩),.pointer (some ⟨h,0,none⟩),PvN P,.agg o.v] w fun e w'=>e=.returned (.bool true)∧JW W g h r (k + 1) w':=by
 obtain ⟨S,R,s,u,hT,hM,hd,hG,hlo,hbW⟩:=hJ
 have hb1:Below w.heap.size w (w.alloc (.cells (Pc P) 23)):=(Below.refl _ w).alloc (Nat.le_refl _) _
 have hb0:Below w.heap.size w ((w.alloc (.cells (Pc P) 23)).alloc (.cells o.v 36)):=hb1.alloc hb1.size _
 have hbl:=Bl.new (w.alloc (.cells (Pc P) 23)) o.v 36
 rw [show (w.alloc (.cells (Pc P) 23)).heap.size=w.heap.size + 1 by simp] at hbl
 have hT0:=hT.below hb0
 have hM0:=hM.below hb0
 have hbW0:=hbW.trans (hb0.mono hbW.size)
 have K1:=hide (pair_rmdir (R:=R) (h:=h) (u:=u) hT0 hG hn ha)
 have HJ:Hid (∀ w1 w2 s' u',TM w1 (Up S ((w.alloc (.cells (Pc P) 23)).alloc (.cells o.v 36)).heap.size w1.heap.size) g s'→Kp S ((w.alloc (.cells (Pc P) 23)).alloc (.cells o.v 36)) w1→SM w2 (Up R w1.heap.size w2.heap.size) h u'→Kp R w1 w2→Good s' u' r (k + 1)→JW W g h r (k + 1) w2):=fun w1 w2 s' u' a1 a2 a3 a4 a5=>JW.pair hT0 hM0 hd hlo hbW0 a1 a2 a3 a4 a5
 have HMk:Hid (∀ w1,Kp S ((w.alloc (.cells (Pc P) 23)).alloc (.cells o.v 36)) w1→SM w1 R h u∧Bl w1 (w.heap.size + 1) o.v 36):=fun w1 hk=>⟨hM0.kp hk (fun j q q2=>hd j q2 q),(hk.block _ hbl.lt (fun q=>by have:=hT.lt _ q; omega)).trans hbl⟩
 clear hT hM hd hG hlo hbW hb1 hb0 hT0 hM0 hbW0 ha hb
 obtain ⟨kind,oa,ob,of,on,om,da,dl,dc,data⟩:=o
 unfold OpD.v at *
 simp only at *
 subst hk
 generalize St oa=sa at *
 generalize St ob=sb at *
 have c0:=hbl.cell 0 _ rfl
 have c1:=hbl.cell 1 _ rfl
 have c2:=hbl.cell 2 _ rfl
 have c3:=hbl.cell 3 _ rfl
 have c4:=hbl.cell 4 _ rfl
 have c5:=hbl.cell 5 _ rfl
 have c6:=hbl.cell 6 _ rfl
 clear hbl
 go_enter Tryz.func10,Tryz.ntmps10
 go_upto_region 1 with fail
 change Code.wp _ _ _ _ ((w.alloc (.cells (Pc P) 23)).alloc (.cells #[.int .i64 6,.string sa,.string sb,.int .i64 of,.int .i64 on,.int .i64 om,.slice da dl dc] 36))
 generalize (w.alloc (.cells (Pc P) 23)).alloc (.cells #[.int .i64 6,.string sa,.string sb,.int .i64 of,.int .i64 on,.int .i64 om,.slice da dl dc] 36)=w0 at *
 go_wp2_with fail
 refine (unhide K1).mono ?_
 rintro e w1 ⟨E,s',rfl,q1,q2,q3⟩
 obtain ⟨hMw,hbl⟩:=(HMk.out w1 q2)
 have K2:=hide (q3 w1 hMw)
 have HQ:=hide (And.intro q1 q2)
 clear K1 HMk q1 q2 q3 hMw c0 c1 c2 c3 c4 c5 c6
 have c0:=hbl.cell 0 _ rfl
 have c1:=hbl.cell 1 _ rfl
 have c2:=hbl.cell 2 _ rfl
 have c3:=hbl.cell 3 _ rfl
 have c4:=hbl.cell 4 _ rfl
 have c5:=hbl.cell 5 _ rfl
 have c6:=hbl.cell 6 _ rfl
 clear hbl
 go_wp2_with fail
 refine (unhide K2).mono ?_
 rintro e w2 ⟨u',rfl,z1,z2,z3⟩
 have HR:=hide (HJ.out w1 w2 s' u' HQ.out.1 HQ.out.2 z1 z2 z3)
 clear K2 HJ HQ z1 z2 z3 c0 c1 c2 c3 c4 c5 c6
 go_wp2_with fail
 go_ret
 exact ⟨rfl,HR.out⟩

theorem step_close {W w:World} {g h r k:Nat} (hJ:JW W g h r k w) (hn:k ≤ 1700000000000) (P:Nat→Int) (o:OpD) (hk:o.kind=10) (ha:o.a.length ≤ 9223372036854775807) (hb:o.b.length ≤ 9223372036854775807) :
  Calls Tryz.prog 10 #[.pointer (some ⟨g,0,none⟩),.pointer (some ⟨h,0,none⟩),PvN P,.agg o.v] w fun e w'=>e=.returned (.bool true)∧JW W g h r (k + 1) w':=by
 obtain ⟨S,R,s,u,hT,hM,hd,hG,hlo,hbW⟩:=hJ
 have hb1:Below w.heap.size w (w.alloc (.cells (Pc P) 23)):=(Below.refl _ w).alloc (Nat.le_refl _) _
 have hb0:Below w.heap.size w ((w.alloc (.cells (Pc P) 23)).alloc (.cells o.v 36)):=hb1.alloc hb1.size _
 have hbl:=Bl.new (w.alloc (.cells (Pc P) 23)) o.v 36
 rw [show (w.alloc (.cells (Pc P) 23)).heap.size=w.heap.size + 1 by simp] at hbl
 have hT0:=hT.below hb0
 have hM0:=hM.below hb0
 have hbW0:=hbW.trans (hb0.mono hbW.size)
 have K1:=hide (pair_close (R:=R) (h:=h) (u:=u) hT0 hG o.f)
 have HJ:Hid (∀ w1 w2 s' u',TM w1 (Up S ((w.alloc (.cells (Pc P) 23)).alloc (.cells o.v 36)).heap.size w1.heap.size) g s'→Kp S ((w.alloc (.cells (Pc P) 23)).alloc (.cells o.v 36)) w1→SM w2 (Up R w1.heap.size w2.heap.size) h u'→Kp R w1 w2→Good s' u' r (k + 1)→JW W g h r (k + 1) w2):=fun w1 w2 s' u' a1 a2 a3 a4 a5=>JW.pair hT0 hM0 hd hlo hbW0 a1 a2 a3 a4 a5
 have HMk:Hid (∀ w1,Kp S ((w.alloc (.cells (Pc P) 23)).alloc (.cells o.v 36)) w1→SM w1 R h u∧Bl w1 (w.heap.size + 1) o.v 36):=fun w1 hk=>⟨hM0.kp hk (fun j q q2=>hd j q2 q),(hk.block _ hbl.lt (fun q=>by have:=hT.lt _ q; omega)).trans hbl⟩
 clear hT hM hd hG hlo hbW hb1 hb0 hT0 hM0 hbW0 ha hb
 obtain ⟨kind,oa,ob,of,on,om,da,dl,dc,data⟩:=o
 unfold OpD.v at *
 simp only at *
 subst hk
 generalize St oa=sa at *
 generalize St ob=sb at *
 have c0:=hbl.cell 0 _ rfl
 have c1:=hbl.cell 1 _ rfl
 have c2:=hbl.cell 2 _ rfl
 have c3:=hbl.cell 3 _ rfl
 have c4:=hbl.cell 4 _ rfl
 have c5:=hbl.cell 5 _ rfl
 have c6:=hbl.cell 6 _ rfl
 clear hbl
 go_enter Tryz.func10,Tryz.ntmps10
 go_upto_region 1 with fail
 change Code.wp _ _ _ _ ((w.alloc (.cells (Pc P) 23)).alloc (.cells #[.int .i64 10,.string sa,.string sb,.int .i64 of,.int .i64 on,.int .i64 om,.slice da dl dc] 36))
 generalize (w.alloc (.cells (Pc P) 23)).alloc (.cells #[.int .i64 10,.string sa,.string sb,.int .i64 of,.int .i64 on,.int .i64 om,.slice da dl dc] 36)=w0 at *
 go_wp2_with fail
 refine (unhide K1).mono ?_
 rintro e w1 ⟨E,s',rfl,q1,q2,q3⟩
 obtain ⟨hMw,hbl⟩:=(HMk.out w1 q2)
 have K2:=hide (q3 w1 hMw)
 have HQ:=hide (And.intro q1 q2)
 clear K1 HMk q1 q2 q3 hMw c0 c1 c2 c3 c4 c5 c6
 have c0:=hbl.cell 0 _ rfl
 have c1:=hbl.cell 1 _ rfl
 have c2:=hbl.cell 2 _ rfl
 have c3:=hbl.cell 3 _ rfl
 have c4:=hbl.cell 4 _ rfl
 have c5:=hbl.cell 5 _ rfl
 have c6:=hbl.cell 6 _ rfl
 clear hbl
 go_wp2_with fail
 refine (unhide K2).mono ?_
 rintro e w2 ⟨u',rfl,z1,z2,z3⟩
 have HR:=hide (HJ.out w1 w2 s' u' HQ.out.1 HQ.out.2 z1 z2 z3)
 clear K2 HJ HQ z1 z2 z3 c0 c1 c2 c3 c4 c5 c6
 go_wp2_with fail
 go_ret
 exact ⟨rfl,HR.out⟩

theorem step_trunc {W w:World} {g h r k:Nat} (hJ:JW W g h r k w) (hn:k ≤ 1700000000000) (P:Nat→Int) (o:OpD) (hk:o.kind=13) (ha:o.a.length ≤ 9223372036854775807) (hb:o.b.length ≤ 9223372036854775807) :
  Calls Tryz.prog 10 #[.pointer (some ⟨g,0,none⟩),.pointer (some ⟨h,0,none⟩),PvN P,.agg o.v] w fun e w'=>e=.returned (.bool true)∧JW W g h r (k + 1) w':=by
 obtain ⟨S,R,s,u,hT,hM,hd,hG,hlo,hbW⟩:=hJ
 have hb1:Below w.heap.size w (w.alloc (.cells (Pc P) 23)):=(Below.refl _ w).alloc (Nat.le_refl _) _
 have hb0:Below w.heap.size w ((w.alloc (.cells (Pc P) 23)).alloc (.cells o.v 36)):=hb1.alloc hb1.size _
 have hbl:=Bl.new (w.alloc (.cells (Pc P) 23)) o.v 36
 rw [show (w.alloc (.cells (Pc P) 23)).heap.size=w.heap.size + 1 by simp] at hbl
 have hT0:=hT.below hb0
 have hM0:=hM.below hb0
 have hbW0:=hbW.trans (hb0.mono hbW.size)
 have K1:=hide (pair_trunc (R:=R) (h:=h) (u:=u) hT0 hG hn hG.2.1.mo o.f o.n)
 have HJ:Hid (∀ w1 w2 s' u',TM w1 (Up S ((w.alloc (.cells (Pc P) 23)).alloc (.cells o.v 36)).heap.size w1.heap.size) g s'→Kp S ((w.alloc (.cells (Pc P) 23)).alloc (.cells o.v 36)) w1→SM w2 (Up R w1.heap.size w2.heap.size) h u'→Kp R w1 w2→Good s' u' r (k + 1)→JW W g h r (k + 1) w2):=fun w1 w2 s' u' a1 a2 a3 a4 a5=>JW.pair hT0 hM0 hd hlo hbW0 a1 a2 a3 a4 a5
 have HMk:Hid (∀ w1,Kp S ((w.alloc (.cells (Pc P) 23)).alloc (.cells o.v 36)) w1→SM w1 R h u∧Bl w1 (w.heap.size + 1) o.v 36):=fun w1 hk=>⟨hM0.kp hk (fun j q q2=>hd j q2 q),(hk.block _ hbl.lt (fun q=>by have:=hT.lt _ q; omega)).trans hbl⟩
 clear hT hM hd hG hlo hbW hb1 hb0 hT0 hM0 hbW0 ha hb
 obtain ⟨kind,oa,ob,of,on,om,da,dl,dc,data⟩:=o
 unfold OpD.v at *
 simp only at *
 subst hk
 generalize St oa=sa at *
 generalize St ob=sb at *
 have c0:=hbl.cell 0 _ rfl
 have c1:=hbl.cell 1 _ rfl
 have c2:=hbl.cell 2 _ rfl
 have c3:=hbl.cell 3 _ rfl
 have c4:=hbl.cell 4 _ rfl
 have c5:=hbl.cell 5 _ rfl
 have c6:=hbl.cell 6 _ rfl
 clear hbl
 go_enter Tryz.func10,Tryz.ntmps10
 go_upto_region 1 with fail
 change Code.wp _ _ _ _ ((w.alloc (.cells (Pc P) 23)).alloc (.cells #[.int .i64 13,.string sa,.string sb,.int .i64 of,.int .i64 on,.int .i64 om,.slice da dl dc] 36))
 generalize (w.alloc (.cells (Pc P) 23)).alloc (.cells #[.int .i64 13,.string sa,.string sb,.int .i64 of,.int .i64 on,.int .i64 om,.slice da dl dc] 36)=w0 at *
 go_wp2_with fail
 refine (unhide K1).mono ?_
 rintro e w1 ⟨E,s',rfl,q1,q2,q3⟩
 obtain ⟨hMw,hbl⟩:=(HMk.out w1 q2)
 have K2:=hide (q3 w1 hMw)
 have HQ:=hide (And.intro q1 q2)
 clear K1 HMk q1 q2 q3 hMw c0 c1 c2 c3 c4 c5 c6
 have c0:=hbl.cell 0 _ rfl
 have c1:=hbl.cell 1 _ rfl
 have c2:=hbl.cell 2 _ rfl
 have c3:=hbl.cell 3 _ rfl
 have c4:=hbl.cell 4 _ rfl
 have c5:=hbl.cell 5 _ rfl
 have c6:=hbl.cell 6 _ rfl
 clear hbl
 go_wp2_with fail
 refine (unhide K2).mono ?_
 rintro e w2 ⟨u',rfl,z1,z2,z3⟩
 have HR:=hide (HJ.out w1 w2 s' u' HQ.out.1 HQ.out.2 z1 z2 z3)
 clear K2 HJ HQ z1 z2 z3 c0 c1 c2 c3 c4 c5 c6
 go_wp2_with fail
 go_ret
 exact ⟨rfl,HR.out⟩

end Go.Proofs.YtknmgefpjdfenaaGreat

