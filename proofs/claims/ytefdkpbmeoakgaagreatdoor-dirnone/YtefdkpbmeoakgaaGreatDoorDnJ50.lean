/- Joined: ESpOne, ERdOne, EOpn1, EIns, FLay, FDo, FKeep. -/
import Derived.Test.YtefdkpbmeoakgaaGreatDoorDnJ45
import Derived.Test.YtefdkpbmeoakgaaGreatDoorDnJ44
import Derived.Test.YtefdkpbmeoakgaaGreatDoorDnFApp
import Derived.Test.YtefdkpbmeoakgaaGreatDoorDnJ47
import Derived.Test.YtefdkpbmeoakgaaGreatDoorDnJ5
import Derived.Test.YtefdkpbmeoakgaaGreatDoorDnJ46
import Derived.Test.YtefdkpbmeoakgaaGreatDoorDnJ22
import Derived.Test.YtefdkpbmeoakgaaGreatDoorDnJ43
import Derived.Test.YtefdkpbmeoakgaaGreatDoorDnJ38
import Derived.Sort.CutIn
import Derived.Test.YtefdkpbmeoakgaaGreatDoorDnFGrow
/- (*folder).split of one name. -/
namespace Go.Proofs.YtefdkpbmeoakgaaGreatDoor
set_option maxRecDepth 100000
set_option maxHeartbeats 8000000
open Go.RowKit Go.Shelf Go.Maps
set_option linter.unusedVariables false
attribute [local go_sem] Oper.semAt_some
theorem afN:(Tryz.prog.info? 70).map (fun i=>(i.zero,i.size,i.bytes))=some (some (.agg #[.int .i64 0,.string ⟨#[]⟩]),2,24):=by kernel_rfl
theorem agY:Tryz.prog.underlying 36=some (.slice 70):=by kernel_rfl
def SpR (n0:Nat) (Q:List (Nat×Obj)->World->Prop) (q r:Option Addr) (P:Nat->Int) (j:Int) (f b cb:Nat) (i:Int) (s:ByteArray) (rows:List (Nat×Obj)) (B:Nat) (e1:List (Nat×Obj)) (W:World):Prop :=
 ∃ g c cur,B<=g/\1<=c/\c<=maxLen/\cur.size=c*2/\cur.toList.take 2=[.int .i64 i,.string s]/\Q (e1++(f,.cells (Df q r P j (.slice (some ⟨b,0,none⟩) 16 cb) (.slice (some ⟨g,0,none⟩) 1 c)) 73)::(g,.cells cur 70)::rows) W
theorem abZ {n0 Q}(hq:Bun n0 Q){rows:List (Nat×Obj)}{u:World}(q r:Option Addr)(P:Nat->Int)(j:Int)(f b cb:Nat)(hcb:16<=cb)(i:Int)(s:ByteArray)(hi:i≠0)(B:Nat)(hB:B<=u.heap.size)(h:Q ((f,.cells (Df q r P j (.slice (some ⟨b,0,none⟩) 16 cb) (.slice none 0 0)) 73)::rows) u)(hf:n0<=f)(hfr:∀ x∈rows,x.1≠f)
  (KU:∀ rows' v,(∀ x∈rows,x∈rows')->Q rows' v->Calls Tryz.prog 89 #[.slice (some ⟨b,0,none⟩) 16 16] v fun e v'=>e=.returned (.tuple #[jO i s,.int .i64 0])/\Hid (Q rows' v')) :
  Calls Tryz.prog 57 #[.pointer (some ⟨f,0,none⟩)] u fun e v'=>e=.returned (.int .i64 0)/\Hid (SpR n0 Q q r P j f b cb i s rows B [] v'):=by
 have H0:Hid (Q ((u.heap.size+1,.cells #[.int .i64 0] 31)::(u.heap.size,zC f 66)::(f,.cells (Df q r P j (.slice (some ⟨b,0,none⟩) 16 cb) (.slice none 0 0)) 73)::rows) ((u.alloc (zC f 66)).alloc (.cells #[.int .i64 0] 31))):=by
  have x:=hq.new (hq.new h (zC f 66)) (.cells #[.int .i64 0] 31)
  simp only[World.size_alloc] at x
  exact x
 have yd:=Bl.cell (hq.row (ah H0) (x:=(f,.cells (Df q r P j (.slice (some ⟨b,0,none⟩) 16 cb) (.slice none 0 0)) 73)) (by simp)) 15 (.slice (some ⟨b,0,none⟩) 16 cb) rfl
 have HS:=hide (And.intro (hq.sz h) (And.intro (hq.lt h (x:=(f,.cells (Df q r P j (.slice (some ⟨b,0,none⟩) 16 cb) (.slice none 0 0)) 73)) (by simp)) (fun x hx=>hq.lt h (List.mem_cons_of_mem _ hx):∀ x∈rows,x.1<u.heap.size)))
 have HBB:=hide hB
 have HF:=hide (And.intro hf hfr)
 have HB:=hide hq
 have HU:=hide KU
 have Hi:=hide hi
 clear hq h hf hfr KU hi hB
 refine(callsIn_wide (n:=3)).1 ?_
 refine callsIn_of_wp_marks Tryz.func57 rfl trivial ?_ rfl
 simp only[Tryz.ntmps57,List.size_toArray,List.length_cons,List.length_nil,Nat.reduceAdd,Nat.reduceSub,Array.replicate_succ,Array.replicate_zero,List.push_toArray,List.append_toArray,List.nil_append,List.cons_append]
 gi_wp2
 refine⟨trivial,?_⟩
 change CallsIn _ _ _ _ _ ((u.alloc (zC f 66)).alloc (.cells #[.int .i64 0] 31)) _
 have HM0:=hide (show u.heap.size<u.heap.size+1 from by omega)
 generalize (u.alloc (zC f 66)).alloc (.cells #[.int .i64 0] 31)=w1 at *
 generalize u.heap.size+1=m1 at *
 generalize u.heap.size=m0 at *
 refine(uI _ _ trivial rfl _ _ _ _ (by omega) _).mono ?_
 rintro e w3 ⟨rfl,hw3⟩
 have L4:Hid (Q ((w1.heap.size+1,zI 16)::(w1.heap.size,.cells #[.slice (some ⟨b,0,none⟩) 16 cb] 71)::(m1,.cells #[.int .i64 0] 31)::(m0,zC f 66)::(f,.cells (Df q r P j (.slice (some ⟨b,0,none⟩) 16 cb) (.slice none 0 0)) 73)::rows) w3):=by
  have x:=(ah HB).new ((ah HB).new (ah H0) (.cells #[.slice (some ⟨b,0,none⟩) 16 cb] 71)) (zI 16)
  simp only[World.size_alloc] at x
  rw[hw3]
  exact x
 have HM2:=hide (And.intro ((ah HB).lt (ah H0) (x:=(m1,.cells #[.int .i64 0] 31)) (by simp)) (show w1.heap.size<w1.heap.size+1 from by omega))
 clear hw3 H0 yd
 generalize w1.heap.size+1=kn at *
 generalize w1.heap.size=ks at *
 gi_wp2
 have hlt:Hid (∀ x∈(kn,zI 16)::(ks,.cells #[.slice (some ⟨b,0,none⟩) 16 cb] 71)::(m1,.cells #[.int .i64 0] 31)::(m0,zC f 66)::(f,.cells (Df q r P j (.slice (some ⟨b,0,none⟩) 16 cb) (.slice none 0 0)) 73)::rows,x.1<w3.heap.size):=fun x hx=>(ah HB).lt (ah L4) hx
 have hsz:Hid (n0<=w3.heap.size):=(ah HB).sz (ah L4)
 refine nY rfl (by omega) (gf:=123) (lb:=#[.pointer (some ⟨ks,0,none⟩),.pointer (some ⟨kn,0,none⟩)]) rfl trivial (enters_of Tryz.func123 (by kernel_rfl) rfl) (args:=#[.slice (some ⟨b,0,none⟩) 16 16]) rfl
  (fun ob W=>Q ((w3.heap.size+1,ob)::(w3.heap.size,.deferred (some []))::(kn,zI 16)::(ks,.cells #[.slice (some ⟨b,0,none⟩) 16 cb] 71)::(m1,.cells #[.int .i64 0] 31)::(m0,zC f 66)::(f,.cells (Df q r P j (.slice (some ⟨b,0,none⟩) 16 cb) (.slice none 0 0)) 73)::rows) W)
  (fun ob W=>SpR n0 Q q r P j f b cb i s rows (w3.heap.size+1+1) [(w3.heap.size+1,ob),(w3.heap.size,.deferred (some [])),(kn,zI 16),(ks,.cells #[.slice (some ⟨b,0,none⟩) 16 cb] 71),(m1,.cells #[.int .i64 0] 31)] W) (ChR ks kn b 0 16 cb) ?_ ?_ ?_ ?_ ?_ ?_ ?_ ?_
 ·intro ob m
  have x:=(ah HB).new ((ah HB).new (ah L4) (.deferred (some []))) ob
  simp only[World.size_alloc] at x
  exact(ah HB).later x (below_drewN (Below.refl _ _) m)
 ·intro ob W hQ
  exact(ah HB).row hQ (x:=(w3.heap.size+1,ob)) (by simp)
 ·rintro W T ⟨ob,hQ⟩ hY
  exact acg Fence.wide 2 trivial rfl (by omega) (w3.heap.size+1) ks kn b 0 16 cb (by omega) hcb T W (fun m=>⟨Bl.cell ((ah HB).row (hQ m) (x:=(ks,.cells #[.slice (some ⟨b,0,none⟩) 16 cb] 71)) (by simp)) 0 _ rfl,Bl.cell ((ah HB).row (hQ m) (x:=(kn,zI 16)) (by simp)) 0 _ rfl⟩) hY
 ·intro ob W hQ
  have HLL:=hide ((ah HB).lt hQ (x:=(w3.heap.size+1,ob)) (by simp))
  gi_wp2
  refine⟨(ah HB).row hQ (x:=(w3.heap.size+1,ob)) (by simp),fun ob'=>?_⟩
  have L7:=hide ((ah HB).obj hQ (by have:=ah hsz;omega) (fun x hx=>by
   rcases List.mem_cons.1 hx with e | e
   ·rw[e];show w3.heap.size≠w3.heap.size+1;omega
   ·have:=ah hlt x e;omega) ob')
  have HL2:=hide (show w3.heap.size+1<(W.putObj (w3.heap.size+1) ob').heap.size from (ah HB).lt (ah L7) (x:=(w3.heap.size+1,ob')) (by simp))
  clear hQ HLL
  generalize W.putObj (w3.heap.size+1) ob'=w5 at *
  have K8:=hide (ah HU _ w5 (fun x hx=>by simp[hx]) (ah L7))
  clear L7
  gi_wp2
  refine⟨trivial,?_⟩
  refine(CallsIn.inRound (w3.heap.size+1) (callsIn_wide.2 (ah K8))).mono ?_
  rintro e w6 ⟨rfl,L8⟩
  clear K8
  have L9:=hide ((ah HB).new (ah L8) (.cells (Dc i s) 70))
  have HL3:=hide ((ah HB).lt (ah L8) (x:=(w3.heap.size+1,ob')) (by simp))
  clear L8 HL2
  gi_upto_region 4 with fail
  change Code.wpIn _ _ _ _ _ _ (w6.alloc (.cells (Dc i s) 70))
  generalize w6.alloc (.cells (Dc i s) 70)=w7 at *
  generalize w6.heap.size=dx at *
  have yx:=Bl.cell ((ah HB).row (ah L9) (x:=(dx,.cells (Dc i s) 70)) (by simp)) 0 (.int .i64 i) rfl
  have hi0:(i==0)=false:=by simp[ah Hi]
  gi_upto_region 6 with fail
  clear yx hi0
  haveI hne:Nonempty (RgC (fun v=>Q ((dx,.cells (Dc i s) 70)::(w3.heap.size+1,ob')::(w3.heap.size,.deferred (some []))::(kn,zI 16)::(ks,.cells #[.slice (some ⟨b,0,none⟩) 16 cb] 71)::(m1,.cells #[.int .i64 0] 31)::(m0,zC f 66)::(f,.cells (Df q r P j (.slice (some ⟨b,0,none⟩) 16 cb) (.slice none 0 0)) 73)::rows) v)):=⟨⟨_,ah L9⟩⟩
  have r0:∀ x:RgC (fun v=>Q ((dx,.cells (Dc i s) 70)::(w3.heap.size+1,ob')::(w3.heap.size,.deferred (some []))::(kn,zI 16)::(ks,.cells #[.slice (some ⟨b,0,none⟩) 16 cb] 71)::(m1,.cells #[.int .i64 0] 31)::(m0,zC f 66)::(f,.cells (Df q r P j (.slice (some ⟨b,0,none⟩) 16 cb) (.slice none 0 0)) 73)::rows) v),x.w.cell? ⟨m0,0,none⟩=some (.pointer (some ⟨f,0,none⟩)):=fun x=>Bl.cell ((ah HB).row x.ok (x:=(m0,zC f 66)) (by simp)) 0 _ rfl
  have r1:∀ x:RgC (fun v=>Q ((dx,.cells (Dc i s) 70)::(w3.heap.size+1,ob')::(w3.heap.size,.deferred (some []))::(kn,zI 16)::(ks,.cells #[.slice (some ⟨b,0,none⟩) 16 cb] 71)::(m1,.cells #[.int .i64 0] 31)::(m0,zC f 66)::(f,.cells (Df q r P j (.slice (some ⟨b,0,none⟩) 16 cb) (.slice none 0 0)) 73)::rows) v),x.w.cell? ⟨f,16,none⟩=some (.slice none 0 0):=fun x=>Bl.cell ((ah HB).row x.ok (x:=(f,.cells (Df q r P j (.slice (some ⟨b,0,none⟩) 16 cb) (.slice none 0 0)) 73)) (by simp)) 16 _ rfl
  have r2:∀ x:RgC (fun v=>Q ((dx,.cells (Dc i s) 70)::(w3.heap.size+1,ob')::(w3.heap.size,.deferred (some []))::(kn,zI 16)::(ks,.cells #[.slice (some ⟨b,0,none⟩) 16 cb] 71)::(m1,.cells #[.int .i64 0] 31)::(m0,zC f 66)::(f,.cells (Df q r P j (.slice (some ⟨b,0,none⟩) 16 cb) (.slice none 0 0)) 73)::rows) v),x.w.cell? ⟨dx,0,none⟩=some (.int .i64 i):=fun x=>Bl.cell ((ah HB).row x.ok (x:=(dx,.cells (Dc i s) 70)) (by simp)) 0 _ rfl
  have r3:∀ x:RgC (fun v=>Q ((dx,.cells (Dc i s) 70)::(w3.heap.size+1,ob')::(w3.heap.size,.deferred (some []))::(kn,zI 16)::(ks,.cells #[.slice (some ⟨b,0,none⟩) 16 cb] 71)::(m1,.cells #[.int .i64 0] 31)::(m0,zC f 66)::(f,.cells (Df q r P j (.slice (some ⟨b,0,none⟩) 16 cb) (.slice none 0 0)) 73)::rows) v),x.w.cell? ⟨dx,1,none⟩=some (.string s):=fun x=>Bl.cell ((ah HB).row x.ok (x:=(dx,.cells (Dc i s) 70)) (by simp)) 1 _ rfl
  refine fM (fun v=>Q ((dx,.cells (Dc i s) 70)::(w3.heap.size+1,ob')::(w3.heap.size,.deferred (some []))::(kn,zI 16)::(ks,.cells #[.slice (some ⟨b,0,none⟩) 16 cb] 71)::(m1,.cells #[.int .i64 0] 31)::(m0,zC f 66)::(f,.cells (Df q r P j (.slice (some ⟨b,0,none⟩) 16 cb) (.slice none 0 0)) 73)::rows) v) 6 2 (by kernel_rfl) (by kernel_rfl) (fun _ _ _ _ _ h=>h) ((ah HB).later (ah L9) (below_drewN (Below.refl _ _) 1)) ?_
  simp only[Nat.reduceAdd,List.take_succ_cons,List.take_zero,List.drop_succ_cons,List.drop_zero]
  repeat (gi_big_quiet_step (fail))
  refine wpQuietIn_nil ?_
  clear r0 r1 r2 r3 hne
  have L10:=hide ((ah HB).later (ah L9) (below_drewN (Below.refl _ _) 1))
  clear L9
  generalize w7.drewN 1=w8 at *
  have L11:Hid (Q ((dx,.cells (Dc i s) 70)::(w3.heap.size+1,ob')::(w3.heap.size,.deferred (some []))::(kn,zI 16)::(ks,.cells #[.slice (some ⟨b,0,none⟩) 16 cb] 71)::(m1,.cells #[.int .i64 0] 31)::(m0,zC f 66)::(f,.cells (Df q r P j (.slice (some ⟨b,0,none⟩) 16 cb) (.slice none 0 0)) 73)::rows) (w8.alloc (.cells (Dc i s) 70))):=(ah HB).later (ah L10) ((Below.refl _ _).alloc (Nat.le_refl _) _)
  have HL4:=hide ((ah HB).lt (ah L10) (x:=(w3.heap.size+1,ob')) (by simp))
  unfold dD
  gi_wp2
  refine ay ⟨ah L11,?_⟩
  have bn:=Bl.new w8 (Dc i s) 70
  change dD _ _ _ _ _ _ _ _ (w8.alloc (.cells (Dc i s) 70))
  clear L10
  generalize w8.alloc (.cells (Dc i s) 70)=w9 at *
  generalize w8.heap.size=nb at *
  have HN:=hide bn.lt
  obtain⟨i0,hi,hz0,hz1,hz2⟩:=info_parts afN
  obtain⟨val',w10,R1,LS,hz3,hg3⟩:=LsQ.app (ah HB) 36 70 i0 _ 2 24 agY hi hz0 hz1 hz2 rfl (by omega) (.inl ⟨rfl,rfl,rfl,ah L11⟩) nb [.int .i64 i,.string s] rfl (fun i v hv=>by
   exact bn.cell i v (by simpa using hv)) (fun v hv=>by
   simp only[List.mem_cons,List.not_mem_nil,or_false] at hv
   rcases hv with e | e<;>rw[e]<;>rfl) (by omega) (by omega)
  clear bn hi hz0 hz1 hz2
  have HR1:=hide R1
  clear R1
  unfold dD
  gi_wp2_with (gi_at_builtin;refine dS 36 rfl _ _ rfl _ _ _ rfl rfl (ah HR1) ?_;clear HR1)
  refine ay ⟨LS.q (ah HB),?_⟩
  unfold dD
  refine ay ?_
  rcases LS with ⟨_,q0,_⟩ | ⟨g,c,cur,rfl,g1,g2,g3,g4,g5,g6,g7,L12⟩
  ·omega
  have hg:=hg3 trivial g _ c rfl
  have bw:Bl w10 f (Df q r P j (.slice (some ⟨b,0,none⟩) 16 cb) (.slice none 0 0)) 73:=(ah HB).row L12 (x:=(f,.cells (Df q r P j (.slice (some ⟨b,0,none⟩) 16 cb) (.slice none 0 0)) 73)) (by simp)
  have y16:=bw.cell 16 (.slice none 0 0) rfl
  have z16:=bw.free 16
  have L13:Hid (SpR n0 Q q r P j f b cb i s rows (w3.heap.size+1+1) [(w3.heap.size+1,ob'),(w3.heap.size,.deferred (some [])),(kn,zI 16),(ks,.cells #[.slice (some ⟨b,0,none⟩) 16 cb] 71),(m1,.cells #[.int .i64 0] 31)] (w10.setCell ⟨f,16,none⟩ (.slice (some ⟨g,0,none⟩) 1 c))):=by
   obtain⟨f1,f2⟩:=ah HF
   obtain⟨o1,o2,o3⟩:=ah HS
   have o4:=ah HM0
   obtain⟨o5,o6⟩:=ah HM2
   have d1:=ah HL4
   have d2:=ah HN
   have d3:kn<w3.heap.size:=ah hlt (kn,zI 16) (by simp)
   refine⟨g,c,cur,by omega,g3,g4,g5,by simpa using g6,?_⟩
   have t1:=(ah HB).put ((ah HB).sub L12 (rows':=(f,.cells (Df q r P j (.slice (some ⟨b,0,none⟩) 16 cb) (.slice none 0 0)) 73)::(w3.heap.size+1,ob')::(w3.heap.size,.deferred (some []))::(kn,zI 16)::(ks,.cells #[.slice (some ⟨b,0,none⟩) 16 cb] 71)::(m1,.cells #[.int .i64 0] 31)::(g,.cells cur 70)::rows) (fun x hx=>by simp only[List.mem_cons] at hx ⊢;rcases hx with e | e | e | e | e | e | e | e<;>simp[e])) f1 (fun x hx=>by
    simp only[List.mem_cons] at hx
    rcases hx with e | e | e | e | e | e | e
    ·rw[e];show w3.heap.size+1≠f;omega
    ·rw[e];show w3.heap.size≠f;omega
    ·rw[e];show kn≠f;omega
    ·rw[e];show ks≠f;omega
    ·rw[e];show m1≠f;omega
    ·rw[e];show g≠f;omega
    ·exact f2 x e) 16 (.slice (some ⟨g,0,none⟩) 1 c)
   refine(ah HB).sub t1 (fun x hx=>?_)
   simp only[List.cons_append,List.nil_append,List.mem_cons] at hx ⊢
   rcases hx with e | e | e | e | e | e | e | e
   ·exact .inr (.inl e)
   ·exact .inr (.inr (.inl e))
   ·exact .inr (.inr (.inr (.inl e)))
   ·exact .inr (.inr (.inr (.inr (.inl e))))
   ·exact .inr (.inr (.inr (.inr (.inr (.inl e)))))
   ·exact .inl e
   ·exact .inr (.inr (.inr (.inr (.inr (.inr (.inl e))))))
   ·exact .inr (.inr (.inr (.inr (.inr (.inr (.inr e))))))
  clear L12 bw g1 g2 g3 g4 g5 g6 g7
  gi_wp2
  exact ah L13
 ·rintro ob W ⟨g,c,cur,_,_,_,_,_,hS⟩
  exact(ah HB).row hS (x:=(w3.heap.size+1,ob)) (by simp)
 ·rintro ob ob' W ⟨g,c,cur,s1,s2,s3,s4,s5,hS⟩
  refine⟨g,c,cur,s1,s2,s3,s4,s5,?_⟩
  simp only[List.cons_append,List.nil_append] at hS ⊢
  refine(ah HB).obj hS (by have:=ah hsz;omega) (fun x hx=>?_) ob'
  have hlt':=ah hlt
  have a1:kn<w3.heap.size:=hlt' (kn,zI 16) (by simp)
  have a2:ks<w3.heap.size:=hlt' (ks,.cells #[.slice (some ⟨b,0,none⟩) 16 cb] 71) (by simp)
  have a3:m1<w3.heap.size:=hlt' (m1,.cells #[.int .i64 0] 31) (by simp)
  have a4:f<w3.heap.size:=hlt' (f,.cells (Df q r P j (.slice (some ⟨b,0,none⟩) 16 cb) (.slice none 0 0)) 73) (by simp)
  simp only[List.mem_cons] at hx
  rcases hx with e | e | e | e | e | e | e
  ·rw[e];show w3.heap.size≠w3.heap.size+1;omega
  ·rw[e];show kn≠w3.heap.size+1;omega
  ·rw[e];show ks≠w3.heap.size+1;omega
  ·rw[e];show m1≠w3.heap.size+1;omega
  ·rw[e];show f≠w3.heap.size+1;omega
  ·rw[e];show g≠w3.heap.size+1;omega
  ·have:=hlt' x (by simp[e]);omega
 ·rintro ob W ⟨g,c,cur,s1,s2,s3,s4,s5,hS⟩
  exact⟨Bl.cell ((ah HB).row hS (x:=(ks,.cells #[.slice (some ⟨b,0,none⟩) 16 cb] 71)) (by simp)) 0 _ rfl,Bl.cell ((ah HB).row hS (x:=(kn,zI 16)) (by simp)) 0 _ rfl⟩
 ·rintro ob W ⟨g,c,cur,s1,s2,s3,s4,s5,hS⟩
  have hlt':=ah hlt
  obtain⟨f1,f2⟩:=ah HF
  obtain⟨o1,o2,o3⟩:=ah HS
  have o4:=ah HM0
  have oB:=ah HBB
  have a3:m1<w3.heap.size:=hlt' (m1,.cells #[.int .i64 0] 31) (by simp)
  have dne:∀ x∈(f,.cells (Df q r P j (.slice (some ⟨b,0,none⟩) 16 cb) (.slice (some ⟨g,0,none⟩) 1 c)) 73)::(g,.cells cur 70)::rows,x.1≠m1/\x.1≠w3.heap.size:=fun x hx=>by
   simp only[List.mem_cons] at hx
   rcases hx with e | e | e
   ·rw[e];show f≠m1/\f≠w3.heap.size;omega
   ·rw[e];show g≠m1/\g≠w3.heap.size;omega
   ·have:=o3 x e;omega
  have d5:Bl W m1 #[.int .i64 0] 31:=(ah HB).row hS (x:=(m1,.cells #[.int .i64 0] 31)) (by simp)
  have S2:=(ah HB).sub hS (rows':=(m1,.cells #[.int .i64 0] 31)::(w3.heap.size,.deferred (some []))::(f,.cells (Df q r P j (.slice (some ⟨b,0,none⟩) 16 cb) (.slice (some ⟨g,0,none⟩) 1 c)) 73)::(g,.cells cur 70)::rows) (fun x hx=>by simp only[List.cons_append,List.nil_append,List.mem_cons] at hx ⊢;rcases hx with e | e | e | e | e<;>simp[e])
  have SB:=hide (show B<=g from by omega)
  generalize hrr:(f,.cells (Df q r P j (.slice (some ⟨b,0,none⟩) 16 cb) (.slice (some ⟨g,0,none⟩) 1 c)) 73)::(g,.cells cur 70)::rows=rr at *
  have L11:=(ah HB).put S2 (by omega) (fun x hx=>by
   simp only[List.mem_cons] at hx
   rcases hx with e | e
   ·rw[e];show w3.heap.size≠m1;omega
   ·exact(dne x e).1) 0 (.int .i64 0)
  have y5:=d5.cell 0 _ rfl
  have z5:=d5.free 0
  have HKD:Hid ((W.setCell ⟨m1,0,none⟩ (.int .i64 0)).heap[w3.heap.size]?=some (.deferred (some []))):=(ah HB).row L11 (x:=(w3.heap.size,.deferred (some []))) (by simp)
  have L12:Hid (Q ((w3.heap.size,.deferred none)::(m1,.cells #[.int .i64 0] 31)::rr) ((W.setCell ⟨m1,0,none⟩ (.int .i64 0)).putObj w3.heap.size (.deferred none))):=(ah HB).obj ((ah HB).sub L11 (rows':=(w3.heap.size,.deferred (some []))::(m1,.cells #[.int .i64 0] 31)::rr) (fun x hx=>by simp only[List.mem_cons] at hx ⊢;rcases hx with e | e | e<;>simp[e])) (ah hsz) (fun x hx=>by
   simp only[List.mem_cons] at hx
   rcases hx with e | e
   ·rw[e];show m1≠w3.heap.size;omega
   ·exact(dne x e).2) (.deferred none)
  clear hS S2 L11 d5 dne hlt'
  gi_wp2
  refine⟨by simp,.inl ⟨_,_,rfl,run_takeDeferred (ah HKD),?_⟩⟩
  refine⟨.int .i64 0,?_,rfl,?_⟩
  ·have f5:=Bl.cell ((ah HB).row (ah L12) (x:=(m1,.cells #[.int .i64 0] 31)) (by simp)) 0 _ rfl
   simp[results,Tryz.results57,go_sem,f5]
  ·refine hide ⟨g,c,cur,ah SB,s2,s3,s4,s5,?_⟩
   rw[List.nil_append,hrr]
   exact(ah HB).sub (ah L12) (fun x hx=>by simp[hx])
attribute [local go_sem] Oper.semAt_some
theorem ahN:(Tryz.prog.info? 5).map (fun i=>(i.zero,i.size,i.bytes))=some (some (.int .u8 0),1,1):=by kernel_rfl
theorem ae3 {n0 Q}(hq:Bun n0 Q){rows:List (Nat×Obj)}{v:World}(h:Q rows v)(nb m:Nat)(news:List Value)(hl:news.length=m)(hm:0<m/\m<=1000)(hrow:Bl v nb news.toArray 5)(h1:∀ u∈news,u.oneCell'=true) :
  ∃ g c cur v',(∀ ty,(Builtin.append_ #[71,71] ty #[.slice none 0 0,.slice (some ⟨nb,0,none⟩) m m]).run Tryz.prog v=.ok (.slice (some ⟨g,0,none⟩) m c) v')/\v.heap.size<=g/\m<=c/\c<=maxLen/\cur.size=c/\cur.toList.take m=news/\Q ((g,.cells cur 5)::rows) v':=by
 obtain⟨i0,hi,hz0,hz1,hz2⟩:=info_parts ahN
 have hnews:∀ j u,news[j]?=some u->v.cell? ((⟨nb,0,none⟩:Addr).add j)=some u:=fun j u hj=>by
  rw[World.aF,Nat.zero_add]
  exact hrow.cell j u (by simpa using hj)
 have hown:v.ownsRow v.heap.size 5 1 (.slice none 0 0) 0 []:=⟨by simp,.inl ⟨rfl,rfl⟩⟩
 obtain⟨val',v',r1,r2,r3,r4,r5⟩:=run_append_own_at (P:=Tryz.prog) v v.heap.size 71 0 5 i0 _ 1 1 Tryz.underlying71 hi hz0 hz1 hz2 rfl (by omega) _ _ _ hown ⟨nb,0,none⟩ m m news (by omega) hnews h1 (by unfold maxLen;omega) (by omega) (Nat.le_refl _)
 obtain⟨q1,⟨_,q2⟩ | ⟨g,c,cur,rfl,q3,q4,q5,q6,q7,q8⟩⟩:=r2
 ·omega
 ·have hb:Below v.heap.size v v':=(Below.refl _ v).grown r3 (Nat.le_refl _) (fun j e=>by cases e)
  refine⟨g,c,cur,v',fun ty=>?_,q3,by omega,q6,by omega,?_,hq.push h hb q3 q4⟩
  ·rw[Nat.zero_add] at r1
   exact r1
  ·simpa using q8
def RdR (n0:Nat) (Q:List (Nat×Obj)->World->Prop) (o tb:Nat) (P:Nat->Int) (j:Int) (f:Nat) (nv:Value) (bs:List Int) (rows:List (Nat×Obj)) (W:World):Prop :=
 ∃ g c cur,(n0<=g/\g≠f/\∀ x∈rows,x.1≠g)/\16<=c/\c<=maxLen/\cur.size=c/\cur.toList.take 16=bs.map (Value.int .u8)/\Q ((f,.cells (Df (some ⟨o,0,none⟩) (some ⟨tb,0,none⟩) P j (.slice (some ⟨g,0,none⟩) 16 c) nv) 73)::(g,.cells cur 5)::rows) W
theorem aei {n0 Q}(hq:Bun n0 Q){rows:List (Nat×Obj)}{u:World}(P:Nat->Int)(o tb f:Nat)(j:Int)(nv:Value)(h:Q ((f,.cells (Df (some ⟨o,0,none⟩) (some ⟨tb,0,none⟩) P j (.slice none 0 0) nv) 73)::rows) u)(hf:n0<=f)(hfr:∀ x∈rows,x.1≠f)(bs:List Int)(hbs:bs.length=16)
  (KR:∀ rows' v,(∀ x∈rows,x∈rows')->Q rows' v->Calls Tryz.prog 88 #[.pointer (some ⟨o,0,none⟩),.pointer (some ⟨tb,0,none⟩),Pv P,.int .i64 j,.int .i64 0,.int .i64 16] v fun e v'=>∃ g2,e=.returned (.tuple #[.slice (some ⟨g2,0,none⟩) 16 16,.int .i64 0])/\Hid (Q ((g2,.cells (bs.map (Value.int .u8)).toArray 5)::rows') v')) :
  Calls Tryz.prog 56 #[.pointer (some ⟨f,0,none⟩),.int .i64 16] u fun e v'=>e=.returned (.int .i64 0)/\Hid (RdR n0 Q o tb P j f nv bs rows v'):=by
 have HH:=hide h
 have HB:=hide hq
 have HF:=hide (And.intro hf hfr)
 have HKR:=hide KR
 have HBS:=hide hbs
 clear h hq hf hfr KR hbs
 go_enter Tryz.func56,Tryz.ntmps56
 go_wp2_with fail
 go_loopw [5] (fun _ wr=>wr=u\/Hid (RdR n0 Q o tb P j f nv bs rows wr)) (fun _ wr=>match wr.cell? ⟨f,15,none⟩ with | some (.slice _ l _)=>16 - l | _=>0)
 case atStart=>exact .inl rfl
 case round =>
  rcases hrel with rfl | hd
  ·obtain⟨x0,x1,x2,x3,x4,x5,x6,x7,x8,x9,x10,x11,x12,x13,x14,x15,x16⟩:=Df.cells ((ah HB).row (ah HH) (x:=(f,.cells (Df (some ⟨o,0,none⟩) (some ⟨tb,0,none⟩) P j (.slice none 0 0) nv) 73)) (by simp))
   have HK:Hid (∀ q,Calls Tryz.prog 88 #[.pointer (some ⟨o,0,none⟩),.pointer (some ⟨tb,0,none⟩),Pv P,.int .i64 j,.int .i64 0,.int .i64 16] (wr.drewN q) fun e v'=>∃ g2,e=.returned (.tuple #[.slice (some ⟨g2,0,none⟩) 16 16,.int .i64 0])/\Hid (Q ((g2,.cells (bs.map (Value.int .u8)).toArray 5)::(f,.cells (Df (some ⟨o,0,none⟩) (some ⟨tb,0,none⟩) P j (.slice none 0 0) nv) 73)::rows) v')):=fun q=>ah HKR _ _ (fun x hx=>List.mem_cons_of_mem _ hx) ((ah HB).later (ah HH) ⟨rfl,rfl,rfl,Nat.le_refl _,fun _ _=>rfl⟩)
   go_wp2_with fail
   refine(wpIn_wide (n:=3)).1 ?_
   refine aK 21 (by kernel_rfl) (by kernel_rfl) ?_
   simp only[List.take_succ_cons,List.take_zero,List.drop_succ_cons,List.drop_zero]
   repeat (gi_big_quiet_step (fail))
   refine wpQuietIn_nil ?_
   rintro _ ⟨nq,rfl⟩
   have HK:=hide (HK.out nq)
   clear x0 x1 x2 x3 x4 x5 x6 x7 x8 x9 x10 x11 x12 x13 x14 x15 x16
   generalize wr.drewN nq=w8 at *
   simp only[show min (16:Int) 4096=16 from by decide]
   gi_wp2
   refine⟨trivial,?_⟩
   refine(callsIn_wide.2 (ah HK)).mono ?_
   rintro e w9 ⟨g2,rfl,Y⟩
   clear HK
   gi_wp2
   refine ay ?_
   repeat (gi_big_quiet_step (fail))
   refine wpQuietIn_nil ?_
   rintro _ ⟨nq2,rfl⟩
   have Y2:=hide ((ah HB).later Y.out (v':=w9.drewN nq2) ⟨rfl,rfl,rfl,Nat.le_refl _,fun _ _=>rfl⟩)
   clear Y
   generalize w9.drewN nq2=w10 at *
   obtain⟨g,c,cur,w11,R1,k1,k2,k3,k4,k5,Y4⟩:=ae3 (ah HB) (ah Y2) g2 16 (bs.map (Value.int .u8)) (by simp[ah HBS]) (by omega) ((ah HB).row (ah Y2) (x:=(g2,.cells (bs.map (Value.int .u8)).toArray 5)) (by simp)) (fun x hx=>by obtain⟨z,_,rfl⟩:=List.mem_map.1 hx;rfl)
   have HR1:=hide R1
   have HY4:=hide Y4
   clear R1 Y4
   have y15:=Bl.cell ((ah HB).row (ah Y2) (x:=(f,.cells (Df (some ⟨o,0,none⟩) (some ⟨tb,0,none⟩) P j (.slice none 0 0) nv) 73)) (by simp)) 15 (.slice none 0 0) rfl
   have z15:=Bl.cell ((ah HB).row (ah HY4) (x:=(f,.cells (Df (some ⟨o,0,none⟩) (some ⟨tb,0,none⟩) P j (.slice none 0 0) nv) 73)) (by simp)) 15 (.slice none 0 0) rfl
   have anV:=Bl.free ((ah HB).row (ah HY4) (x:=(f,.cells (Df (some ⟨o,0,none⟩) (some ⟨tb,0,none⟩) P j (.slice none 0 0) nv) 73)) (by simp)) 15
   have hw:=hide (show n0<=g/\g≠f/\∀ x∈rows,x.1≠g from by
    have q1:=(ah HB).sz (ah Y2)
    have q2:f<w10.heap.size:=(ah HB).lt (ah Y2) (x:=(f,.cells (Df (some ⟨o,0,none⟩) (some ⟨tb,0,none⟩) P j (.slice none 0 0) nv) 73)) (by simp)
    refine⟨by omega,by omega,fun x hx=>?_⟩
    have:=(ah HB).lt (ah Y2) (x:=x) (by simp[hx])
    omega)
   have L13:Hid (RdR n0 Q o tb P j f nv bs rows (w11.setCell ⟨f,15,none⟩ (.slice (some ⟨g,0,none⟩) 16 c))):=by
    obtain⟨f1,f2⟩:=ah HF
    refine hide ⟨g,c,cur,ah hw,k2,k3,k4,k5,?_⟩
    refine(ah HB).put ((ah HB).sub (ah HY4) (rows':=(f,.cells (Df (some ⟨o,0,none⟩) (some ⟨tb,0,none⟩) P j (.slice none 0 0) nv) 73)::(g,.cells cur 5)::rows) (fun x hx=>by simp only[List.mem_cons] at hx ⊢;rcases hx with e | e | e<;>simp[e])) f1 (fun x hx=>?_) 15 (.slice (some ⟨g,0,none⟩) 16 c)
    rcases List.mem_cons.1 hx with e | e
    ·rw[e];exact(ah hw).2.1
    ·exact f2 x e
   go_wp2_with (at_builtin;refine wpList_append_run 71 rfl _ _ rfl _ _ _ rfl rfl (ah HR1) ?_;clear HR1)
   go_roundw
   case rel=>exact .inr L13
   case measure =>
    obtain⟨g',c',cur',h1,h2,h3,h4,h5,h6⟩:=ah L13
    have q1:=Bl.cell ((ah HB).row h6 (x:=(f,.cells (Df (some ⟨o,0,none⟩) (some ⟨tb,0,none⟩) P j (.slice (some ⟨g',0,none⟩) 16 c') nv) 73)) (by simp)) 15 (.slice (some ⟨g',0,none⟩) 16 c') rfl
    have q2:=Bl.cell ((ah HB).row (ah HH) (x:=(f,.cells (Df (some ⟨o,0,none⟩) (some ⟨tb,0,none⟩) P j (.slice none 0 0) nv) 73)) (by simp)) 15 (.slice none 0 0) rfl
    simp only[q1,q2]
    omega
  ·obtain⟨g,c,cur,h1,h2,h3,h4,h5,h6⟩:=ah hd
   have x15:=Bl.cell ((ah HB).row h6 (x:=(f,.cells (Df (some ⟨o,0,none⟩) (some ⟨tb,0,none⟩) P j (.slice (some ⟨g,0,none⟩) 16 c) nv) 73)) (by simp)) 15 (.slice (some ⟨g,0,none⟩) 16 c) rfl
   clear h1 h2 h3 h4 h5 h6
   go_wp2_with fail
   go_ret
   exact⟨rfl,hd⟩
def OpR (Q:List (Nat×Obj)->World->Prop) (o tb:Nat) (P:Nat->Int) (j:Int) (i:Int) (s:ByteArray) (f:Nat) (rows:List (Nat×Obj)) (W:World):Prop :=
 ∃ g c g2 c2 cur,cur.size=c2*2/\1<=c2/\cur.toList.take 2=[.int .i64 i,.string s]/\Q ((f,.cells (Df (some ⟨o,0,none⟩) (some ⟨tb,0,none⟩) P j (.slice (some ⟨g,0,none⟩) 16 c) (.slice (some ⟨g2,0,none⟩) 1 c2)) 73)::(g2,.cells cur 70)::rows) W
theorem aej {n0 Q}(hq:Bun n0 Q){rows:List (Nat×Obj)}{u:World}(h:Q rows u)(P:Nat->Int)(o tb:Nat)(X:Nat->Int)(j:Int)(hk:X 0=2)(h2:X 2=16)(hm0:16<=P 0*mfb P)(KM:∀ v,Calls Tryz.prog 55 #[Pv P] v fun r w'=>r=.returned (.tuple #[.int .i64 (P 0*mfb P),.int .i64 0])/\Below v.heap.size v w')(KG:∀ rows' v,(∀ x∈rows,x∈rows')->Q rows' v->Calls Tryz.prog 54 #[.pointer (some ⟨tb,0,none⟩),.pointer (some ⟨o,0,none⟩),.int .i64 j] v fun e v'=>e=.returned (.tuple #[Iv X,.int .i64 0])/\Hid (Q rows' v'))
  (bs:List Int) (hbs:bs.length=16) (i:Int) (s:ByteArray) (hi:i≠0)
  (KR:∀ rows' v,(∀ x∈rows,x∈rows')->Q rows' v->Calls Tryz.prog 88 #[.pointer (some ⟨o,0,none⟩),.pointer (some ⟨tb,0,none⟩),Pv P,.int .i64 j,.int .i64 0,.int .i64 16] v fun e v'=>∃ g2,e=.returned (.tuple #[.slice (some ⟨g2,0,none⟩) 16 16,.int .i64 0])/\Hid (Q ((g2,.cells (bs.map (Value.int .u8)).toArray 5)::rows') v'))
  (KU:∀ rows' v g c cur,(g,.cells cur 5)∈rows'->cur.size=c->16<=c->cur.toList.take 16=bs.map (Value.int .u8)->Q rows' v->Calls Tryz.prog 89 #[.slice (some ⟨g,0,none⟩) 16 16] v fun e v'=>e=.returned (.tuple #[jO i s,.int .i64 0])/\Hid (Q rows' v')) :
  Calls Tryz.prog 26 #[.pointer (some ⟨o,0,none⟩),.pointer (some ⟨tb,0,none⟩),Pv P,.int .i64 j] u fun e u'=>∃ f,e=.returned (.tuple #[.pointer (some ⟨f,0,none⟩),.int .i64 0])/\Hid (OpR Q o tb P j i s f rows u'):=by
 have HQ:=hide hq
 have H0:=hide (hq.new h (.cells (Pc P) 24))
 have KG2:Hid (∀ v,Q ((u.heap.size,.cells (Pc P) 24)::rows) v->Calls Tryz.prog 54 #[.pointer (some ⟨tb,0,none⟩),.pointer (some ⟨o,0,none⟩),.int .i64 j] v fun e v'=>e=.returned (.tuple #[Iv X,.int .i64 0])/\Hid (Q ((u.heap.size,.cells (Pc P) 24)::rows) v')):=fun v hv=>KG _ v (fun x hx=>List.mem_cons_of_mem _ hx) hv
 have HK:=hide KM
 have HR:=hide KR
 have HU:=hide KU
 have hm:=hide hm0
 have h2':=hide h2
 have hk':=hide hk
 have hbs':=hide hbs
 have hi':=hide hi
 clear h KG hq KM KR KU hm0 h2 hk hbs hi
 go_enter Tryz.func26,Tryz.ntmps26
 go_upto_region 1 with fail
 change Code.wp _ _ _ _ (u.alloc (.cells (Pc P) 24))
 generalize u.alloc (.cells (Pc P) 24)=w0 at *
 generalize u.heap.size=mp at *
 have K1:=hide (ah KG2 w0 (ah H0))
 clear KG2 H0
 go_wp2_with fail
 go_at_call 54
 refine(ah K1).mono ?_
 rintro e w1 ⟨rfl,L1⟩
 have L2:=hide ((ah HQ).new (ah L1) (.cells (Ic X) 65))
 clear K1 L1
 go_upto_region 2 with fail
 change Code.wp _ _ _ _ (w1.alloc (.cells (Ic X) 65))
 generalize w1.alloc (.cells (Ic X) 65)=w2 at *
 generalize w1.heap.size=mx at *
 have bx:=(ah HQ).row (ah L2) (x:=(mx,.cells (Ic X) 65)) (by simp)
 have y0:=Bl.cell bx 0 (.int .i64 (X 0)) rfl
 rw[hk'.out] at y0
 have bl:Bl w2 mp (Pc P) 24:=(ah HQ).row (ah L2) (x:=(mp,.cells (Pc P) 24)) (by simp)
 have x0:=bl.cell 0 (.int .i64 (P 0)) rfl
 have x1:=bl.cell 1 (.int .i64 (P 1)) rfl
 have x2:=bl.cell 2 (.int .i64 (P 2)) rfl
 have x3:=bl.cell 3 (.int .i64 (P 3)) rfl
 have x4:=bl.cell 4 (.int .i64 (P 4)) rfl
 have x5:=bl.cell 5 (.int .i64 (P 5)) rfl
 have x6:=bl.cell 6 (.int .i64 (P 6)) rfl
 have x7:=bl.cell 7 (.int .i64 (P 7)) rfl
 have x8:=bl.cell 8 (.int .i64 (P 8)) rfl
 have x9:=bl.cell 9 (.int .i64 (P 9)) rfl
 have x10:=bl.cell 10 (.int .i64 (P 10)) rfl
 have x11:=bl.cell 11 (.int .i64 (P 11)) rfl
 clear bl bx
 go_wp2_with fail
 refine(ah HK _).mono ?_
 rintro e w3 ⟨rfl,hb⟩
 have L3:=hide ((ah HQ).later (ah L2) hb)
 clear HK hb L2 y0
 clear x0 x1 x2 x3 x4 x5 x6 x7 x8 x9 x10 x11
 have bl:Bl w3 mp (Pc P) 24:=(ah HQ).row (ah L3) (x:=(mp,.cells (Pc P) 24)) (by simp)
 have x0:=bl.cell 0 (.int .i64 (P 0)) rfl
 have x1:=bl.cell 1 (.int .i64 (P 1)) rfl
 have x2:=bl.cell 2 (.int .i64 (P 2)) rfl
 have x3:=bl.cell 3 (.int .i64 (P 3)) rfl
 have x4:=bl.cell 4 (.int .i64 (P 4)) rfl
 have x5:=bl.cell 5 (.int .i64 (P 5)) rfl
 have x6:=bl.cell 6 (.int .i64 (P 6)) rfl
 have x7:=bl.cell 7 (.int .i64 (P 7)) rfl
 have x8:=bl.cell 8 (.int .i64 (P 8)) rfl
 have x9:=bl.cell 9 (.int .i64 (P 9)) rfl
 have x10:=bl.cell 10 (.int .i64 (P 10)) rfl
 have x11:=bl.cell 11 (.int .i64 (P 11)) rfl
 clear bl
 have L4:=hide ((ah HQ).new (ah L3) (.cells (Df (some ⟨o,0,none⟩) (some ⟨tb,0,none⟩) P j (.slice none 0 0) (.slice none 0 0)) 73))
 have hne:=hide ((ah HQ).ne (ah L3))
 have hn0:=hide ((ah HQ).sz (ah L3))
 go_upto_region 12 with fail
 change Code.wp _ _ _ _ (w3.alloc (.cells (Df (some ⟨o,0,none⟩) (some ⟨tb,0,none⟩) P j (.slice none 0 0) (.slice none 0 0)) 73))
 generalize w3.alloc (.cells (Df (some ⟨o,0,none⟩) (some ⟨tb,0,none⟩) P j (.slice none 0 0) (.slice none 0 0)) 73)=w4 at *
 generalize w3.heap.size=f at *
 clear L3
 clear x0 x1 x2 x3 x4 x5 x6 x7 x8 x9 x10 x11
 have y2:=Bl.cell ((ah HQ).row (ah L4) (x:=(mx,.cells (Ic X) 65)) (by simp)) 2 (.int .i64 (X 2)) rfl
 rw[h2'.out] at y2
 have K5:=hide (aei (ah HQ) P o tb f j (.slice none 0 0) (ah L4) (ah hn0) (ah hne) bs (ah hbs') (fun rows' v hs hv=>ah HR rows' v (fun x hx=>hs x (List.mem_cons_of_mem _ (List.mem_cons_of_mem _ hx))) hv))
 have hmin:min (16:Int) (P 0*mfb P)=16:=by have:=hm.out;omega
 generalize hM:P 0*mfb P=M at *
 clear HR L4
 go_wp2_with fail
 refine(ah K5).mono ?_
 rintro e w5 ⟨rfl,R5⟩
 obtain⟨g,c,cur,⟨hg0,hgf,hgr⟩,hc1,hc2,hcs,hct,L5⟩:=ah R5
 have HG:=hide (And.intro hc1 (And.intro hcs hct))
 have hne5:Hid (∀ x∈(g,.cells cur 5)::(mx,.cells (Ic X) 65)::(mp,.cells (Pc P) 24)::rows,x.1≠f):=fun x hx=>by
  rcases List.mem_cons.1 hx with e | e
  ·rw[e];exact hgf
  ·exact ah hne x e
 have K6:=hide (abZ (ah HQ) (some ⟨o,0,none⟩) (some ⟨tb,0,none⟩) P j f g c hc1 i s (ah hi') 0 (Nat.zero_le _) L5 (ah hn0) (ah hne5) (fun rows' v hs hv=>ah HU rows' v g c cur (hs _ (by simp)) hcs hc1 hct hv))
 have y5:=Bl.cell ((ah HQ).row L5 (x:=(mx,.cells (Ic X) 65)) (by simp)) 2 (.int .i64 (X 2)) rfl
 rw[h2'.out] at y5
 clear K5 R5 L5 y2 HU hc1 hc2 hcs hct hg0 hgf hgr hne5 hne
 go_wp2_with fail
 refine(ah K6).mono ?_
 rintro e w6 ⟨rfl,R6⟩
 obtain⟨g2,c2,amy,s1,s2,s3,s4,s5,L6⟩:=ah R6
 rw[List.nil_append] at L6
 have HS6:=hide (And.intro s2 (And.intro s4 s5))
 have HL6:=hide L6
 have y6:=Bl.cell ((ah HQ).row L6 (x:=(mx,.cells (Ic X) 65)) (by simp)) 2 (.int .i64 (X 2)) rfl
 rw[h2'.out] at y6
 have bf:Bl w6 f (Df (some ⟨o,0,none⟩) (some ⟨tb,0,none⟩) P j (.slice (some ⟨g,0,none⟩) 16 c) (.slice (some ⟨g2,0,none⟩) 1 c2)) 73:=(ah HQ).row L6 (x:=(f,.cells (Df (some ⟨o,0,none⟩) (some ⟨tb,0,none⟩) P j (.slice (some ⟨g,0,none⟩) 16 c) (.slice (some ⟨g2,0,none⟩) 1 c2)) 73)) (by simp)
 have K7:=hide (mM f 16 (some ⟨g,0,none⟩) 16 c w6 (by omega) (by omega) (Df.cells bf).2.2.2.2.2.2.2.2.2.2.2.2.2.2.2.1)
 clear K6 bf y5 L6 R6 s1 s2 s3 s4 s5
 go_wp2_with fail
 refine(ah K7).mono ?_
 rintro e w7 ⟨rfl,rfl⟩
 clear K7
 go_wp2_with fail
 go_ret2
 refine⟨f,rfl,hide ⟨g,c,g2,c2,amy,(ah HS6).2.1,(ah HS6).1,(ah HS6).2.2,(ah HQ).sub (ah HL6) (fun x hx=>?_)⟩⟩
 rcases List.mem_cons.1 hx with e | e
 ·simp[e]
 ·rcases List.mem_cons.1 e with e | e
  ·simp[e]
  ·simp[e]
theorem ahS {u}{k:Nat}{xs n}(h:Has u (some ⟨k,0,none⟩) n xs)(hn:0<n):∃ ob,u.heap[k]?=some ob:=by
 obtain⟨b,off,e1,hc⟩:=h.2 hn
 obtain⟨rfl,rfl⟩:k=b/\0=off:=by simpa using e1
 have:=hc 0 hn
 cases hh:u.heap[k]? with
 | none=>simp[World.cell?,hh] at this
 | some ob=>exact⟨ob,rfl⟩
theorem xw {n0}{Q Q3:List (Nat×Obj)->World->Prop}(hq:Bun n0 Q)(hq3:Bun n0 Q3){rows:List (Nat×Obj)}{u:World}(h:Q rows u)(P:Nat->Int)(o tb:Nat)(j:Int)(s:ByteArray)(i:Int)(bs:List Int)
  (KB:∀ v,Calls Tryz.prog 25 #[.string s,.int .i64 i] v fun e v'=>∃ k,e=.returned (.tuple #[.slice (some ⟨k,0,none⟩) 16 16,.int .i64 0])/\Hid (Has v' (some ⟨k,0,none⟩) 16 bs/\v.heap.size<=k)/\Below v.heap.size v v')
  (KO:∀ rows' v,(∀ x∈rows,x∈rows')->Q rows' v->Calls Tryz.prog 26 #[.pointer (some ⟨o,0,none⟩),.pointer (some ⟨tb,0,none⟩),Pv P,.int .i64 j] v fun e v'=>∃ f,e=.returned (.tuple #[.pointer (some ⟨f,0,none⟩),.int .i64 0])/\Hid (Q ((f,.cells (Df (some ⟨o,0,none⟩) (some ⟨tb,0,none⟩) P j (.slice none 0 0) (.slice none 0 0)) 73)::rows') v'))
  (KW:∀ rows' v k,(∀ x∈rows,x∈rows')->(∀ eH v2,(∀ x∈rows',x∈eH)->Q eH v2->Has v2 (some ⟨k,0,none⟩) 16 bs)->Q rows' v->Calls Tryz.prog 60 #[.pointer (some ⟨o,0,none⟩),.pointer (some ⟨tb,0,none⟩),Pv P,.int .i64 j,.int .i64 0,.slice (some ⟨k,0,none⟩) 16 16] v fun e v'=>e=.returned (.int .i64 0)/\Hid (Q3 rows' v')) :
  Calls Tryz.prog 8 #[.pointer (some ⟨o,0,none⟩),.pointer (some ⟨tb,0,none⟩),Pv P,.int .i64 j,.string s,.int .i64 i] u fun e u'=>e=.returned (.int .i64 0)/\Hid (Q3 rows u'):=by
 have HQ:=hide hq
 have HQ3:=hide hq3
 have KB2:=hide KB
 have KO2:=hide KO
 have KW2:=hide KW
 have H0:=hide (hq.new h (.cells (Pc P) 24))
 clear h hq hq3 KB KO KW
 go_enter Tryz.func8,Tryz.ntmps8
 go_upto_region 1 with fail
 change Code.wp _ _ _ _ (u.alloc (.cells (Pc P) 24))
 generalize u.alloc (.cells (Pc P) 24)=w0 at *
 generalize u.heap.size=mp at *
 go_wp2_with fail
 refine(ah KB2 _).mono ?_
 rintro e w1 ⟨k,rfl,hh,hb⟩
 obtain⟨ob,hob⟩:=ahS (ah hh).1 (by omega)
 have L1:=hide ((ah HQ).push (ah H0) hb (ah hh).2 hob)
 have HH:Hid (∀ eH v2,(k,ob)∈eH->Q eH v2->Has v2 (some ⟨k,0,none⟩) 16 bs):=fun eH v2 hx hv=>ahR (ah hh).1 (((ah HQ).row hv hx).trans hob.symm)
 have K1:=hide (ah KO2 _ _ (fun x hx=>List.mem_cons_of_mem _ (List.mem_cons_of_mem _ hx)) (ah L1))
 have bl:Bl w1 mp (Pc P) 24:=(ah HQ).row (ah L1) (x:=(mp,.cells (Pc P) 24)) (by simp)
 have x0:=bl.cell 0 (.int .i64 (P 0)) rfl
 have x1:=bl.cell 1 (.int .i64 (P 1)) rfl
 have x2:=bl.cell 2 (.int .i64 (P 2)) rfl
 have x3:=bl.cell 3 (.int .i64 (P 3)) rfl
 have x4:=bl.cell 4 (.int .i64 (P 4)) rfl
 have x5:=bl.cell 5 (.int .i64 (P 5)) rfl
 have x6:=bl.cell 6 (.int .i64 (P 6)) rfl
 have x7:=bl.cell 7 (.int .i64 (P 7)) rfl
 have x8:=bl.cell 8 (.int .i64 (P 8)) rfl
 have x9:=bl.cell 9 (.int .i64 (P 9)) rfl
 have x10:=bl.cell 10 (.int .i64 (P 10)) rfl
 have x11:=bl.cell 11 (.int .i64 (P 11)) rfl
 clear bl KB2 hb H0 KO2 L1 hob hh
 go_wp2_with fail
 refine(ah K1).mono ?_
 rintro e w2 ⟨f,rfl,L2⟩
 clear K1 x0 x1 x2 x3 x4 x5 x6 x7 x8 x9 x10 x11
 have L3:=hide ((ah HQ).new (ah L2) (.cells #[.string s] 9))
 have y16:=(Df.cells ((ah HQ).row (ah L3) (x:=(f,.cells (Df (some ⟨o,0,none⟩) (some ⟨tb,0,none⟩) P j (.slice none 0 0) (.slice none 0 0)) 73)) (by simp))).2.2.2.2.2.2.2.2.2.2.2.2.2.2.2.2
 have KS:=hide (vM f 0 none (.func (.func 59) #[] #[.pointer (some ⟨w2.heap.size,0,none⟩)]) _ y16)
 have KC:=hide (mP s w2)
 have KD:=hide (abY (ah HQ) (ah HQ3) (ah L3) P o tb f j (.slice none 0 0) (.slice none 0 0) (by simp) (some ⟨k,0,none⟩) 16 16 0 (fun v hv=>ah KW2 _ v k (fun x hx=>by simp[hx]) (fun eH v2 hs hv2=>ah HH eH v2 (hs _ (by simp)) hv2) hv))
 clear L2 L3 KW2 HH
 go_wp2_with fail
 refine(ah KC).mono ?_
 rintro e w3 ⟨rfl,hw3⟩
 clear KC
 rw[← hw3] at KS KD y16
 clear hw3
 go_wp2_with fail
 refine(ah KS).mono ?_
 rintro e w4 ⟨rfl,rfl⟩
 clear KS
 go_wp2_with fail
 refine(ah KD).mono ?_
 rintro e w5 ⟨rfl,L5⟩
 have Z:=hide ((ah HQ3).sub (ah L5) (rows':=rows) (fun x hx=>by simp[hx]))
 clear KD L5 y16
 go_wp2_with fail
 go_ret
 exact⟨rfl,Z⟩
theorem ace {n0 Q}(hq:Bun n0 Q){rows:List (Nat×Obj)}{u:World}(h:Q rows u)(P:Nat->Int)(o tb:Nat)(j:Int)(s:ByteArray)(hs:nameB s=true)
  (KO:∀ rows' v,(∀ x∈rows,x∈rows')->Q rows' v->Calls Tryz.prog 26 #[.pointer (some ⟨o,0,none⟩),.pointer (some ⟨tb,0,none⟩),Pv P,.int .i64 j] v fun e v'=>∃ f,e=.returned (.tuple #[.pointer (some ⟨f,0,none⟩),.int .i64 0])/\Hid (Q ((f,.cells (Df (some ⟨o,0,none⟩) (some ⟨tb,0,none⟩) P j (.slice none 0 0) (.slice none 0 0)) 73)::rows') v')) :
  Calls Tryz.prog 24 #[.pointer (some ⟨o,0,none⟩),.pointer (some ⟨tb,0,none⟩),Pv P,.int .i64 j,.string s] u fun e u'=>e=.returned (.tuple #[.pointer none,.int .i64 0,.int .i64 11])/\Hid (Q rows u'):=by
 have KN:Hid (∀ v,Calls Tryz.prog 52 #[.string s] v fun e v'=>e=.returned (.int .i64 0)/\Below v.heap.size v v'):=fun v=>iR s v hs
 have HQ:=hide hq
 have KO2:=hide KO
 have H0:=hide (hq.new h (.cells (Pc P) 24))
 clear h hq KO hs
 go_enter Tryz.func24,Tryz.ntmps24
 go_upto_region 1 with fail
 change Code.wp _ _ _ _ (u.alloc (.cells (Pc P) 24))
 generalize u.alloc (.cells (Pc P) 24)=w0 at *
 generalize u.heap.size=mp at *
 go_wp2_with fail
 refine(ah KN _).mono ?_
 rintro e w1 ⟨rfl,hb⟩
 have L1:=hide ((ah HQ).later (ah H0) hb)
 have K1:=hide (ah KO2 _ _ (fun x hx=>List.mem_cons_of_mem _ hx) (ah L1))
 have bl:Bl w1 mp (Pc P) 24:=(ah HQ).row (ah L1) (x:=(mp,.cells (Pc P) 24)) (by simp)
 have x0:=bl.cell 0 (.int .i64 (P 0)) rfl
 have x1:=bl.cell 1 (.int .i64 (P 1)) rfl
 have x2:=bl.cell 2 (.int .i64 (P 2)) rfl
 have x3:=bl.cell 3 (.int .i64 (P 3)) rfl
 have x4:=bl.cell 4 (.int .i64 (P 4)) rfl
 have x5:=bl.cell 5 (.int .i64 (P 5)) rfl
 have x6:=bl.cell 6 (.int .i64 (P 6)) rfl
 have x7:=bl.cell 7 (.int .i64 (P 7)) rfl
 have x8:=bl.cell 8 (.int .i64 (P 8)) rfl
 have x9:=bl.cell 9 (.int .i64 (P 9)) rfl
 have x10:=bl.cell 10 (.int .i64 (P 10)) rfl
 have x11:=bl.cell 11 (.int .i64 (P 11)) rfl
 clear bl KN hb H0 KO2 L1
 go_wp2_with fail
 refine(ah K1).mono ?_
 rintro e w2 ⟨f,rfl,L2⟩
 clear K1 x0 x1 x2 x3 x4 x5 x6 x7 x8 x9 x10 x11
 have L3:=hide ((ah HQ).new (ah L2) (.cells #[.string s] 9))
 have y16:=(Df.cells ((ah HQ).row (ah L3) (x:=(f,.cells (Df (some ⟨o,0,none⟩) (some ⟨tb,0,none⟩) P j (.slice none 0 0) (.slice none 0 0)) 73)) (by simp))).2.2.2.2.2.2.2.2.2.2.2.2.2.2.2.2
 have KS:=hide (vM f 0 none (.func (.func 59) #[] #[.pointer (some ⟨w2.heap.size,0,none⟩)]) _ y16)
 have KC:=hide (mP s w2)
 have Z:=hide ((ah HQ).sub (ah L3) (rows':=rows) (fun x hx=>by simp[hx]))
 clear L2 L3 y16
 go_wp2_with fail
 refine(ah KC).mono ?_
 rintro e w3 ⟨rfl,hw3⟩
 clear KC
 rw[← hw3] at KS Z
 clear hw3
 go_wp2_with fail
 refine(ah KS).mono ?_
 rintro e w4 ⟨rfl,rfl⟩
 clear KS
 go_wp2_with fail
 go_ret3
 exact⟨rfl,Z⟩
theorem ael {n0 Q}(hq:Bun n0 Q){rows:List (Nat×Obj)}{u:World}(h:Q rows u)(P:Nat->Int)(o tb:Nat)(j:Int)(s:ByteArray)(i:Int)(hs:nameB s=true)
  (KO:∀ rows' v,(∀ x∈rows,x∈rows')->Q rows' v->Calls Tryz.prog 26 #[.pointer (some ⟨o,0,none⟩),.pointer (some ⟨tb,0,none⟩),Pv P,.int .i64 j] v fun e v'=>∃ f,e=.returned (.tuple #[.pointer (some ⟨f,0,none⟩),.int .i64 0])/\Hid (OpR Q o tb P j i s f rows' v')) :
  Calls Tryz.prog 24 #[.pointer (some ⟨o,0,none⟩),.pointer (some ⟨tb,0,none⟩),Pv P,.int .i64 j,.string s] u fun e u'=>∃ f,e=.returned (.tuple #[.pointer (some ⟨f,0,none⟩),.int .i64 0,.int .i64 0])/\Hid (OpR Q o tb P j i s f rows u'):=by
 have KN:Hid (∀ v,Calls Tryz.prog 52 #[.string s] v fun e v'=>e=.returned (.int .i64 0)/\Below v.heap.size v v'):=fun v=>iR s v hs
 have HQ:=hide hq
 have KO2:=hide KO
 have H0:=hide (hq.new h (.cells (Pc P) 24))
 clear h hq KO hs
 go_enter Tryz.func24,Tryz.ntmps24
 go_upto_region 1 with fail
 change Code.wp _ _ _ _ (u.alloc (.cells (Pc P) 24))
 generalize u.alloc (.cells (Pc P) 24)=w0 at *
 generalize u.heap.size=mp at *
 go_wp2_with fail
 refine(ah KN _).mono ?_
 rintro e w1 ⟨rfl,hb⟩
 have L1:=hide ((ah HQ).later (ah H0) hb)
 have K1:=hide (ah KO2 _ _ (fun x hx=>List.mem_cons_of_mem _ hx) (ah L1))
 have bl:Bl w1 mp (Pc P) 24:=(ah HQ).row (ah L1) (x:=(mp,.cells (Pc P) 24)) (by simp)
 have x0:=bl.cell 0 (.int .i64 (P 0)) rfl
 have x1:=bl.cell 1 (.int .i64 (P 1)) rfl
 have x2:=bl.cell 2 (.int .i64 (P 2)) rfl
 have x3:=bl.cell 3 (.int .i64 (P 3)) rfl
 have x4:=bl.cell 4 (.int .i64 (P 4)) rfl
 have x5:=bl.cell 5 (.int .i64 (P 5)) rfl
 have x6:=bl.cell 6 (.int .i64 (P 6)) rfl
 have x7:=bl.cell 7 (.int .i64 (P 7)) rfl
 have x8:=bl.cell 8 (.int .i64 (P 8)) rfl
 have x9:=bl.cell 9 (.int .i64 (P 9)) rfl
 have x10:=bl.cell 10 (.int .i64 (P 10)) rfl
 have x11:=bl.cell 11 (.int .i64 (P 11)) rfl
 clear bl KN hb H0 KO2 L1
 go_wp2_with fail
 refine(ah K1).mono ?_
 rintro e w2 ⟨f,rfl,R2⟩
 clear K1 x0 x1 x2 x3 x4 x5 x6 x7 x8 x9 x10 x11
 obtain⟨g,c,g2,c2,cur,hc,hc2,ht,L2⟩:=ah R2
 have L3:=hide ((ah HQ).new L2 (.cells #[.string s] 9))
 have y16:=(Df.cells ((ah HQ).row (ah L3) (x:=(f,.cells (Df (some ⟨o,0,none⟩) (some ⟨tb,0,none⟩) P j (.slice (some ⟨g,0,none⟩) 16 c) (.slice (some ⟨g2,0,none⟩) 1 c2)) 73)) (by simp))).2.2.2.2.2.2.2.2.2.2.2.2.2.2.2.2
 have hcur:cur[0]?=some (.int .i64 i)/\cur[1]?=some (.string s):=by
  refine⟨?_,?_⟩
  ·have:(cur.toList.take 2)[0]?=some (.int .i64 i):=by rw[ht];rfl
   simpa [List.getElem?_take] using this
  ·have:(cur.toList.take 2)[1]?=some (.string s):=by rw[ht];rfl
   simpa [List.getElem?_take] using this
 have bg:Bl (w2.alloc (.cells #[.string s] 9)) g2 cur 70:=(ah HQ).row (ah L3) (x:=(g2,.cells cur 70)) (by simp)
 have bn:Bl (w2.alloc (.cells #[.string s] 9)) w2.heap.size #[.string s] 9:=(ah HQ).row (ah L3) (x:=(w2.heap.size,.cells #[.string s] 9)) (by simp)
 have KS:=hide (afi f g2 c2 w2.heap.size i s _ y16 (bn.cell 0 _ rfl) (bg.cell 0 _ hcur.1) (bg.cell 1 _ hcur.2))
 have KC:=hide (mP s w2)
 have Z:Hid (∀ v,Below (w2.alloc (.cells #[.string s] 9)).heap.size (w2.alloc (.cells #[.string s] 9)) v->OpR Q o tb P j i s f rows v):=fun v hv=>⟨g,c,g2,c2,cur,hc,hc2,ht,(ah HQ).sub ((ah HQ).later (ah L3) hv) (fun x hx=>by
  rcases List.mem_cons.1 hx with e | e
  ·simp[e]
  ·rcases List.mem_cons.1 e with e | e
   ·simp[e]
   ·simp[e])⟩
 clear L2 L3 y16 R2 hc hc2 ht hcur bg bn
 go_wp2_with fail
 refine(ah KC).mono ?_
 rintro e w3 ⟨rfl,hw3⟩
 clear KC
 rw[← hw3] at KS Z
 clear hw3
 go_wp2_with fail
 refine(ah KS).mono ?_
 rintro e w4 ⟨rfl,hb4⟩
 have Z4:=hide (ah Z w4 hb4)
 clear KS Z hb4
 go_wp2_with fail
 go_ret3
 exact⟨f,rfl,Z4⟩
theorem aen {n0 Q}(hq:Bun n0 Q){rows:List (Nat×Obj)}{u:World}(h:Q rows u)(P:Nat->Int)(o tb:Nat)(j:Int)(s:ByteArray)(i:Int)
  (KF:∀ rows' v,(∀ x∈rows,x∈rows')->Q rows' v->Calls Tryz.prog 24 #[.pointer (some ⟨o,0,none⟩),.pointer (some ⟨tb,0,none⟩),Pv P,.int .i64 j,.string s] v fun e v'=>∃ f,e=.returned (.tuple #[.pointer (some ⟨f,0,none⟩),.int .i64 0,.int .i64 0])/\Hid (OpR Q o tb P j i s f rows' v')) :
  Calls Tryz.prog 7 #[.pointer (some ⟨o,0,none⟩),.pointer (some ⟨tb,0,none⟩),Pv P,.int .i64 j,.string s] u fun e u'=>e=.returned (.tuple #[.int .i64 i,.int .i64 0])/\Hid (Q rows u'):=by
 have HQ:=hide hq
 have KF2:=hide KF
 have H0:=hide (hq.new h (.cells (Pc P) 24))
 clear h hq KF
 go_enter Tryz.func7,Tryz.ntmps7
 go_upto_region 1 with fail
 change Code.wp _ _ _ _ (u.alloc (.cells (Pc P) 24))
 generalize u.alloc (.cells (Pc P) 24)=w0 at *
 generalize u.heap.size=mp at *
 have K1:=hide (ah KF2 _ _ (fun x hx=>List.mem_cons_of_mem _ hx) (ah H0))
 have bl:Bl w0 mp (Pc P) 24:=(ah HQ).row (ah H0) (x:=(mp,.cells (Pc P) 24)) (by simp)
 have x0:=bl.cell 0 (.int .i64 (P 0)) rfl
 have x1:=bl.cell 1 (.int .i64 (P 1)) rfl
 have x2:=bl.cell 2 (.int .i64 (P 2)) rfl
 have x3:=bl.cell 3 (.int .i64 (P 3)) rfl
 have x4:=bl.cell 4 (.int .i64 (P 4)) rfl
 have x5:=bl.cell 5 (.int .i64 (P 5)) rfl
 have x6:=bl.cell 6 (.int .i64 (P 6)) rfl
 have x7:=bl.cell 7 (.int .i64 (P 7)) rfl
 have x8:=bl.cell 8 (.int .i64 (P 8)) rfl
 have x9:=bl.cell 9 (.int .i64 (P 9)) rfl
 have x10:=bl.cell 10 (.int .i64 (P 10)) rfl
 have x11:=bl.cell 11 (.int .i64 (P 11)) rfl
 clear bl KF2 H0
 go_wp2_with fail
 refine(ah K1).mono ?_
 rintro e w2 ⟨f,rfl,R2⟩
 clear K1 x0 x1 x2 x3 x4 x5 x6 x7 x8 x9 x10 x11
 obtain⟨g,c,g2,c2,cur,hc,hc2,ht,L2⟩:=ah R2
 have y16:=(Df.cells ((ah HQ).row L2 (x:=(f,.cells (Df (some ⟨o,0,none⟩) (some ⟨tb,0,none⟩) P j (.slice (some ⟨g,0,none⟩) 16 c) (.slice (some ⟨g2,0,none⟩) 1 c2)) 73)) (by simp))).2.2.2.2.2.2.2.2.2.2.2.2.2.2.2.2
 have hcur:cur[0]?=some (.int .i64 i):=by
  have:(cur.toList.take 2)[0]?=some (.int .i64 i):=by rw[ht];rfl
  simpa [List.getElem?_take] using this
 have bg:Bl w2 g2 cur 70:=(ah HQ).row L2 (x:=(g2,.cells cur 70)) (by simp)
 have y0:=bg.cell 0 _ hcur
 have Z:=hide ((ah HQ).sub L2 (rows':=rows) (fun x hx=>by simp[hx]))
 clear R2 L2 hcur bg hc hc2 ht
 go_wp2_with fail
 go_ret2
 exact⟨rfl,Z⟩
attribute [local go_sem] Oper.semAt_some
def uU (n0:Nat) (Q:List (Nat×Obj)->World->Prop) (o tb:Nat) (P:Nat->Int) (j:Int) (X:Nat->Int) (mm mw:Nat) (bf:Value) (rows:List (Nat×Obj)) (k l dl:Nat) (ys:List Int) (B:Nat) (extra:List (Nat×Obj)) (W:World):Prop :=
 ∃ bk g c cur,(B<=bk/\B<=g/\bk≠g/\1<=c/\cur.size=c*3/\cur.toList.take 3=[.int .i64 (k:Int),.int .i64 0,.slice (some ⟨bk,0,none⟩) 64 64])/\Q (extra++(g,.cells cur 211)::(bk,.cells (List.replicate l (Value.int .u8 0)++ys.map (Value.int .u8)++List.replicate (64 - (l+dl)) (Value.int .u8 0)).toArray 5)::(mm,.map #[⟨mW (k:Int),.agg #[],0⟩] 1)::(mw,.cells (Wc o tb P j X (.slice (some ⟨g,0,none⟩) 1 c) mm bf) 169)::rows) W
theorem uU.sub {n0 Q}(hq:Bun n0 Q){o tb:Nat}{P:Nat->Int}{j:Int}{X:Nat->Int}{mm mw:Nat}{bf:Value}{rows:List (Nat×Obj)}{k l dl:Nat}{ys:List Int}{B:Nat}{e1 e2:List (Nat×Obj)}{W:World}(h:uU n0 Q o tb P j X mm mw bf rows k l dl ys B e1 W)(hs:∀ x∈e2,x∈e1):uU n0 Q o tb P j X mm mw bf rows k l dl ys B e2 W:=by
 obtain⟨bk,g,c,cur,h1,h2⟩:=h
 exact⟨bk,g,c,cur,h1,hq.sub h2 (fun x hx=>by
  rcases List.mem_append.1 hx with e | e
  ·exact List.mem_append_left _ (hs x e)
  ·exact List.mem_append_right _ e)⟩
theorem uU.row {n0 Q}(hq:Bun n0 Q){o tb:Nat}{P:Nat->Int}{j:Int}{X:Nat->Int}{mm mw:Nat}{bf:Value}{rows:List (Nat×Obj)}{k l dl:Nat}{ys:List Int}{B:Nat}{e1:List (Nat×Obj)}{W:World}(h:uU n0 Q o tb P j X mm mw bf rows k l dl ys B e1 W){x:Nat×Obj}(hx:x∈e1):W.heap[x.1]?=some x.2:=by
 obtain⟨bk,g,c,cur,h1,h2⟩:=h
 exact hq.row h2 (List.mem_append_left _ hx)
theorem uU.ne {n0:Nat}{o tb:Nat}{P:Nat->Int}{j:Int}{X:Nat->Int}{mm mw:Nat}{bf:Value}{rows:List (Nat×Obj)}{k l dl:Nat}{ys:List Int}{B:Nat}{e1:List (Nat×Obj)}{q bk g c:Nat}{cur:Array Value}(hb:B<=bk)(hg:B<=g)(hqB:q<B)(hqm:q≠mm)(hqw:q≠mw)(hr:∀ x∈rows,x.1≠q)(he:∀ x∈e1,x.1≠q) :
  ∀ x∈e1++(g,.cells cur 211)::(bk,.cells (List.replicate l (Value.int .u8 0)++ys.map (Value.int .u8)++List.replicate (64 - (l+dl)) (Value.int .u8 0)).toArray 5)::(mm,.map #[⟨mW (k:Int),.agg #[],0⟩] 1)::(mw,.cells (Wc o tb P j X (.slice (some ⟨g,0,none⟩) 1 c) mm bf) 169)::rows,x.1≠q:=fun x hx=>by
 rcases List.mem_append.1 hx with e | e
 ·exact he x e
 ·simp only[List.mem_cons] at e
  rcases e with e | e | e | e | e
  ·rw[e];show g≠q;omega
  ·rw[e];show bk≠q;omega
  ·rw[e];exact fun e=>hqm e.symm
  ·rw[e];exact fun e=>hqw e.symm
  ·exact hr x e
theorem uU.obj {n0 Q}(hq:Bun n0 Q){o tb:Nat}{P:Nat->Int}{j:Int}{X:Nat->Int}{mm mw:Nat}{bf:Value}{rows:List (Nat×Obj)}{k l dl:Nat}{ys:List Int}{B:Nat}{e1:List (Nat×Obj)}{W:World}{q:Nat}{ob:Obj}(h:uU n0 Q o tb P j X mm mw bf rows k l dl ys B ((q,ob)::e1) W)(h0:n0<=q)(hqB:q<B)(hqm:q≠mm)(hqw:q≠mw)(hr:∀ x∈rows,x.1≠q)(he:∀ x∈e1,x.1≠q)(ob':Obj):uU n0 Q o tb P j X mm mw bf rows k l dl ys B ((q,ob')::e1) (W.putObj q ob'):=by
 obtain⟨bk,g,c,cur,h1,h2⟩:=h
 exact⟨bk,g,c,cur,h1,hq.obj h2 h0 (uU.ne (n0:=n0) h1.1 h1.2.1 hqB hqm hqw hr he) ob'⟩
theorem uU.put {n0 Q}(hq:Bun n0 Q){o tb:Nat}{P:Nat->Int}{j:Int}{X:Nat->Int}{mm mw:Nat}{bf:Value}{rows:List (Nat×Obj)}{k l dl:Nat}{ys:List Int}{B:Nat}{e1:List (Nat×Obj)}{W:World}{q:Nat}{cs:Array Value}{ty:TypeId}(h:uU n0 Q o tb P j X mm mw bf rows k l dl ys B ((q,.cells cs ty)::e1) W)(h0:n0<=q)(hqB:q<B)(hqm:q≠mm)(hqw:q≠mw)(hr:∀ x∈rows,x.1≠q)(he:∀ x∈e1,x.1≠q)(i:Nat)(v:Value):uU n0 Q o tb P j X mm mw bf rows k l dl ys B ((q,.cells (cs.setIfInBounds i v) ty)::e1) (W.setCell ⟨q,i,none⟩ v):=by
 obtain⟨bk,g,c,cur,h1,h2⟩:=h
 exact⟨bk,g,c,cur,h1,hq.put h2 h0 (uU.ne (n0:=n0) h1.1 h1.2.1 hqB hqm hqw hr he) i v⟩
theorem afO:(Tryz.prog.info? 211).map (fun i=>(i.zero,i.size,i.bytes))=some (some (.agg #[.int .i64 0,.int .i64 0,.slice none 0 0]),3,40):=by kernel_rfl
theorem agZ:Tryz.prog.underlying 166=some (.slice 211):=by kernel_rfl
theorem agc {n0 Q}(hq:Bun n0 Q){rows:List (Nat×Obj)}{u:World}{mw mm o tb:Nat}{P:Nat->Int}{j:Int}{X:Nat->Int}{bf:Value}(h:Q ((mm,.map #[] 0)::(mw,.cells (Wc o tb P j X (.slice none 0 0) mm bf) 169)::rows) u)(hmm:n0<=mm)(hmw:n0<=mw)(hne:mw≠mm)(hnr:∀ x∈rows,x.1≠mm/\x.1≠mw)(at0:Int)(k l dl dc:Nat)(da:Option Addr)(ys:List Int)(hP:P 0=64)(hc:bH P=0)(ha:0<=at0/\at0<=1000000)(hk:at0 / 64=(k:Int))(hl:at0%64=(l:Int))(hk8:k<8)(hd:0<dl)(hfit:l+dl<=64)(hdc:dl<=dc)(hm:¬ mfb P<=(k:Int))(hX:X (3+k)=0)
  (HD:∀ rows' v,(∀ x∈rows,x∈rows')->Q rows' v->Has v da dl ys)
  (KF:∀ rows' v,(∀ x∈rows,x∈rows')->Q rows' v->Calls Tryz.prog 61 #[.pointer (some ⟨tb,0,none⟩),.pointer (some ⟨o,0,none⟩),.int .i64 j,.int .i64 (k:Int)] v fun e v'=>e=.returned (.tuple #[.int .i64 0,.int .i64 0])/\Hid (Q rows' v')) :
  Calls Tryz.prog 93 #[.pointer (some ⟨mw,0,none⟩),.int .i64 at0,.slice da dl dc] u fun e v=>e=.returned (.int .i64 0)/\Hid (uU n0 Q o tb P j X mm mw bf rows k l dl ys u.heap.size [] v):=by
 have H0:Hid (Q ((u.heap.size+1+1,.cells #[.int .i64 0] 31)::(u.heap.size+1,.cells #[.slice da dl dc] 71)::(u.heap.size,zC mw 164)::(mm,.map #[] 0)::(mw,.cells (Wc o tb P j X (.slice none 0 0) mm bf) 169)::rows) (((u.alloc (zC mw 164)).alloc (.cells #[.slice da dl dc] 71)).alloc (.cells #[.int .i64 0] 31))):=by
  have x:=hq.new (hq.new (hq.new h (zC mw 164)) (.cells #[.slice da dl dc] 71)) (.cells #[.int .i64 0] 31)
  simp only[World.size_alloc] at x
  exact x
 have HS:=hide (And.intro (hq.sz h) (fun x hx=>hq.lt h hx:∀ x∈(mm,.map #[] 0)::(mw,.cells (Wc o tb P j X (.slice none 0 0) mm bf) 169)::rows,x.1<u.heap.size))
 have HB:=hide hq
 have HKF:=hide KF
 have HHD:=hide HD
 have HP:=hide hP
 have HN:=hide (And.intro hmm (And.intro hmw (And.intro hne hnr)))
 have HC:=hide (And.intro hc (And.intro hm hX))
 have HM1:=hide (show u.heap.size<u.heap.size+1/\u.heap.size+1<u.heap.size+1+1 from ⟨by omega,by omega⟩)
 clear hP KF HD hq h hmm hmw hne hnr hc hm hX
 refine(callsIn_wide (n:=3)).1 ?_
 refine callsIn_of_wp_marks Tryz.func93 rfl trivial ?_ rfl
 simp only[Tryz.ntmps93,List.size_toArray,List.length_cons,List.length_nil,Nat.reduceAdd,Nat.reduceSub,Array.replicate_succ,Array.replicate_zero,List.push_toArray,List.append_toArray,List.nil_append,List.cons_append]
 gi_upto_region 1 with fail
 change Code.wpIn _ _ _ _ _ _ (((u.alloc (zC mw 164)).alloc (.cells #[.slice da dl dc] 71)).alloc (.cells #[.int .i64 0] 31))
 generalize ((u.alloc (zC mw 164)).alloc (.cells #[.slice da dl dc] 71)).alloc (.cells #[.int .i64 0] 31)=w1 at *
 generalize u.heap.size+1+1=m2 at *
 generalize u.heap.size+1=m1 at *
 generalize hm0:u.heap.size=m0 at *
 have y0:=Bl.cell ((ah HB).row (ah H0) (x:=(m0,zC mw 164)) (by simp)) 0 _ rfl
 have y1:=Bl.cell ((ah HB).row (ah H0) (x:=(m1,.cells #[.slice da dl dc] 71)) (by simp)) 0 _ rfl
 have yw:=Bl.cell ((ah HB).row (ah H0) (x:=(mw,.cells (Wc o tb P j X (.slice none 0 0) mm bf) 169)) (by simp)) 2 (.int .i64 (P 0)) rfl
 rw[ah HP] at yw
 refine aK 9 (by kernel_rfl) (by kernel_rfl) ?_
 simp only[List.take_succ_cons,List.take_zero,List.drop_succ_cons,List.drop_zero]
 repeat (gi_big_quiet_step (fail))
 refine wpQuietIn_nil ?_
 rintro _ ⟨nq,rfl⟩
 have L1:=hide ((ah HB).later (ah H0) (below_drewN (Below.refl _ _) nq))
 generalize w1.drewN nq=w2 at *
 clear H0 y0 y1 yw
 gi_wp2
 refine⟨trivial,?_⟩
 refine(vV _ _ trivial rfl _ _ _ _).mono ?_
 rintro e w2' ⟨rfl,hw3⟩
 have L2:Hid (Q ((w2.heap.size+1+1,zI (dl:Int))::(w2.heap.size+1,zI at0)::(w2.heap.size,zI 64)::(m2,.cells #[.int .i64 0] 31)::(m1,.cells #[.slice da dl dc] 71)::(m0,zC mw 164)::(mm,.map #[] 0)::(mw,.cells (Wc o tb P j X (.slice none 0 0) mm bf) 169)::rows) w2'):=by
  have x:=(ah HB).new ((ah HB).new ((ah HB).new (ah L1) (zI 64)) (zI at0)) (zI (dl:Int))
  simp only[World.size_alloc] at x
  rw[hw3]
  exact x
 have HM4:=hide (show m2<w2.heap.size+1+1/\m2<w2.heap.size+1/\m2<w2.heap.size from by
  have:m2<w2.heap.size:=(ah HB).lt (ah L1) (x:=(m2,.cells #[.int .i64 0] 31)) (by simp)
  omega)
 clear hw3 L1
 generalize w2.heap.size+1+1=kn at *
 generalize w2.heap.size+1=ka at *
 generalize w2.heap.size=kb at *
 gi_wp2
 refine ay ?_
 refine wpQuietIn_nil ?_
 rintro _ ⟨nq2,rfl⟩
 have L4:=hide ((ah HB).later (ah L2) (below_drewN (Below.refl _ _) nq2))
 clear L2
 generalize w2'.drewN nq2=w3 at *
 gi_wp2
 have hlt:Hid (∀ x∈(kn,zI (dl:Int))::(ka,zI at0)::(kb,zI 64)::(m2,.cells #[.int .i64 0] 31)::(m1,.cells #[.slice da dl dc] 71)::(m0,zC mw 164)::(mm,.map #[] 0)::(mw,.cells (Wc o tb P j X (.slice none 0 0) mm bf) 169)::rows,x.1<w3.heap.size):=fun x hx=>(ah HB).lt (ah L4) hx
 have hsz:Hid (n0<=w3.heap.size):=(ah HB).sz (ah L4)
 refine jl rfl (by omega) (gf:=170) (lb:=#[.pointer (some ⟨kn,0,none⟩),.pointer (some ⟨ka,0,none⟩),.pointer (some ⟨kb,0,none⟩)]) rfl trivial (enters_of Tryz.func170 (by kernel_rfl) rfl) (args:=#[.agg #[.int .i64 (k:Int),.int .i64 (l:Int),.int .i64 ((l:Int)+(dl:Int)),.int .i64 0]]) rfl
  (fun ob W=>Q ((w3.heap.size+1,ob)::(w3.heap.size,.deferred (some []))::(kn,zI (dl:Int))::(ka,zI at0)::(kb,zI 64)::(m2,.cells #[.int .i64 0] 31)::(m1,.cells #[.slice da dl dc] 71)::(m0,zC mw 164)::(mm,.map #[] 0)::(mw,.cells (Wc o tb P j X (.slice none 0 0) mm bf) 169)::rows) W) (fun ob W=>uU n0 Q o tb P j X mm mw bf rows k l dl ys (w3.heap.size+1+1) [(w3.heap.size+1,ob),(w3.heap.size,.deferred (some [])),(kn,zI (dl:Int)),(m2,.cells #[.int .i64 0] 31)] W) (fun W=>W.cell? ⟨kn,0,none⟩=some (.int .i64 (dl:Int))) ?_ ?_ ?_ ?_ ?_ ?_ ?_ ?_
 ·intro ob
  have x:=(ah HB).new ((ah HB).new (ah L4) (.deferred (some []))) ob
  simp only[World.size_alloc] at x
  exact x
 ·intro ob W hQ
  exact(ah HB).row hQ (x:=(w3.heap.size+1,ob)) (by simp)
 ·rintro W T ⟨ob,hQ⟩ hY
  have:=oN Fence.wide 2 trivial rfl (by omega) (w3.heap.size+1) kn ka kb 64 at0 (dl:Int) (by omega) ha ⟨by omega,by omega⟩ T W (Bl.cell ((ah HB).row hQ (x:=(kn,zI (dl:Int))) (by simp)) 0 _ rfl) (Bl.cell ((ah HB).row hQ (x:=(ka,zI at0)) (by simp)) 0 _ rfl) (Bl.cell ((ah HB).row hQ (x:=(kb,zI 64)) (by simp)) 0 _ rfl)
  rw[hk,hl] at this
  exact this hY
 ·intro ob W hQ
  have HLL:=hide ((ah HB).lt hQ (x:=(w3.heap.size+1,ob)) (by simp))
  have L6:=hide ((ah HB).new hQ (.cells #[.int .i64 (k:Int),.int .i64 (l:Int),.int .i64 ((l:Int)+(dl:Int)),.int .i64 0] 204))
  clear hQ
  gi_wp2
  refine⟨?_,fun ob'=>?_⟩
  ·exact(ah HB).row (ah L6) (x:=(w3.heap.size+1,ob)) (by simp)
  ·have L7:Hid (Q ((w3.heap.size+1,ob')::(W.heap.size,.cells #[.int .i64 (k:Int),.int .i64 (l:Int),.int .i64 ((l:Int)+(dl:Int)),.int .i64 0] 204)::(w3.heap.size,.deferred (some []))::(kn,zI (dl:Int))::(ka,zI at0)::(kb,zI 64)::(m2,.cells #[.int .i64 0] 31)::(m1,.cells #[.slice da dl dc] 71)::(m0,zC mw 164)::(mm,.map #[] 0)::(mw,.cells (Wc o tb P j X (.slice none 0 0) mm bf) 169)::rows) ((W.alloc (.cells #[.int .i64 (k:Int),.int .i64 (l:Int),.int .i64 ((l:Int)+(dl:Int)),.int .i64 0] 204)).putObj (w3.heap.size+1) ob')):=by
    refine(ah HB).obj ((ah HB).sub (ah L6) (rows':=(w3.heap.size+1,ob)::(W.heap.size,.cells #[.int .i64 (k:Int),.int .i64 (l:Int),.int .i64 ((l:Int)+(dl:Int)),.int .i64 0] 204)::(w3.heap.size,.deferred (some []))::(kn,zI (dl:Int))::(ka,zI at0)::(kb,zI 64)::(m2,.cells #[.int .i64 0] 31)::(m1,.cells #[.slice da dl dc] 71)::(m0,zC mw 164)::(mm,.map #[] 0)::(mw,.cells (Wc o tb P j X (.slice none 0 0) mm bf) 169)::rows) (fun x hx=>?_)) (by have:=ah hsz;omega) (fun x hx=>?_) ob'
    ·simp only[List.mem_cons] at hx ⊢
     rcases hx with e | e | e
     ·exact .inr (.inl e)
     ·exact .inl e
     ·exact .inr (.inr e)
    ·have hW:=ah HLL
     rcases List.mem_cons.1 hx with e | hx
     ·rw[e];show W.heap.size≠w3.heap.size+1;omega
     ·rcases List.mem_cons.1 hx with e | e
      ·rw[e];show w3.heap.size≠w3.heap.size+1;omega
      ·have:=ah hlt x e;omega
   have HPX:=hide (show w3.heap.size+1<W.heap.size from ah HLL)
   clear L6 HLL
   change Code.wpIn _ _ _ _ _ _ ((W.alloc (.cells #[.int .i64 (k:Int),.int .i64 (l:Int),.int .i64 ((l:Int)+(dl:Int)),.int .i64 0] 204)).putObj (w3.heap.size+1) ob')
   generalize (W.alloc (.cells #[.int .i64 (k:Int),.int .i64 (l:Int),.int .i64 ((l:Int)+(dl:Int)),.int .i64 0] 204)).putObj (w3.heap.size+1) ob'=w5 at *
   generalize W.heap.size=px at *
   have y0:=Bl.cell ((ah HB).row (ah L7) (x:=(m0,zC mw 164)) (by simp)) 0 _ rfl
   have bw:Bl w5 mw (Wc o tb P j X (.slice none 0 0) mm bf) 169:=(ah HB).row (ah L7) (x:=(mw,.cells (Wc o tb P j X (.slice none 0 0) mm bf) 169)) (by simp)
   have c0:=bw.cell 0 (.pointer (some ⟨o,0,none⟩)) rfl
   have c1:=bw.cell 1 (.pointer (some ⟨tb,0,none⟩)) rfl
   have c14:=bw.cell 14 (.int .i64 j) rfl
   have yp:=Bl.cell ((ah HB).row (ah L7) (x:=(px,.cells #[.int .i64 (k:Int),.int .i64 (l:Int),.int .i64 ((l:Int)+(dl:Int)),.int .i64 0] 204)) (by simp)) 0 (.int .i64 (k:Int)) rfl
   clear bw
   gi_wp2
   refine aK 17 (by kernel_rfl) (by kernel_rfl) ?_
   simp only[List.take_succ_cons,List.take_zero,List.drop_succ_cons,List.drop_zero]
   repeat (gi_big_quiet_step (fail))
   refine wpQuietIn_nil ?_
   rintro _ ⟨nq3,rfl⟩
   have L8:=hide ((ah HB).later (ah L7) (below_drewN (Below.refl _ _) nq3))
   generalize w5.drewN nq3=w6 at *
   have K8:=hide (ah HKF _ w6 (fun x hx=>by simp[hx]) (ah L8))
   clear L7 L8 y0 c0 c1 c14 yp
   gi_wp2
   refine⟨trivial,?_⟩
   refine(CallsIn.inRound (w3.heap.size+1) (callsIn_wide.2 (ah K8))).mono ?_
   rintro e w7 ⟨rfl,L9⟩
   clear K8
   gi_wp2
   refine ay ?_
   repeat (gi_big_quiet_step (fail))
   refine wpQuietIn_nil ?_
   rintro _ ⟨nq4,rfl⟩
   have L10:=hide ((ah HB).later (ah L9) (below_drewN (Below.refl _ _) nq4))
   clear L9
   generalize w7.drewN nq4=w8 at *
   have y0:=Bl.cell ((ah HB).row (ah L10) (x:=(m0,zC mw 164)) (by simp)) 0 _ rfl
   have yw:=Bl.cell ((ah HB).row (ah L10) (x:=(mw,.cells (Wc o tb P j X (.slice none 0 0) mm bf) 169)) (by simp)) 2 (.int .i64 (P 0)) rfl
   rw[ah HP] at yw
   have yp:=Bl.cell ((ah HB).row (ah L10) (x:=(px,.cells #[.int .i64 (k:Int),.int .i64 (l:Int),.int .i64 ((l:Int)+(dl:Int)),.int .i64 0] 204)) (by simp)) 0 (.int .i64 (k:Int)) rfl
   have HPB:=hide ((ah HB).lt (ah L10) (x:=(px,.cells #[.int .i64 (k:Int),.int .i64 (l:Int),.int .i64 ((l:Int)+(dl:Int)),.int .i64 0] 204)) (by simp))
   have hmk:∀ w:World,(Instr.makeSlice 71 (.int .i64 64) (.int .i64 64)).run Tryz.prog w=.ok (.slice (some ⟨w.heap.size,0,none⟩) 64 64) (w.alloc (.cells (madeCells #[.int .u8 0] 64) 5)):=run_make_row' (P:=Tryz.prog) 71 5 (.int .u8 0) 1 Tryz.underlying71 info5 rfl .i64 .i64 64 (by omega) (by omega)
   have L11:Hid (Q ((w8.heap.size,.cells (madeCells #[.int .u8 0] 64) 5)::(w3.heap.size+1,ob')::(px,.cells #[.int .i64 (k:Int),.int .i64 (l:Int),.int .i64 ((l:Int)+(dl:Int)),.int .i64 0] 204)::(w3.heap.size,.deferred (some []))::(kn,zI (dl:Int))::(ka,zI at0)::(kb,zI 64)::(m2,.cells #[.int .i64 0] 31)::(m1,.cells #[.slice da dl dc] 71)::(m0,zC mw 164)::(mm,.map #[] 0)::(mw,.cells (Wc o tb P j X (.slice none 0 0) mm bf) 169)::rows) (w8.alloc (.cells (madeCells #[.int .u8 0] 64) 5))):=(ah HB).new (ah L10) (.cells (madeCells #[.int .u8 0] 64) 5)
   have e0:=Bl.cell ((ah HB).row (ah L11) (x:=(m0,zC mw 164)) (by simp)) 0 _ rfl
   have ep:=Bl.cell ((ah HB).row (ah L11) (x:=(px,.cells #[.int .i64 (k:Int),.int .i64 (l:Int),.int .i64 ((l:Int)+(dl:Int)),.int .i64 0] 204)) (by simp)) 0 (.int .i64 (k:Int)) rfl
   clear L10
   gi_wp2
   change _/\CallsIn _ _ _ _ _ (w8.alloc (.cells (madeCells #[.int .u8 0] 64) 5)) _
   clear y0 yw yp hmk e0 ep
   generalize w8.alloc (.cells (madeCells #[.int .u8 0] 64) 5)=w8' at *
   generalize w8.heap.size=bk at *
   have HO:Hid ((n0<=mm/\n0<=mw/\n0<=bk)/\(mm<m0/\mw<m0/\mw≠mm/\m0<m1/\m1<m2/\m2<kn/\m2<ka/\m2<kb/\kn<w3.heap.size/\ka<w3.heap.size/\kb<w3.heap.size/\w3.heap.size+1<px/\px<bk)/\∀ x∈rows,x.1<m0/\x.1≠mm/\x.1≠mw):=by
    obtain⟨n1,n2,n3,n4⟩:=ah HN
    obtain⟨s1,s2⟩:=ah HS
    have q1:mm<m0:=s2 (mm,.map #[] 0) (by simp)
    have q2:mw<m0:=s2 (mw,.cells (Wc o tb P j X (.slice none 0 0) mm bf) 169) (by simp)
    obtain⟨o1,o2⟩:=ah HM1
    obtain⟨o3,o4,o5⟩:=ah HM4
    have q4:kn<w3.heap.size:=ah hlt (kn,zI (dl:Int)) (by simp)
    have q5:ka<w3.heap.size:=ah hlt (ka,zI at0) (by simp)
    have q6:kb<w3.heap.size:=ah hlt (kb,zI 64) (by simp)
    have o6:w3.heap.size+1<px:=ah HPX
    have o7:px<bk:=ah HPB
    exact⟨⟨n1,n2,by omega⟩,⟨q1,q2,n3,o1,o2,o3,o4,o5,q4,q5,q6,o6,o7⟩,fun x hx=>⟨s2 x (by simp[hx]),(n4 x hx).1,(n4 x hx).2⟩⟩
   have K12:Hid (Calls Tryz.prog 137 #[.pointer (some ⟨mw,0,none⟩),.int .i64 (k:Int)] w8' fun e v=>e=.returned (.int .i64 0)/\Hid (Q ((mm,.map #[⟨mW (k:Int),.agg #[],0⟩] 1)::(mw,.cells (Wc o tb P j X (.slice none 0 0) mm bf) 169)::(bk,.cells (madeCells #[.int .u8 0] 64) 5)::(w3.heap.size+1,ob')::(px,.cells #[.int .i64 (k:Int),.int .i64 (l:Int),.int .i64 ((l:Int)+(dl:Int)),.int .i64 0] 204)::(w3.heap.size,.deferred (some []))::(kn,zI (dl:Int))::(ka,zI at0)::(kb,zI 64)::(m2,.cells #[.int .i64 0] 31)::(m1,.cells #[.slice da dl dc] 71)::(m0,zC mw 164)::rows) v)):=by
    obtain⟨⟨n1,n2,n3⟩,⟨a1,a2,a3,a4,a5,a6,a7,a8,a9,b1,b2,b3,b4⟩,b5⟩:=ah HO
    obtain⟨z1,z2,z3⟩:=ah HC
    refine wS (ah HB) ((ah HB).sub (ah L11) (fun x hx=>by simp only[List.mem_cons] at hx ⊢;rcases hx with e | e | e | e | e | e | e | e | e | e | e | e | e<;>simp[e])) n1 (fun x hx=>?_) k hk8 z1 (by omega) z3
    simp only[List.mem_cons] at hx
    rcases hx with e | e | e | e | e | e | e | e | e | e | e | e
    ·rw[e];exact a3
    ·rw[e];show bk≠mm;omega
    ·rw[e];show w3.heap.size+1≠mm;omega
    ·rw[e];show px≠mm;omega
    ·rw[e];show w3.heap.size≠mm;omega
    ·rw[e];show kn≠mm;omega
    ·rw[e];show ka≠mm;omega
    ·rw[e];show kb≠mm;omega
    ·rw[e];show m2≠mm;omega
    ·rw[e];show m1≠mm;omega
    ·rw[e];show m0≠mm;omega
    ·exact(b5 x e).2.1
   clear L11
   refine⟨trivial,?_⟩
   refine(CallsIn.inRound (w3.heap.size+1) (callsIn_wide.2 (ah K12))).mono ?_
   rintro e w9 ⟨rfl,L12⟩
   clear K12
   have bp:Bl w9 px #[.int .i64 (k:Int),.int .i64 (l:Int),.int .i64 ((l:Int)+(dl:Int)),.int .i64 0] 204:=(ah HB).row (ah L12) (x:=(px,.cells #[.int .i64 (k:Int),.int .i64 (l:Int),.int .i64 ((l:Int)+(dl:Int)),.int .i64 0] 204)) (by simp)
   have p1:=bp.cell 1 (.int .i64 (l:Int)) rfl
   have p2:=bp.cell 2 (.int .i64 ((l:Int)+(dl:Int))) rfl
   have p3:=bp.cell 3 (.int .i64 0) rfl
   have yd:=Bl.cell ((ah HB).row (ah L12) (x:=(m1,.cells #[.slice da dl dc] 71)) (by simp)) 0 (.slice da dl dc) rfl
   have hs1:∀ u,(Instr.slice 71 (.slice (some ⟨bk,0,none⟩) 64 64) (some (.int .i64 (l:Int))) (some (.int .i64 ((l:Int)+(dl:Int)))) none).run Tryz.prog u=.ok (.slice (cutAt (some ⟨bk,0,none⟩) 64 l) dl (64 - l)) u:=fun u=>iH (some ⟨bk,0,none⟩) 64 64 l dl (by omega) u
   have hs2:∀ u,(Instr.slice 71 (.slice da dl dc) (some (.int .i64 0)) none none).run Tryz.prog u=.ok (.slice (cutAt da dc 0) dl dc) u:=fun u=>jq da dl dc 0 (by omega) u
   have hc3:Hid (∀ nq ty,(Builtin.copy_ #[71,71] ty #[.slice (cutAt (some ⟨bk,0,none⟩) 64 l) dl (64 - l),.slice (cutAt da dc 0) dl dc]).run Tryz.prog (w9.drewN nq)=.ok (goInt dl) ((w9.drewN nq).setRow bk (List.replicate l (Value.int .u8 0)++ys.map (Value.int .u8)++List.replicate (64 - (l+dl)) (Value.int .u8 0)).toArray)):=fun nq ty=>by
    have hQ9:=(ah HB).later (ah L12) (below_drewN (Below.refl _ _) nq)
    have hb9:Bl (w9.drewN nq) bk (madeCells #[.int .u8 0] 64) 5:=(ah HB).row hQ9 (x:=(bk,.cells (madeCells #[.int .u8 0] 64) 5)) (by simp)
    have hh:=ah HHD _ _ (fun x hx=>by simp[hx]) hQ9
    have hcut:=hh.cut hdc (l:=0) (k:=dl) (by omega)
    rw[List.drop_zero,List.take_of_length_le (by rw[hh.1];omega)] at hcut
    have:=aaK (c:=64) (dn:=dl) (dc:=64 - l) (c2:=dc) (at0:=l) hb9 (size_madeCells _ _) hcut hd (Nat.le_refl _) hfit ty
    rw[this,toList_madeCells_one,List.take_replicate,List.drop_replicate,Nat.min_eq_left (by omega)]
   have Hl:=hide (And.intro hd (And.intro hfit hdc))
   have il:0<=(l:Int):=by omega
   have idl:(l:Int)<=(l:Int)+(dl:Int):=by omega
   have iub:(l:Int)+(dl:Int)<=64:=by omega
   generalize cutAt (some ⟨bk,0,none⟩) 64 l=q1 at *
   generalize cutAt da dc 0=q2 at *
   clear bp
   gi_wp2
   refine jf 10 (by kernel_rfl) (by kernel_rfl) ?_
   simp only[List.take_succ_cons,List.take_zero,List.drop_succ_cons,List.drop_zero]
   repeat (gi_big_quiet_step (fail))
   refine wpQuietIn_nil ?_
   rintro _ ⟨nq5,rfl⟩
   have hc4:=ah hc3 nq5
   have L13:Hid (Q ((bk,.cells (List.replicate l (Value.int .u8 0)++ys.map (Value.int .u8)++List.replicate (64 - (l+dl)) (Value.int .u8 0)).toArray 5)::(mm,.map #[⟨mW (k:Int),.agg #[],0⟩] 1)::(mw,.cells (Wc o tb P j X (.slice none 0 0) mm bf) 169)::(w3.heap.size+1,ob')::(px,.cells #[.int .i64 (k:Int),.int .i64 (l:Int),.int .i64 ((l:Int)+(dl:Int)),.int .i64 0] 204)::(w3.heap.size,.deferred (some []))::(kn,zI (dl:Int))::(m2,.cells #[.int .i64 0] 31)::(m0,zC mw 164)::rows) ((w9.drewN nq5).setRow bk (List.replicate l (Value.int .u8 0)++ys.map (Value.int .u8)++List.replicate (64 - (l+dl)) (Value.int .u8 0)).toArray)):=by
    obtain⟨⟨n1,n2,n3⟩,⟨a1,a2,a3,a4,a5,a6,a7,a8,a9,b1,b2,b3,b4⟩,b5⟩:=ah HO
    refine(ah HB).whole ((ah HB).sub ((ah HB).later (ah L12) (below_drewN (Below.refl _ _) nq5)) (rows':=(bk,.cells (madeCells #[.int .u8 0] 64) 5)::(mm,.map #[⟨mW (k:Int),.agg #[],0⟩] 1)::(mw,.cells (Wc o tb P j X (.slice none 0 0) mm bf) 169)::(w3.heap.size+1,ob')::(px,.cells #[.int .i64 (k:Int),.int .i64 (l:Int),.int .i64 ((l:Int)+(dl:Int)),.int .i64 0] 204)::(w3.heap.size,.deferred (some []))::(kn,zI (dl:Int))::(m2,.cells #[.int .i64 0] 31)::(m0,zC mw 164)::rows) (fun x hx=>by simp only[List.mem_cons] at hx ⊢;rcases hx with e | e | e | e | e | e | e | e | e | e<;>simp[e])) n3 (fun x hx=>?_) _
    simp only[List.mem_cons] at hx
    rcases hx with e | e | e | e | e | e | e | e | e
    ·rw[e];show mm≠bk;omega
    ·rw[e];show mw≠bk;omega
    ·rw[e];show w3.heap.size+1≠bk;omega
    ·rw[e];show px≠bk;omega
    ·rw[e];show w3.heap.size≠bk;omega
    ·rw[e];show kn≠bk;omega
    ·rw[e];show m2≠bk;omega
    ·rw[e];show m0≠bk;omega
    ·have:=(b5 x e).1;omega
   clear hc3 L12 p1 p2 p3 yd hs1 hs2 il idl iub
   generalize (w9.drewN nq5).setRow bk (List.replicate l (Value.int .u8 0)++ys.map (Value.int .u8)++List.replicate (64 - (l+dl)) (Value.int .u8 0)).toArray=w10 at *
   obtain⟨bz,hbz⟩:∃ bz,bz=(List.replicate l (Value.int .u8 0)++ys.map (Value.int .u8)++List.replicate (64 - (l+dl)) (Value.int .u8 0)).toArray:=⟨_,rfl⟩
   rw[← hbz] at L13
   have HZ:=hide hbz
   clear hbz
   gi_wp2
   haveI hne:Nonempty (RgC (fun v=>Q ((bk,.cells bz 5)::(mm,.map #[⟨mW (k:Int),.agg #[],0⟩] 1)::(mw,.cells (Wc o tb P j X (.slice none 0 0) mm bf) 169)::(w3.heap.size+1,ob')::(px,.cells #[.int .i64 (k:Int),.int .i64 (l:Int),.int .i64 ((l:Int)+(dl:Int)),.int .i64 0] 204)::(w3.heap.size,.deferred (some []))::(kn,zI (dl:Int))::(m2,.cells #[.int .i64 0] 31)::(m0,zC mw 164)::rows) v)):=⟨⟨_,ah L13⟩⟩
   have r0:∀ x:RgC (fun v=>Q ((bk,.cells bz 5)::(mm,.map #[⟨mW (k:Int),.agg #[],0⟩] 1)::(mw,.cells (Wc o tb P j X (.slice none 0 0) mm bf) 169)::(w3.heap.size+1,ob')::(px,.cells #[.int .i64 (k:Int),.int .i64 (l:Int),.int .i64 ((l:Int)+(dl:Int)),.int .i64 0] 204)::(w3.heap.size,.deferred (some []))::(kn,zI (dl:Int))::(m2,.cells #[.int .i64 0] 31)::(m0,zC mw 164)::rows) v),x.w.cell? ⟨m0,0,none⟩=some (.pointer (some ⟨mw,0,none⟩)):=fun x=>Bl.cell ((ah HB).row x.ok (x:=(m0,zC mw 164)) (by simp)) 0 _ rfl
   have r1:∀ x:RgC (fun v=>Q ((bk,.cells bz 5)::(mm,.map #[⟨mW (k:Int),.agg #[],0⟩] 1)::(mw,.cells (Wc o tb P j X (.slice none 0 0) mm bf) 169)::(w3.heap.size+1,ob')::(px,.cells #[.int .i64 (k:Int),.int .i64 (l:Int),.int .i64 ((l:Int)+(dl:Int)),.int .i64 0] 204)::(w3.heap.size,.deferred (some []))::(kn,zI (dl:Int))::(m2,.cells #[.int .i64 0] 31)::(m0,zC mw 164)::rows) v),x.w.cell? ⟨mw,28,none⟩=some (.slice none 0 0):=fun x=>Bl.cell ((ah HB).row x.ok (x:=(mw,.cells (Wc o tb P j X (.slice none 0 0) mm bf) 169)) (by simp)) 28 _ rfl
   have r2:∀ x:RgC (fun v=>Q ((bk,.cells bz 5)::(mm,.map #[⟨mW (k:Int),.agg #[],0⟩] 1)::(mw,.cells (Wc o tb P j X (.slice none 0 0) mm bf) 169)::(w3.heap.size+1,ob')::(px,.cells #[.int .i64 (k:Int),.int .i64 (l:Int),.int .i64 ((l:Int)+(dl:Int)),.int .i64 0] 204)::(w3.heap.size,.deferred (some []))::(kn,zI (dl:Int))::(m2,.cells #[.int .i64 0] 31)::(m0,zC mw 164)::rows) v),x.w.cell? ⟨px,0,none⟩=some (.int .i64 (k:Int)):=fun x=>Bl.cell ((ah HB).row x.ok (x:=(px,.cells #[.int .i64 (k:Int),.int .i64 (l:Int),.int .i64 ((l:Int)+(dl:Int)),.int .i64 0] 204)) (by simp)) 0 _ rfl
   refine fM (fun v=>Q ((bk,.cells bz 5)::(mm,.map #[⟨mW (k:Int),.agg #[],0⟩] 1)::(mw,.cells (Wc o tb P j X (.slice none 0 0) mm bf) 169)::(w3.heap.size+1,ob')::(px,.cells #[.int .i64 (k:Int),.int .i64 (l:Int),.int .i64 ((l:Int)+(dl:Int)),.int .i64 0] 204)::(w3.heap.size,.deferred (some []))::(kn,zI (dl:Int))::(m2,.cells #[.int .i64 0] 31)::(m0,zC mw 164)::rows) v) 10 2 (by kernel_rfl) (by kernel_rfl) (fun _ _ _ _ _ h=>h) ((ah HB).later (ah L13) (below_drewN (Below.refl _ _) 1)) ?_
   simp only[Nat.reduceAdd,List.take_succ_cons,List.take_zero,List.drop_succ_cons,List.drop_zero]
   repeat (gi_big_quiet_step (fail))
   refine wpQuietIn_nil ?_
   clear r0 r1 r2 hne
   have L14:=hide ((ah HB).later (ah L13) (below_drewN (Below.refl _ _) 1))
   clear L13
   generalize w10.drewN 1=w11 at *
   have L15:Hid (Q ((bk,.cells bz 5)::(mm,.map #[⟨mW (k:Int),.agg #[],0⟩] 1)::(mw,.cells (Wc o tb P j X (.slice none 0 0) mm bf) 169)::(w3.heap.size+1,ob')::(px,.cells #[.int .i64 (k:Int),.int .i64 (l:Int),.int .i64 ((l:Int)+(dl:Int)),.int .i64 0] 204)::(w3.heap.size,.deferred (some []))::(kn,zI (dl:Int))::(m2,.cells #[.int .i64 0] 31)::(m0,zC mw 164)::rows) (w11.alloc (.cells #[.int .i64 (k:Int),.int .i64 0,.slice (some ⟨bk,0,none⟩) 64 64] 211))):=(ah HB).later (ah L14) ((Below.refl _ _).alloc (Nat.le_refl _) _)
   unfold dD
   gi_wp2
   refine ay ⟨ah L15,?_⟩
   have bn:=Bl.new w11 #[.int .i64 (k:Int),.int .i64 0,.slice (some ⟨bk,0,none⟩) 64 64] 211
   change dD _ _ _ _ _ _ _ _ (w11.alloc (.cells #[.int .i64 (k:Int),.int .i64 0,.slice (some ⟨bk,0,none⟩) 64 64] 211))
   have anf:=hide ((ah HB).lt (ah L14) (x:=(px,.cells #[.int .i64 (k:Int),.int .i64 (l:Int),.int .i64 ((l:Int)+(dl:Int)),.int .i64 0] 204)) (by simp))
   have HWb:=hide ((ah HB).lt (ah L14) (x:=(bk,.cells bz 5)) (by simp))
   clear L14
   generalize w11.alloc (.cells #[.int .i64 (k:Int),.int .i64 0,.slice (some ⟨bk,0,none⟩) 64 64] 211)=w12 at *
   generalize w11.heap.size=nb at *
   obtain⟨i0,hi,hz0,hz1,hz2⟩:=info_parts afO
   obtain⟨val',w13,R1,LS,hz3,hg3⟩:=LsQ.app (ah HB) 166 211 i0 _ 3 40 agZ hi hz0 hz1 hz2 rfl (by omega) (.inl ⟨rfl,rfl,rfl,ah L15⟩) nb [.int .i64 (k:Int),.int .i64 0,.slice (some ⟨bk,0,none⟩) 64 64] rfl (fun i v hv=>by
    exact bn.cell i v (by simpa using hv)) (fun v hv=>by
    simp only[List.mem_cons,List.not_mem_nil,or_false] at hv
    rcases hv with e | e | e<;>rw[e]<;>rfl) (by omega) (by omega)
   have ang:=hide (bn.lt)
   clear bn hi hz0 hz1 hz2
   have HR1:=hide R1
   clear R1
   unfold dD
   gi_wp2_with (gi_at_builtin;refine dS 166 rfl _ _ rfl _ _ _ rfl rfl (ah HR1) ?_;clear HR1)
   refine ay ⟨LS.q (ah HB),?_⟩
   unfold dD
   refine ay ?_
   rcases LS with ⟨_,q0,_⟩ | ⟨g,c,cur,rfl,g1,g2,g3,g4,g5,g6,g7,L16⟩
   ·omega
   have hg:=hg3 trivial g _ c rfl
   have bw:Bl w13 mw (Wc o tb P j X (.slice none 0 0) mm bf) 169:=(ah HB).row L16 (x:=(mw,.cells (Wc o tb P j X (.slice none 0 0) mm bf) 169)) (by simp)
   have y28:=bw.cell 28 (.slice none 0 0) rfl
   have z28:=bw.free 28
   have L17:Hid (uU n0 Q o tb P j X mm mw bf rows k l dl ys (w3.heap.size+1+1) [(w3.heap.size+1,ob'),(w3.heap.size,.deferred (some [])),(kn,zI (dl:Int)),(m2,.cells #[.int .i64 0] 31)] (w13.setCell ⟨mw,28,none⟩ (.slice (some ⟨g,0,none⟩) 1 c))):=by
    obtain⟨⟨n1,n2,n3⟩,⟨a1,a2,a3,a4,a5,a6,a7,a8,a9,b1,b2,b3,b4⟩,b5⟩:=ah HO
    have d1:=ah ang
    have d2:=ah anf
    have d3:=ah HWb
    refine⟨bk,g,c,cur,⟨by omega,by omega,by omega,by omega,g5,by simpa using g6⟩,?_⟩
    have t1:=(ah HB).put ((ah HB).sub L16 (rows':=(mw,.cells (Wc o tb P j X (.slice none 0 0) mm bf) 169)::(w3.heap.size+1,ob')::(w3.heap.size,.deferred (some []))::(kn,zI (dl:Int))::(m2,.cells #[.int .i64 0] 31)::(g,.cells cur 211)::(bk,.cells bz 5)::(mm,.map #[⟨mW (k:Int),.agg #[],0⟩] 1)::rows) (fun x hx=>by simp only[List.mem_cons] at hx ⊢;rcases hx with e | e | e | e | e | e | e | e | e<;>simp[e])) n2 (fun x hx=>by
     simp only[List.mem_cons] at hx
     rcases hx with e | e | e | e | e | e | e | e
     ·rw[e];show w3.heap.size+1≠mw;omega
     ·rw[e];show w3.heap.size≠mw;omega
     ·rw[e];show kn≠mw;omega
     ·rw[e];show m2≠mw;omega
     ·rw[e];show g≠mw;omega
     ·rw[e];show bk≠mw;omega
     ·rw[e];exact fun e=>a3 e.symm
     ·exact(b5 x e).2.2) 28 (.slice (some ⟨g,0,none⟩) 1 c)
    rw[ah HZ] at t1
    exact(ah HB).sub t1 (fun x hx=>by
     simp only[List.mem_cons,List.mem_append,List.not_mem_nil,or_false] at hx ⊢
     rcases hx with (e | e | e | e) | e | e | e | e | e<;>first | exact .inl (by rw[e];rfl) | simp[e])
   clear L15 L16 bw g2 g6 hg3 hg
   gi_wp2
   exact ah L17
 ·intro ob W hS
  exact hS.row (ah HB) (x:=(w3.heap.size+1,ob)) (by simp)
 ·intro ob ob' W hS
  obtain⟨n1,n2,n3,n4⟩:=ah HN
  obtain⟨s1,s2⟩:=ah HS
  have q1:mm<m0:=s2 (mm,.map #[] 0) (by simp)
  have q2:mw<m0:=s2 (mw,.cells (Wc o tb P j X (.slice none 0 0) mm bf) 169) (by simp)
  have q3:m0<w3.heap.size:=ah hlt (m0,zC mw 164) (by simp)
  have q4:kn<w3.heap.size:=ah hlt (kn,zI (dl:Int)) (by simp)
  have q5:m2<w3.heap.size:=ah hlt (m2,.cells #[.int .i64 0] 31) (by simp)
  refine hS.obj (ah HB) (by have:=ah hsz;omega) (by omega) (by omega) (by omega) (fun x hx=>?_) (fun x hx=>?_) ob'
  ·have:=s2 x (by simp[hx]);omega
  ·simp only[List.mem_cons,List.not_mem_nil,or_false] at hx
   rcases hx with e | e | e
   ·rw[e];show w3.heap.size≠_;omega
   ·rw[e];show kn≠_;omega
   ·rw[e];show m2≠_;omega
 ·intro ob W hS
  exact Bl.cell (hS.row (ah HB) (x:=(kn,zI (dl:Int))) (by simp)) 0 _ rfl
 ·intro ob W hS
  obtain⟨n1,n2,n3,n4⟩:=ah HN
  obtain⟨s1,s2⟩:=ah HS
  have q1:mm<m0:=s2 (mm,.map #[] 0) (by simp)
  have q2:mw<m0:=s2 (mw,.cells (Wc o tb P j X (.slice none 0 0) mm bf) 169) (by simp)
  have q3:m0<w3.heap.size:=ah hlt (m0,zC mw 164) (by simp)
  have q4:kn<w3.heap.size:=ah hlt (kn,zI (dl:Int)) (by simp)
  have q5:m2<w3.heap.size:=ah hlt (m2,.cells #[.int .i64 0] 31) (by simp)
  obtain⟨o1,o2⟩:=ah HM1
  have d2:Bl W m2 #[.int .i64 0] 31:=hS.row (ah HB) (x:=(m2,.cells #[.int .i64 0] 31)) (by simp)
  have L10:=(hS.sub (ah HB) (e2:=[(m2,.cells #[.int .i64 0] 31),(w3.heap.size,.deferred (some []))]) (fun x hx=>by simp only[List.mem_cons,List.not_mem_nil,or_false] at hx ⊢;rcases hx with e | e<;>simp[e])).put (ah HB) (by omega) (by omega) (by omega) (by omega) (fun x hx=>by have:=s2 x (by simp[hx]);omega) (fun x hx=>by
   simp only[List.mem_cons,List.not_mem_nil,or_false] at hx
   rw[hx];show w3.heap.size≠_;omega) 0 (.int .i64 0)
  have y2:=d2.cell 0 _ rfl
  have z2:=d2.free 0
  have HKD:Hid ((W.setCell ⟨m2,0,none⟩ (.int .i64 0)).heap[w3.heap.size]?=some (.deferred (some []))):=L10.row (ah HB) (x:=(w3.heap.size,.deferred (some []))) (by simp)
  have L12:Hid (uU n0 Q o tb P j X mm mw bf rows k l dl ys (w3.heap.size+1+1) [(w3.heap.size,.deferred none),(m2,.cells #[.int .i64 0] 31)] ((W.setCell ⟨m2,0,none⟩ (.int .i64 0)).putObj w3.heap.size (.deferred none))):=(L10.sub (ah HB) (e2:=[(w3.heap.size,.deferred (some [])),(m2,.cells #[.int .i64 0] 31)]) (fun x hx=>by simp only[List.mem_cons,List.not_mem_nil,or_false] at hx ⊢;rcases hx with e | e<;>simp[e])).obj (ah HB) (ah hsz) (by omega) (by omega) (by omega) (fun x hx=>by have:=s2 x (by simp[hx]);omega) (fun x hx=>by
   simp only[List.mem_cons,List.not_mem_nil,or_false] at hx
   rw[hx];show m2≠_;omega) (.deferred none)
  clear hS L10 d2
  gi_wp2
  refine⟨by simp,.inl ⟨_,_,rfl,run_takeDeferred (ah HKD),?_⟩⟩
  refine⟨.int .i64 0,?_,rfl,?_⟩
  ·have f2:=Bl.cell ((ah L12).row (ah HB) (x:=(m2,.cells #[.int .i64 0] 31)) (by simp)) 0 _ rfl
   simp[results,Tryz.results93,go_sem,f2]
  ·obtain⟨bk,g,c,cur,h1,h2⟩:=(ah L12).sub (ah HB) (e2:=[]) (fun x hx=>by cases hx)
   exact hide ⟨bk,g,c,cur,⟨by omega,by omega,h1.2.2⟩,h2⟩
attribute [local go_sem] Oper.semAt_some
theorem xZ (a:Act)(v:Value):a.put none v=a:=rfl
theorem aif {n0}{Q Q1 Q2 Q3:List (Nat×Obj)->World->Prop}(hq:Bun n0 Q)(hq1:Bun n0 Q1)(hq2:Bun n0 Q2)(hq3:Bun n0 Q3){rows:List (Nat×Obj)}{u:World}{mw mm o tb g c bk:Nat}{P:Nat->Int}{j:Int}{X Y:Nat->Int}{bf:Value}{cur bz:Array Value}(h:Q ((mw,.cells (Wc o tb P j X (.slice (some ⟨g,0,none⟩) 1 c) mm bf) 169)::(g,.cells cur 211)::(bk,.cells bz 5)::rows) u)(hg:n0<=g)(hgn:g≠mw/\g≠bk/\∀ x∈rows,x.1≠g)(k:Nat)(hc0:cur[0]?=some (.int .i64 (k:Int)))(hc1:cur[1]?=some (.int .i64 0))(hc2:cur[2]?=some (.slice (some ⟨bk,0,none⟩) 64 64))(en:Int)(hs:X 2<en)(b:Nat)(fr:Bool)
  (KM:∀ rows' v,(∀ x∈rows,x∈rows')->Q rows' v->Calls Tryz.prog 142 #[.pointer (some ⟨tb,0,none⟩),.pointer (some ⟨o,0,none⟩),.int .i64 j,.int .i64 (k:Int)] v fun e v'=>e=.returned (.tuple #[.int .i64 (b:Int),.bool fr,.int .i64 0])/\Hid (Q1 rows' v'))
  (KG:∀ rows' v,(∀ x∈rows,x∈rows')->Q1 rows' v->Calls Tryz.prog 54 #[.pointer (some ⟨tb,0,none⟩),.pointer (some ⟨o,0,none⟩),.int .i64 j] v fun e v'=>e=.returned (.tuple #[Iv Y,.int .i64 0])/\Hid (Q1 rows' v'))
  (KP:∀ rows' v,(∀ x∈rows,x∈rows')->Q1 rows' v->Calls Tryz.prog 23 #[.pointer (some ⟨tb,0,none⟩),.pointer (some ⟨o,0,none⟩),.int .i64 j,.agg #[.int .i64 (Y 0),.int .i64 (Y 1),.int .i64 en,.int .i64 (Y 3),.int .i64 (Y 4),.int .i64 (Y 5),.int .i64 (Y 6),.int .i64 (Y 7),.int .i64 (Y 8),.int .i64 (Y 9),.int .i64 (Y 10),.int .i64 (Y 11),.int .i64 (Y 12)]] v fun e v'=>e=.returned (.int .i64 0)/\Hid (Q2 rows' v'))
  (KD:X 0=1/\(∀ rows' v,(bk,.cells bz 5)∈rows'->(∀ x∈rows,x∈rows')->Q2 rows' v->Calls Tryz.prog 153 #[.pointer (some ⟨o,0,none⟩),.int .i64 (b:Int),.slice (some ⟨bk,0,none⟩) 64 64] v fun e v'=>e=.returned (.int .i64 0)/\Hid (Q3 rows' v'))\/X 0=2/\(∀ rows' v,(bk,.cells bz 5)∈rows'->(∀ x∈rows,x∈rows')->Q2 rows' v->Calls Tryz.prog 51 #[.pointer (some ⟨o,0,none⟩),.int .i64 (b:Int),.slice (some ⟨bk,0,none⟩) 64 64] v fun e v'=>e=.returned (.int .i64 0)/\Hid (Q3 rows' v'))) :
  Calls Tryz.prog 95 #[.pointer (some ⟨mw,0,none⟩),.int .i64 en] u fun e v=>e=.returned (.int .i64 0)/\Hid (Q3 rows v):=by
 have L0:=hide h
 have HB:=hide (And.intro hq (And.intro hq1 (And.intro hq2 hq3)))
 have HG:=hide (And.intro hg hgn)
 have HC:=hide (And.intro hc0 (And.intro hc1 hc2))
 have HX:=hide hs
 have HKM:=hide KM
 have HKG:=hide KG
 have HKP:=hide KP
 have HKD:=hide KD
 have y28:=Bl.cell (hq.row h (x:=(mw,.cells (Wc o tb P j X (.slice (some ⟨g,0,none⟩) 1 c) mm bf) 169)) (by simp)) 28 (.slice (some ⟨g,0,none⟩) 1 c) rfl
 clear hq hq1 hq2 hq3 h hg hgn hc0 hc1 hc2 hs KM KG KP KD
 refine(callsIn_wide (n:=3)).1 ?_
 refine callsIn_of_wp Tryz.func95 rfl trivial ?_ rfl
 simp only[Tryz.ntmps95,List.size_toArray,List.length_cons,List.length_nil,Nat.reduceAdd,Nat.reduceSub,Array.replicate_succ,Array.replicate_zero,List.push_toArray,List.append_toArray,List.nil_append,List.cons_append]
 gi_wp2
 clear y28
 gi_loopw [19] (fun iv wr=>iv=.int .i64 0/\wr=u\/iv=.int .i64 1/\Hid (Q1 ((mw,.cells (Wc o tb P j X (.slice (some ⟨g,0,none⟩) 1 c) mm bf) 169)::(g,.cells (cur.setIfInBounds 1 (.int .i64 (b:Int))) 211)::(bk,.cells bz 5)::rows) wr)) (fun iv _=>(1 - intOf iv).toNat)
 case atStart=>exact .inl ⟨rfl,rfl⟩
 case round =>
  rcases hrel with ⟨rfl,rfl⟩ | ⟨rfl,L9⟩
  ·have bg:Bl wr g cur 211:=(ah HB).1.row (ah L0) (x:=(g,.cells cur 211)) (by simp)
   have g0:=bg.cell 0 _ (ah HC).1
   have g1:=bg.cell 1 _ (ah HC).2.1
   have g2:=bg.cell 2 _ (ah HC).2.2
   clear bg
   have L1:=hide ((ah HB).1.new (ah L0) (.cells #[.int .i64 (k:Int),.int .i64 0,.slice (some ⟨bk,0,none⟩) 64 64] 211))
   have yn:=(Bl.new wr #[.int .i64 (k:Int),.int .i64 0,.slice (some ⟨bk,0,none⟩) 64 64] 211).cell 1 (.int .i64 0) rfl
   gi_upto_region 5 with (refine fH rfl 211 _ _ rfl wr.heap.size #[.int .i64 (k:Int),.int .i64 0,.slice (some ⟨bk,0,none⟩) 64 64] rfl rfl 211 #[.int .i64 0,.int .i64 0,.slice none 0 0] (World.alloc_heap_new _ _) (by kernel_rfl) rfl (by simp[Value.oneCell']) ?_;rw[World.setRow_alloc_new])
   change Code.wpIn _ _ _ _ _ _ (wr.alloc (.cells #[.int .i64 (k:Int),.int .i64 0,.slice (some ⟨bk,0,none⟩) 64 64] 211))
   clear g0 g1 g2 yn
   generalize wr.alloc (.cells #[.int .i64 (k:Int),.int .i64 0,.slice (some ⟨bk,0,none⟩) 64 64] 211)=w1 at *
   generalize wr.heap.size=q1 at *
   have bw:Bl w1 mw (Wc o tb P j X (.slice (some ⟨g,0,none⟩) 1 c) mm bf) 169:=(ah HB).1.row (ah L1) (x:=(mw,.cells (Wc o tb P j X (.slice (some ⟨g,0,none⟩) 1 c) mm bf) 169)) (by simp)
   have c0:=bw.cell 0 (.pointer (some ⟨o,0,none⟩)) rfl
   have c1:=bw.cell 1 (.pointer (some ⟨tb,0,none⟩)) rfl
   have c14:=bw.cell 14 (.int .i64 j) rfl
   have yq:=Bl.cell ((ah HB).1.row (ah L1) (x:=(q1,.cells #[.int .i64 (k:Int),.int .i64 0,.slice (some ⟨bk,0,none⟩) 64 64] 211)) (by simp)) 0 (.int .i64 (k:Int)) rfl
   clear bw
   refine aK 17 (by kernel_rfl) (by kernel_rfl) ?_
   simp only[List.take_succ_cons,List.take_zero,List.drop_succ_cons,List.drop_zero]
   repeat (gi_big_quiet_step (fail))
   refine wpQuietIn_nil ?_
   rintro _ ⟨nq,rfl⟩
   have L2:=(ah HB).1.later (ah L1) (below_drewN (Below.refl _ _) nq)
   have K2:=hide (ah HKM _ _ (fun x hx=>by simp[hx]) L2)
   clear L1 L2 c0 c1 c14 yq
   generalize w1.drewN nq=w2 at *
   gi_wp2
   refine⟨trivial,?_⟩
   refine(callsIn_wide.2 (ah K2)).mono ?_
   rintro e w3 ⟨rfl,L3⟩
   clear K2
   gi_wp2
   refine ay ?_
   repeat (gi_big_quiet_step (fail))
   refine wpQuietIn_nil ?_
   rintro _ ⟨nq2,rfl⟩
   have L4:=hide ((ah HB).2.1.later (ah L3) (below_drewN (Below.refl _ _) nq2))
   clear L3
   generalize w3.drewN nq2=w4 at *
   have y28:=Bl.cell ((ah HB).2.1.row (ah L4) (x:=(mw,.cells (Wc o tb P j X (.slice (some ⟨g,0,none⟩) 1 c) mm bf) 169)) (by simp)) 28 (.slice (some ⟨g,0,none⟩) 1 c) rfl
   have bg:Bl w4 g cur 211:=(ah HB).2.1.row (ah L4) (x:=(g,.cells cur 211)) (by simp)
   have g1:=bg.cell 1 _ (ah HC).2.1
   have z1:=bg.free 1
   have L5:Hid (Q1 ((mw,.cells (Wc o tb P j X (.slice (some ⟨g,0,none⟩) 1 c) mm bf) 169)::(g,.cells (cur.setIfInBounds 1 (.int .i64 (b:Int))) 211)::(bk,.cells bz 5)::rows) (w4.setCell ⟨g,1,none⟩ (.int .i64 (b:Int)))):=by
    obtain⟨e1,e2,e3,e4⟩:=ah HG
    refine(ah HB).2.1.sub ((ah HB).2.1.put ((ah HB).2.1.sub (ah L4) (rows':=(g,.cells cur 211)::(mw,.cells (Wc o tb P j X (.slice (some ⟨g,0,none⟩) 1 c) mm bf) 169)::(bk,.cells bz 5)::rows) (fun x hx=>by simp only[List.mem_cons] at hx ⊢;rcases hx with e | e | e | e<;>simp[e])) e1 (fun x hx=>?_) 1 (.int .i64 (b:Int))) (fun x hx=>by simp only[List.mem_cons] at hx ⊢;rcases hx with e | e | e | e<;>simp[e])
    simp only[List.mem_cons] at hx
    rcases hx with e | e | e
    ·rw[e];exact fun q=>e2 q.symm
    ·rw[e];exact fun q=>e3 q.symm
    ·exact e4 x e
   clear bg L4
   gi_wp2
   go_roundw
   case rel=>exact .inr ⟨by go_num,L5⟩
   case measure=>simp[intOf]
  ·clear L0
   have K10:Hid (Calls Tryz.prog 101 #[.pointer (some ⟨mw,0,none⟩),.int .i64 en] wr fun e v=>e=.returned (.int .i64 0)/\Hid (Q2 ((mw,.cells (Wc o tb P j X (.slice (some ⟨g,0,none⟩) 1 c) mm bf) 169)::(g,.cells (cur.setIfInBounds 1 (.int .i64 (b:Int))) 211)::(bk,.cells bz 5)::rows) v)) :=
    abU (ah HB).2.1 (ah L9) (fg:=mw) (cs:=Wc o tb P j X (.slice (some ⟨g,0,none⟩) 1 c) mm bf) (ty:=169) (by simp) rfl rfl rfl rfl en (ah HX) Y (fun rows' v hs hv=>ah HKG rows' v (fun x hx=>hs x (by simp[hx])) hv)
     (fun rows' v hs hv=>(ah HKP rows' v (fun x hx=>hs x (by simp[hx])) hv).mono (by
      rintro e v' ⟨rfl,q⟩
      exact⟨rfl,(ah HB).2.2.1.sub (ah q) hs⟩)) (fun v v' hv hb=>(ah HB).2.2.1.later hv hb)
   clear L9
   gi_wp2
   refine⟨trivial,?_⟩
   refine(callsIn_wide.2 (ah K10)).mono ?_
   rintro e w5 ⟨rfl,L11⟩
   clear K10
   have y28:=Bl.cell ((ah HB).2.2.1.row (ah L11) (x:=(mw,.cells (Wc o tb P j X (.slice (some ⟨g,0,none⟩) 1 c) mm bf) 169)) (by simp)) 28 (.slice (some ⟨g,0,none⟩) 1 c) rfl
   gi_wp2
   clear y28
   gi_loopw [74] (fun iv wr=>iv=.int .i64 0/\wr=w5\/iv=.int .i64 1/\Hid (Q3 rows wr)) (fun iv _=>(1 - intOf iv).toNat)
   case atStart=>exact .inl ⟨rfl,rfl⟩
   case round =>
    rcases hrel with ⟨rfl,rfl⟩ | ⟨rfl,L9⟩
    ·have bg:Bl wr g (cur.setIfInBounds 1 (.int .i64 (b:Int))) 211:=(ah HB).2.2.1.row (ah L11) (x:=(g,.cells (cur.setIfInBounds 1 (.int .i64 (b:Int))) 211)) (by simp)
     have hsz:2<cur.size:=(Array.getElem?_eq_some_iff.1 (ah HC).2.2).1
     have g0:=bg.cell 0 (.int .i64 (k:Int)) (by rw[Array.getElem?_setIfInBounds_ne (by omega)];exact(ah HC).1)
     have g1:=bg.cell 1 (.int .i64 (b:Int)) (by rw[Array.getElem?_setIfInBounds_self_of_lt (by omega)])
     have g2:=bg.cell 2 (.slice (some ⟨bk,0,none⟩) 64 64) (by rw[Array.getElem?_setIfInBounds_ne (by omega)];exact(ah HC).2.2)
     clear bg
     have L12:=hide ((ah HB).2.2.1.new (ah L11) (.cells #[.int .i64 (k:Int),.int .i64 (b:Int),.slice (some ⟨bk,0,none⟩) 64 64] 211))
     clear L11
     gi_upto_region 16 with (refine fH rfl 211 _ _ rfl wr.heap.size #[.int .i64 (k:Int),.int .i64 (b:Int),.slice (some ⟨bk,0,none⟩) 64 64] rfl rfl 211 #[.int .i64 0,.int .i64 0,.slice none 0 0] (World.alloc_heap_new _ _) (by kernel_rfl) rfl (by simp[Value.oneCell']) ?_;rw[World.setRow_alloc_new])
     change Code.wpIn _ _ _ _ _ _ (wr.alloc (.cells #[.int .i64 (k:Int),.int .i64 (b:Int),.slice (some ⟨bk,0,none⟩) 64 64] 211))
     clear g0 g1 g2
     generalize wr.alloc (.cells #[.int .i64 (k:Int),.int .i64 (b:Int),.slice (some ⟨bk,0,none⟩) 64 64] 211)=w6 at *
     generalize wr.heap.size=q2 at *
     have bq:Bl w6 q2 #[.int .i64 (k:Int),.int .i64 (b:Int),.slice (some ⟨bk,0,none⟩) 64 64] 211:=(ah HB).2.2.1.row (ah L12) (x:=(q2,.cells #[.int .i64 (k:Int),.int .i64 (b:Int),.slice (some ⟨bk,0,none⟩) 64 64] 211)) (by simp)
     have h1:=bq.cell 1 (.int .i64 (b:Int)) rfl
     have h2:=bq.cell 2 (.slice (some ⟨bk,0,none⟩) 64 64) rfl
     clear bq
     rw[xZ]
     refine aK 7 (by kernel_rfl) (by kernel_rfl) ?_
     simp only[List.take_succ_cons,List.take_zero,List.drop_succ_cons,List.drop_zero]
     repeat (gi_big_quiet_step (fail))
     refine wpQuietIn_nil ?_
     rintro _ ⟨nq3,rfl⟩
     have L13:=(ah HB).2.2.1.later (ah L12) (below_drewN (Below.refl _ _) nq3)
     have K13:Hid (Calls Tryz.prog 102 #[.pointer (some ⟨mw,0,none⟩),.int .i64 (b:Int),.slice (some ⟨bk,0,none⟩) 64 64] (w6.drewN nq3) fun e v'=>e=.returned (.int .i64 0)/\Hid (Q3 ((q2,.cells #[.int .i64 (k:Int),.int .i64 (b:Int),.slice (some ⟨bk,0,none⟩) 64 64] 211)::(mw,.cells (Wc o tb P j X (.slice (some ⟨g,0,none⟩) 1 c) mm bf) 169)::(g,.cells (cur.setIfInBounds 1 (.int .i64 (b:Int))) 211)::(bk,.cells bz 5)::rows) v')):=by
      rcases ah HKD with ⟨x0,kd⟩ | ⟨x0,kd⟩
      ·exact adY (Q':=Q3) (ah HB).2.2.1 L13 (fg:=mw) (o:=o) (cs:=Wc o tb P j X (.slice (some ⟨g,0,none⟩) 1 c) mm bf) (ty:=169) (by simp) rfl (by show some (Value.int .i64 (X 0))=_;rw[x0]) (b:Int) (some ⟨bk,0,none⟩) 64 64 (kd _ _ (by simp) (fun x hx=>by simp[hx]) L13)
      ·exact afV (Q':=Q3) (ah HB).2.2.1 L13 (fg:=mw) (o:=o) (cs:=Wc o tb P j X (.slice (some ⟨g,0,none⟩) 1 c) mm bf) (ty:=169) (by simp) rfl (by show some (Value.int .i64 (X 0))=_;rw[x0]) (b:Int) (some ⟨bk,0,none⟩) 64 64 (kd _ _ (by simp) (fun x hx=>by simp[hx]) L13)
     clear L12 L13 h1 h2
     generalize w6.drewN nq3=w7 at *
     gi_wp2
     refine⟨trivial,?_⟩
     refine(callsIn_wide.2 (ah K13)).mono ?_
     rintro e w8 ⟨rfl,L14⟩
     clear K13
     gi_wp2
     refine ay ?_
     repeat (gi_big_quiet_step (fail))
     refine wpQuietIn_nil ?_
     rintro _ ⟨nq4,rfl⟩
     have L15:Hid (Q3 rows (w8.drewN nq4)):=(ah HB).2.2.2.sub ((ah HB).2.2.2.later (ah L14) (below_drewN (Below.refl _ _) nq4)) (fun x hx=>by simp[hx])
     clear L14
     generalize w8.drewN nq4=w9 at *
     gi_wp2
     go_roundw
     case rel=>exact .inr ⟨by go_num,L15⟩
     case measure=>simp[intOf]
    ·gi_wp2
     go_ret
     exact⟨rfl,L9⟩
attribute [local go_sem] Oper.semAt_some
theorem adE (bl b:Int)(dv:Value)(m0:Nat)(u:World)(hd:dv.oneCell'=true)(y:u.cell? ⟨m0,0,none⟩=some (.int .i64 b)) :
  Calls Tryz.prog 176 #[.agg #[.int .i64 bl,dv],.pointer (some ⟨m0,0,none⟩)] u fun e v'=>e=.returned (.bool (bl==b))/\Below u.heap.size u v':=by
 have hb:=hide ((Below.refl u.heap.size u).alloc (Nat.le_refl _) (.cells #[.int .i64 bl,dv] 175))
 have y1:(u.alloc (.cells #[.int .i64 bl,dv] 175)).cell? ⟨m0,0,none⟩=some (.int .i64 b):=by
  rw[World.cell?_alloc_some _ _ _ (by rw[y];rfl),y]
 have y2:=(Bl.new u #[.int .i64 bl,dv] 175).cell 0 _ rfl
 clear y
 go_enter Tryz.func176,Tryz.ntmps176
 go_upto_region 1 with fail
 change Code.wp _ _ _ _ (u.alloc (.cells #[.int .i64 bl,dv] 175))
 generalize u.alloc (.cells #[.int .i64 bl,dv] 175)=w0 at *
 go_wp2_with fail
 go_ret
 exact⟨rfl,ah hb⟩
theorem zG (a:Option Addr)(n c:Nat)(b:Int)(m0:Nat)(u:World)(y:u.cell? ⟨m0,0,none⟩=some (.int .i64 b))(hn:n=0\/n=1/\∃ g bl dv,a=some ⟨g,0,none⟩/\u.cell? ⟨g,0,none⟩=some (.int .i64 bl)/\u.cell? ⟨g,1,none⟩=some dv/\dv.oneCell'=true/\bl≠b) :
  Calls Tryz.prog 175 #[.slice a n c,.func (.func 176) #[] #[.pointer (some ⟨m0,0,none⟩)]] u fun e v'=>e=.returned (.int .i64 (-1))/\Below u.heap.size u v':=by
 rcases hn with rfl | ⟨rfl,g,bl,dv,rfl,c0,c1,h1,hne⟩
 ·clear y
  go_enter Tryz.func175,Tryz.ntmps175
  go_wp2_with fail
  go_loopw [8] (fun iv wr=>iv=.int .i64 0/\wr=u) (fun _ _=>0)
  case atStart=>exact⟨rfl,rfl⟩
  case round =>
   obtain⟨rfl,rfl⟩:=hrel
   go_wp2_with fail
   go_ret
   exact⟨rfl,Below.refl _ _⟩
 ·have K1:=hide (adE bl b dv m0 u h1 y)
  have hf:(bl==b)=false:=by simp[hne]
  rw[hf] at K1
  clear y h1 hne hf
  go_enter Tryz.func175,Tryz.ntmps175
  go_wp2_with fail
  go_loopw [8] (fun iv wr=>iv=.int .i64 0/\wr=u\/iv=.int .i64 1/\Hid (Below u.heap.size u wr)) (fun iv _=>(1 - intOf iv).toNat)
  case atStart=>exact .inl ⟨rfl,rfl⟩
  case round =>
   rcases hrel with ⟨rfl,rfl⟩ | ⟨rfl,hb⟩
   ·go_wp2_with fail
    refine(ah K1).mono ?_
    rintro e w1 ⟨rfl,hb⟩
    have HB:=hide hb
    clear K1 hb c0 c1
    go_wp2_with fail
    go_roundw
    case rel=>exact .inr ⟨by go_num,HB⟩
    case measure=>simp[intOf]
   ·clear c0 c1
    go_wp2_with fail
    go_ret
    exact⟨rfl,ah hb⟩
theorem ahM:(Tryz.prog.info? 175).map (fun i=>(i.zero,i.size,i.bytes))=some (some (.agg #[.int .i64 0,.slice none 0 0]),2,32):=by kernel_rfl
theorem aiF:Tryz.prog.underlying 167=some (.slice 175):=by kernel_rfl
theorem wU {n0 Q}(hq:Bun n0 Q){rows:List (Nat×Obj)}{u:World}{mw mm o tb:Nat}{P:Nat->Int}{j:Int}{X:Nat->Int}{ch bf:Value}{n:Nat}{xs:List Value}(h:LsQ n0 Q 175 2 bf n xs ((mw,.cells (Wc o tb P j X ch mm bf) 169)::rows) u)(hmw:n0<=mw)(hnr:∀ x∈rows,x.1≠mw)(hP:P 0=64)(b:Nat)(zs:List Int)(hx:n=0\/n=1/\∃ bl dv,xs=[.int .i64 bl,dv]/\dv.oneCell'=true/\bl≠(b:Int))
  (KR:∀ rows' v,(∀ x∈rows,x∈rows')->Q rows' v->Calls Tryz.prog 83 #[.pointer (some ⟨o,0,none⟩),.int .i64 (b:Int)] v fun e v'=>∃ k c,e=.returned (.tuple #[.slice (some ⟨k,0,none⟩) 64 c,.int .i64 0])/\Hid (∃ ob,Dr c 64 zs ob/\v.heap.size<=k/\Q ((k,ob)::rows') v')) :
  Calls Tryz.prog 139 #[.pointer (some ⟨mw,0,none⟩),.int .i64 (b:Int)] u fun e v=>∃ kb c,e=.returned (.tuple #[.slice (some ⟨kb,0,none⟩) 64 c,.int .i64 0])/\Hid (∃ ob bf',Dr c 64 zs ob/\u.heap.size<=kb/\LsQ n0 Q 175 2 bf' (n+1) (xs++[.int .i64 (b:Int),.slice (some ⟨kb,0,none⟩) 64 c]) ((kb,ob)::(mw,.cells (Wc o tb P j X ch mm bf') 169)::rows) v):=by
 have hbf:∃ a c0,bf=.slice a n c0:=by
  rcases h with ⟨e,e2,_⟩ | ⟨g,c,cur,e,_⟩
  ·exact⟨none,0,by rw[e,e2]⟩
  ·exact⟨_,_,e⟩
 obtain⟨a,c0,rfl⟩:=hbf
 have hn1:n<=1:=by rcases hx with e | e<;>omega
 obtain⟨R,hQ,hRd,hRc,hRe⟩:=h.parts
 have hQ0:=hq.new hQ (zI (b:Int))
 have L0:=hide hQ0
 have hsz:∀ x∈R++(mw,.cells (Wc o tb P j X ch mm (.slice a n c0)) 169)::rows,x.1<u.heap.size:=fun x hx=>hq.lt hQ hx
 have K1:Hid (Calls Tryz.prog 175 #[.slice a n c0,.func (.func 176) #[] #[.pointer (some ⟨u.heap.size,0,none⟩)]] (u.alloc (zI (b:Int))) fun e v'=>e=.returned (.int .i64 (-1))/\Below (u.alloc (zI (b:Int))).heap.size (u.alloc (zI (b:Int))) v'):=by
  refine zG a n c0 (b:Int) u.heap.size _ ((Bl.new u #[.int .i64 (b:Int)] 3).cell 0 _ rfl) ?_
  rcases hx with e | ⟨e,bl,dv,rfl,h1,h2⟩
  ·exact .inl e
  ·obtain⟨g,m,c,e1,e2⟩:=hRc _ (fun x hx=>hq.row hQ0 (by simp[hx])) 0 _ rfl
   obtain⟨g',m',c',e1',e2'⟩:=hRc _ (fun x hx=>hq.row hQ0 (by simp[hx])) 1 _ rfl
   cases e1
   cases e1'
   exact .inr ⟨e,g,bl,dv,rfl,e2,e2',h1,h2⟩
 have HB:=hide hq
 have HR:=hide (And.intro hRd hRe)
 have HN:=hide (And.intro hmw (And.intro hnr hsz))
 have HP:=hide hP
 have HKR:=hide KR
 clear h hQ hQ0 hRd hRc hRe hq hmw hnr hP KR hx hsz
 refine(callsIn_wide (n:=3)).1 ?_
 refine callsIn_of_wp Tryz.func139 rfl trivial ?_ rfl
 simp only[Tryz.ntmps139,List.size_toArray,List.length_cons,List.length_nil,Nat.reduceAdd,Nat.reduceSub,Array.replicate_succ,Array.replicate_zero,List.push_toArray,List.append_toArray,List.nil_append,List.cons_append]
 gi_upto_region 1 with fail
 change Code.wpIn _ _ _ _ _ _ (u.alloc (zI (b:Int)))
 generalize u.alloc (zI (b:Int))=w0 at *
 generalize hm0:u.heap.size=m0 at *
 have yb:=Bl.cell ((ah HB).row (ah L0) (x:=(mw,.cells (Wc o tb P j X ch mm (.slice a n c0)) 169)) (by simp)) 30 (.slice a n c0) rfl
 gi_wp2
 refine⟨trivial,?_⟩
 refine(callsIn_wide.2 (ah K1)).mono ?_
 rintro e w1 ⟨rfl,hb1⟩
 have L1:=hide ((ah HB).later (ah L0) hb1)
 clear K1 L0 hb1 yb
 have y0:=Bl.cell ((ah HB).row (ah L1) (x:=(m0,zI (b:Int))) (by simp)) 0 _ rfl
 gi_wp2
 refine aK 4 (by kernel_rfl) (by kernel_rfl) ?_
 simp only[List.take_succ_cons,List.take_zero,List.drop_succ_cons,List.drop_zero]
 repeat (gi_big_quiet_step (fail))
 refine wpQuietIn_nil ?_
 rintro _ ⟨nq,rfl⟩
 have L2:=hide ((ah HB).later (ah L1) (below_drewN (Below.refl _ _) nq))
 generalize w1.drewN nq=w2 at *
 have K2:=hide (wR (ah HB) (ah L2) (fg:=mw) (o:=o) (cs:=Wc o tb P j X ch mm (.slice a n c0)) (ty:=169) (by simp) rfl (by show some (Value.int .i64 (P 0))=_;rw[ah HP]) (b:Int) zs (fun v hv=>ah HKR _ v (fun x hx=>by simp[hx]) hv))
 have HM2:=hide ((ah HB).lt (ah L2) (x:=(m0,zI (b:Int))) (by simp))
 have HL2:=hide (fun x hx=>(ah HB).lt (ah L2) hx:∀ x∈(m0,zI (b:Int))::(R++(mw,.cells (Wc o tb P j X ch mm (.slice a n c0)) 169)::rows),x.1<w2.heap.size)
 clear L1 L2 y0
 gi_wp2
 refine⟨trivial,?_⟩
 refine(callsIn_wide.2 (ah K2)).mono ?_
 rintro e w3 ⟨kb,c,rfl,Y⟩
 clear K2
 gi_wp2
 refine ay ?_
 repeat (gi_big_quiet_step (fail))
 refine wpQuietIn_nil ?_
 rintro _ ⟨nq2,rfl⟩
 obtain⟨ob,d1,k1,q1⟩:=ah Y
 have L3:Hid (Q (R++(kb,ob)::(m0,zI (b:Int))::(mw,.cells (Wc o tb P j X ch mm (.slice a n c0)) 169)::rows) (w3.drewN nq2)):=(ah HB).sub ((ah HB).later q1 (below_drewN (Below.refl _ _) nq2)) (fun x hx=>by
  simp only[List.mem_cons,List.mem_append] at hx ⊢
  rcases hx with e | e | e | e | e<;>simp[e])
 have HK1:=hide (And.intro d1 k1)
 clear Y d1 k1 q1
 generalize w3.drewN nq2=w4 at *
 gi_wp2
 haveI hne:Nonempty (RgC (fun v=>Q ((kb,ob)::(m0,zI (b:Int))::(mw,.cells (Wc o tb P j X ch mm (.slice a n c0)) 169)::rows) v)):=⟨⟨_,(ah HB).sub (ah L3) (fun x hx=>List.mem_append_right _ hx)⟩⟩
 have r0:∀ x:RgC (fun v=>Q ((kb,ob)::(m0,zI (b:Int))::(mw,.cells (Wc o tb P j X ch mm (.slice a n c0)) 169)::rows) v),x.w.cell? ⟨m0,0,none⟩=some (.int .i64 (b:Int)):=fun x=>Bl.cell ((ah HB).row x.ok (x:=(m0,zI (b:Int))) (by simp)) 0 _ rfl
 have r1:∀ x:RgC (fun v=>Q ((kb,ob)::(m0,zI (b:Int))::(mw,.cells (Wc o tb P j X ch mm (.slice a n c0)) 169)::rows) v),x.w.cell? ⟨mw,30,none⟩=some (.slice a n c0):=fun x=>Bl.cell ((ah HB).row x.ok (x:=(mw,.cells (Wc o tb P j X ch mm (.slice a n c0)) 169)) (by simp)) 30 _ rfl
 refine nH (fun v=>Q ((kb,ob)::(m0,zI (b:Int))::(mw,.cells (Wc o tb P j X ch mm (.slice a n c0)) 169)::rows) v) 8 2 (by kernel_rfl) (by kernel_rfl) ((ah HB).sub ((ah HB).later (ah L3) (below_drewN (Below.refl _ _) 1)) (fun x hx=>List.mem_append_right _ hx)) ?_
 simp only[Nat.reduceAdd,List.take_succ_cons,List.take_zero,List.drop_succ_cons,List.drop_zero]
 repeat (gi_big_quiet_step (fail))
 refine wpQuietIn_nil ?_
 clear r0 r1 hne
 have L4:=hide ((ah HB).later (ah L3) (below_drewN (Below.refl _ _) 1))
 clear L3
 generalize w4.drewN 1=w5 at *
 have L5:Hid (Q (R++(kb,ob)::(m0,zI (b:Int))::(mw,.cells (Wc o tb P j X ch mm (.slice a n c0)) 169)::rows) (w5.alloc (.cells #[.int .i64 (b:Int),.slice (some ⟨kb,0,none⟩) 64 c] 175))):=(ah HB).later (ah L4) ((Below.refl _ _).alloc (Nat.le_refl _) _)
 unfold dD
 gi_wp2
 refine ay ⟨(ah HB).sub (ah L5) (fun x hx=>List.mem_append_right _ hx),?_⟩
 have bn:=Bl.new w5 #[.int .i64 (b:Int),.slice (some ⟨kb,0,none⟩) 64 c] 175
 change dD _ _ _ _ _ _ _ _ (w5.alloc (.cells #[.int .i64 (b:Int),.slice (some ⟨kb,0,none⟩) 64 c] 175))
 clear L4
 generalize w5.alloc (.cells #[.int .i64 (b:Int),.slice (some ⟨kb,0,none⟩) 64 c] 175)=w6 at *
 generalize w5.heap.size=nb at *
 obtain⟨i0,hi,hz0,hz1,hz2⟩:=info_parts ahM
 have LS0:LsQ n0 Q 175 2 (.slice a n c0) n xs ((kb,ob)::(m0,zI (b:Int))::(mw,.cells (Wc o tb P j X ch mm (.slice a n c0)) 169)::rows) w6:=by
  obtain⟨e1,e2⟩:=ah HR
  obtain⟨_,_,e3⟩:=ah HN
  have m2:=ah HM2
  have k2:=(ah HK1).2
  have hl2:=ah HL2
  refine e2 _ _ (fun y hy x hx=>?_) (ah L5)
  have hxl:=e3 x (by simp[hx])
  have hx2:=hl2 x (by simp[hx])
  simp only[List.mem_cons] at hy
  rcases hy with e | e | e | e
  ·rw[e];show kb≠x.1;omega
  ·rw[e];show m0≠x.1;omega
  ·exact(e1 x hx).2 y (by simp[e])
  ·exact(e1 x hx).2 y (by simp[e])
 obtain⟨val',w7,R1,LS,hz3,hg3⟩:=LS0.app (ah HB) 167 175 i0 _ 2 32 aiF hi hz0 hz1 hz2 rfl (by omega) nb [.int .i64 (b:Int),.slice (some ⟨kb,0,none⟩) 64 c] rfl (fun i v hv=>by
  exact bn.cell i v (by simpa using hv)) (fun v hv=>by
  simp only[List.mem_cons,List.not_mem_nil,or_false] at hv
  rcases hv with e | e<;>rw[e]<;>rfl) (by omega) (by omega)
 clear bn hi hz0 hz1 hz2 LS0 L5
 have HR1:=hide R1
 clear R1
 unfold dD
 gi_wp2_with (gi_at_builtin;refine dS 167 rfl _ _ rfl _ _ _ rfl rfl (ah HR1) ?_;clear HR1)
 refine ay ⟨LS.q (ah HB),?_⟩
 unfold dD
 refine ay ?_
 have hval:∃ a' c',val'=.slice a' (n+1) c':=by
  rcases LS with ⟨_,e2,_⟩ | ⟨g,c,cur,e,_⟩
  ·omega
  ·exact⟨_,_,e⟩
 obtain⟨a',c',rfl⟩:=hval
 obtain⟨R2,hQ2,aj1,amu,akW⟩:=LS.parts
 have bw:Bl w7 mw (Wc o tb P j X ch mm (.slice a n c0)) 169:=(ah HB).row hQ2 (x:=(mw,.cells (Wc o tb P j X ch mm (.slice a n c0)) 169)) (by simp)
 have y30:=bw.cell 30 (.slice a n c0) rfl
 have z30:=bw.free 30
 have L8:Hid (LsQ n0 Q 175 2 (.slice a' (n+1) c') (n+1) (xs++[.int .i64 (b:Int),.slice (some ⟨kb,0,none⟩) 64 c]) ((kb,ob)::(mw,.cells (Wc o tb P j X ch mm (.slice a' (n+1) c')) 169)::rows) (w7.setCell ⟨mw,30,none⟩ (.slice a' (n+1) c'))):=by
  obtain⟨n1,n2,n3⟩:=ah HN
  have k2:=(ah HK1).2
  have hl2:=ah HL2
  have q1:mw<w2.heap.size:=hl2 (mw,.cells (Wc o tb P j X ch mm (.slice a n c0)) 169) (by simp)
  have t1:=(ah HB).put ((ah HB).sub hQ2 (rows':=(mw,.cells (Wc o tb P j X ch mm (.slice a n c0)) 169)::(R2++(kb,ob)::rows)) (fun x hx=>by
   simp only[List.mem_cons,List.mem_append] at hx ⊢
   rcases hx with e | e | e | e<;>simp[e])) n1 (fun x hx=>by
   simp only[List.mem_cons,List.mem_append] at hx
   rcases hx with e | e | e
   ·exact fun q=>(aj1 x e).2 (mw,.cells (Wc o tb P j X ch mm (.slice a n c0)) 169) (by simp) q.symm
   ·rw[e];show kb≠mw;omega
   ·exact n2 x e) 30 (.slice a' (n+1) c')
  refine akW _ _ (fun y hy x hx=>?_) ((ah HB).sub t1 (fun x hx=>by
   simp only[List.mem_cons,List.mem_append] at hx ⊢
   rcases hx with e | e | e | e
   ·exact .inr (.inl e)
   ·exact .inr (.inr (.inl e))
   ·exact .inl e
   ·exact .inr (.inr (.inr e))))
  simp only[List.mem_cons] at hy
  rcases hy with e | e | e
  ·exact(aj1 x hx).2 y (by simp[e])
  ·rw[e];exact(aj1 x hx).2 (mw,.cells (Wc o tb P j X ch mm (.slice a n c0)) 169) (by simp)
  ·exact(aj1 x hx).2 y (by simp[e])
 clear hQ2 aj1 amu akW LS bw hg3
 gi_wp2
 refine jy ?_
 gi_wp2
 go_ret2
 exact⟨kb,c,rfl,hide ⟨ob,_,(ah HK1).1,by have:=ah HM2;have:=(ah HK1).2;omega,ah L8⟩⟩
end Go.Proofs.YtefdkpbmeoakgaaGreatDoor
