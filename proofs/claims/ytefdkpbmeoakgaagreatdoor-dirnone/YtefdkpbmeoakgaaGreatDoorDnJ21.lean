/- Joined: CHead, CHdr2, CDesc, CReadP, CTake, CUn, CBackH, CTakeD. -/
import Derived.Test.YtefdkpbmeoakgaaGreatDoorDnJ19
import Derived.Test.YtefdkpbmeoakgaaGreatDoorDnJ4
import Derived.Test.YtefdkpbmeoakgaaGreatDoorDnJ1
import Derived.Test.YtefdkpbmeoakgaaGreatDoorDnJ15
import Derived.Deep.RegionHeld3
/- ajP of aiu.summed, aiu.ahA and aiu.Header. -/
namespace Go.Proofs.YtefdkpbmeoakgaaGreatDoor
set_option maxRecDepth 100000
set_option maxHeartbeats 8000000
open Go.RowKit Go.Shelf
set_option linter.unusedVariables false
def uT (n:Nat) (h:List Int):List Int:=aZ n (h++digits 4 ((acH h:Nat):Int))
theorem adq (wd:Nat)(z:Int):aH wd [z]=digits wd z:=by simp[aH]
theorem agd {zs}(h:aeH zs):iD 4 [((acH zs:Nat):Int)]=true:=by
 have:=acG h
 rw[dR]
 intro v hv
 simp at hv
 subst hv
 omega
theorem aaY (a:Option Addr)(len cap:Nat)(zs:List Int)(block:Nat)(w:World)(h:Has w a len zs)(hby:aeH zs)(hT:Tab w)(hl:len+4<=block)(hb:block<=4096) :
  Calls Tryz.prog 109 #[.slice a len cap,.int .i64 (block:Int)] w fun e w'=>∃ g,e=.returned (.slice (some ⟨g,0,none⟩) block block)/\w.heap.size<=g/\Hid (Block w' g (uT block zs))/\Below w.heap.size w w':=by
 have hlen:=h.1
 have K1:=hide (sum_any a len cap zs w hT h (by omega) hby)
 have hf:=agd hby
 have HS:Hid (uT block zs=aZ block (zs++digits 4 ((acH zs:Nat):Int))):=rfl
 generalize acH zs=S at *
 have K2:Hid (Calls Tryz.prog 82 #[.int .i64 4,.slice (some ⟨w.heap.size,0,none⟩) 1 1] (w.alloc (zI (S:Int))) fun e w'=>∃ a4 c4,e=.returned (.slice a4 4 c4)/\Hid (Has w' a4 4 (digits 4 (S:Int))/\Below w.heap.size w w')):=by
  refine(oV 4 (.inr (.inr rfl)) _ 1 1 [(S:Int)] _ (aU w [(S:Int)]) (by omega) hf 4 rfl).mono ?_
  rintro e w' ⟨a',c',rfl,hO,hb⟩
  rw[adq] at hO
  exact⟨a',c',rfl,hO.out.has,aX ((Below.refl _ w).alloc (Nat.le_refl _) _) hb (Nat.le_refl _)⟩
 have K3:Hid (∀ a4 c4 w1,Hid (Has w1 a4 4 (digits 4 (S:Int))/\Below w.heap.size w w1)->Calls Tryz.prog 81 #[.int .i64 (block:Int),.slice (some ⟨w1.heap.size,0,none⟩) 2 2] (w1.alloc (.cells #[.slice a len cap,.slice a4 4 c4] 71)) fun e w'=>∃ g,e=.returned (.slice (some ⟨g,0,none⟩) block block)/\w.heap.size<=g/\Hid (Block w' g (uT block zs))/\Below w.heap.size w w'):=by
  intro a4 c4 w1 h1
  have hp:=gV w1 [(a,len,cap,zs),(a4,4,c4,digits 4 (S:Int))] (by
   intro p hp
   simp at hp
   rcases hp with rfl | rfl
   ·exact h.later h1.out.2
   ·exact h1.out.1)
  have hall:lK [(a,len,cap,zs),(a4,4,c4,digits 4 (S:Int))]=zs++digits 4 (S:Int):=by simp[lK]
  refine(aaL block _ 2 2 _ _ hp (by omega) (by rw[hall,List.length_append,length_digits];omega) (by omega)).mono ?_
  rintro e w' ⟨rfl,hB,hb⟩
  rw[hall] at hB
  refine⟨_,rfl,by have:=h1.out.2.size;simp;omega,?_,aX (h1.out.2.alloc h1.out.2.size _) hb (Nat.le_refl _)⟩
  rw[HS.out];exact hB
 clear h hby hT hf HS
 go_enter Tryz.func109,Tryz.ntmps109
 go_wp2_with fail
 go_at_call 155
 refine(ah K1).mono ?_
 rintro e w' ⟨rfl,rfl⟩
 go_wp2_with fail
 go_at_call 82
 refine(ah K2).mono ?_
 rintro e w1 ⟨a4,c4,rfl,h1⟩
 go_wp2_with fail
 go_at_call 81
 refine(ah K3 a4 c4 w1 h1).mono ?_
 rintro e w2 ⟨g,rfl,hg,hB,hb2⟩
 go_wp2_with fail
 go_ret
 exact⟨g,rfl,hg,hB,hb2⟩
theorem acN {b}(h:isSize b):eF b 10 2 4=0:=by
 rcases h with rfl | rfl | rfl | rfl | rfl | rfl | rfl<;>decide +kernel
theorem vI {b:Int}(h:¬ isSize b):eF b 10 2 4=1:=pG (.inl h)
theorem aaM (b:Int)(q:Int)(w:World)(h:eF b 10 2 4=q)(r:Bool)(hr:(q==0)=r) :
  Calls Tryz.prog 108 #[.int .i64 b] w fun e w'=>e=.returned (.bool r)/\Below w.heap.size w w':=by
 have K:=hide (uy b 10 2 4 w)
 rw[h] at K
 generalize oZ b 10 2 4=Q at *
 clear h
 go_enter Tryz.func108,Tryz.ntmps108
 go_wp2_with fail
 go_at_call 40
 refine(ah K).mono ?_
 rintro e w1 ⟨rfl,hb⟩
 have HB:=hide (hb.alloc hb.size (.cells (Pc Q) 24))
 clear K hb
 go_wp2_with fail
 go_ret
 exact⟨rfl,HB.out⟩
theorem acj (b:Int)(w:World)(h:isSize b):Calls Tryz.prog 108 #[.int .i64 b] w fun e w'=>e=.returned (.bool true)/\Below w.heap.size w w' :=
 aaM b 0 w (acN h) true rfl
theorem aex (b:Int)(w:World)(h:¬ isSize b):Calls Tryz.prog 108 #[.int .i64 b] w fun e w'=>e=.returned (.bool false)/\Below w.heap.size w w' :=
 aaM b 1 w (vI h) false rfl
abbrev Hv (H:Nat->Int):Value:=.agg #[.int .i64 (H 0),.int .i64 (H 1),.int .i64 (H 2)]
abbrev Hc (H:Nat->Int):Array Value:=#[.int .i64 (H 0),.int .i64 (H 1),.int .i64 (H 2)]
def qP:List Int:=[83,76,79,71]
def kG (H:Nat->Int):List Int:=qP++(aH 4 [H 0]++aH 2 [H 1,H 2])
theorem iW (H:Nat->Int):(kG H).length=12:=by simp[kG,qP,jB]
theorem acL:aeH qP:=by intro z hz;simp[qP] at hz;omega
theorem lC (H:Nat->Int):aeH (kG H):=by
 intro z hz
 simp only[kG,List.mem_append] at hz
 rcases hz with hz | hz | hz
 ·exact acL z hz
 ·exact iJ _ _ z hz
 ·exact iJ _ _ z hz
def agK (H:Nat->Int):Bool:=iD 4 [H 0]&&iD 2 [H 1,H 2]
theorem abH (H:Nat->Int)(b:Int)(w:World)(h:¬ isSize b) :
  Calls Tryz.prog 70 #[Hv H,.int .i64 b] w fun e w'=>e=.returned (.tuple #[.slice none 0 0,.int .i64 1])/\Below w.heap.size w w':=by
 have K:Hid (∀ u,Calls Tryz.prog 108 #[.int .i64 b] u fun e w'=>e=.returned (.bool false)/\Below u.heap.size u w'):=fun u=>aex b u h
 have HK:=hide (Bx.start w (Hc H) 98)
 clear h
 go_enter Tryz.func70,Tryz.ntmps70
 go_wp2_with fail
 go_at_call 108
 refine(ah K _).mono ?_
 rintro e w1 ⟨rfl,hb⟩
 replace HK:=hide ((ah HK).call hb)
 clear K hb
 go_wp2_with fail
 go_ret2
 exact⟨rfl,HK.out.2.1⟩
theorem aaE (wd:Nat)(hw:wd=2\/wd=4)(ns:List Int)(u:World)(hl:ns.length<=1000)(r:Bool)(hr:iD wd ns=r) :
  Calls Tryz.prog 80 #[.int .i64 (wd:Int),.slice (some ⟨u.heap.size,0,none⟩) ns.length ns.length] (u.alloc (.cells (ns.map (Value.int .i64)).toArray 3)) fun e w'=>e=.returned (.bool r)/\Below u.heap.size u w':=by
 subst hr
 refine(uG wd hw _ ns.length ns.length ns _ (aU u ns) (by omega)).mono ?_
 rintro e w' ⟨rfl,rfl⟩
 exact⟨rfl,(Below.refl _ u).alloc (Nat.le_refl _) _⟩
theorem kD (H:Nat->Int)(b:Nat)(w:World)(h:isSize (b:Int))(hf:agK H=true)(hT:Tab w) :
  Calls Tryz.prog 70 #[Hv H,.int .i64 (b:Int)] w fun e w'=>∃ g,e=.returned (.tuple #[.slice (some ⟨g,0,none⟩) b b,.int .i64 0])/\w.heap.size<=g/\Hid (Block w' g (uT b (kG H)))/\Below w.heap.size w w':=by
 have K:Hid (∀ u,Calls Tryz.prog 108 #[.int .i64 (b:Int)] u fun e w'=>e=.returned (.bool true)/\Below u.heap.size u w'):=fun u=>acj b u h
 have HK:=hide (Bx.start w (Hc H) 98)
 have hbb:=iG h
 unfold agK at hf
 rw[Bool.and_eq_true] at hf
 obtain⟨h4,h2⟩:=hf
 have F4:Hid (∀ u:World,Calls Tryz.prog 80 #[.int .i64 4,.slice (some ⟨u.heap.size,0,none⟩) 1 1] (u.alloc (zI (H 0))) fun e w'=>e=.returned (.bool true)/\Below u.heap.size u w') :=
  fun u=>aaE 4 (.inr rfl) [H 0] u (by simp) true h4
 have F2:Hid (∀ u:World,Calls Tryz.prog 80 #[.int .i64 2,.slice (some ⟨u.heap.size,0,none⟩) 2 2] (u.alloc (.cells #[.int .i64 (H 1),.int .i64 (H 2)] 3)) fun e w'=>e=.returned (.bool true)/\Below u.heap.size u w') :=
  fun u=>aaE 2 (.inl rfl) [H 1,H 2] u (by simp) true h2
 have KS:Hid (∀ a c u,Below w.heap.size w u->Has u a 12 (kG H)->Calls Tryz.prog 109 #[.slice a 12 c,.int .i64 (b:Int)] u fun e w'=>∃ g,e=.returned (.slice (some ⟨g,0,none⟩) b b)/\u.heap.size<=g/\Hid (Block w' g (uT b (kG H)))/\Below u.heap.size u w') :=
  fun a c u hb hh=>aaY a 12 c (kG H) b u hh (lC H) (hT.below hb (gq hT)) (by omega) (by omega)
 have H4:=hide h4
 have H2:=hide h2
 clear h h4 h2 hT hbb
 go_enter Tryz.func70,Tryz.ntmps70
 go_wp2_with fail
 go_at_call 108
 refine(ah K _).mono ?_
 rintro e w1 ⟨rfl,hb⟩
 replace HK:=hide ((ah HK).call hb)
 have f0:=HK.out.1 0 _ rfl
 clear K hb
 go_wp2_with fail
 go_at_call 80
 refine(ah F4 _).mono ?_
 rintro e w2 ⟨rfl,hb⟩
 replace HK:=hide ((ah HK).call hb)
 clear f0
 have f1:=HK.out.1 1 _ rfl
 have f2:=HK.out.1 2 _ rfl
 clear hb F4
 go_wp2_with fail
 go_at_call 80
 refine(ah F2 _).mono ?_
 rintro e w3 ⟨rfl,hb⟩
 replace HK:=hide ((ah HK).call hb)
 clear f1 f2 hb F2
 go_upto_region 5 with fail
 go_cut [6] (fun c wx=>∃ a0 c0,c=.slice a0 12 c0/\Hid (Has wx a0 12 (kG H))/\Hid (Bx w (Hc H) wx))
 case first =>
  refine dU (by kernel_rfl) w.heap.size [abd w.heap.size qP,abd w.heap.size qP,bG (.pointer (some ⟨w.heap.size,0,none⟩)),bG (.int .i64 (H 0)),bC [H 0],aC 4 (aH 4 [H 0]),bG (.pointer (some ⟨w.heap.size,1,none⟩)),bG (.int .i64 (H 1)),bG (.pointer (some ⟨w.heap.size,2,none⟩)),bG (.int .i64 (H 2)),bC [H 1,H 2],aC 4 (aH 2 [H 1,H 2]),dX 3 (kG H),aC 12 (aZ 12 (kG H)),aC 12 (aZ 12 (kG H))] ?_ (by kernel_rfl) (by kernel_rfl) ?_ ?_
  ·intro S hS
   simp only[List.mem_cons,List.not_mem_nil,or_false] at hS
   rcases hS with rfl | rfl | rfl | rfl | rfl | rfl | rfl | rfl | rfl | rfl | rfl | rfl | rfl | rfl | rfl<;>first | exact jK _ _ | exact gI _ _ _ | exact iT _ _ | exact iK _ _ | exact gG _ _ _
  ·intro i o a u hi hF hA hG
   have hB:=HK.out.drew.grw hG
   have hn:w.heap.size<=u.heap.size:=hB.2.1.size
   have tb:a.tmps[2]?.getD undef=.pointer (some ⟨w.heap.size,0,none⟩):=iq hF 2 (by kernel_rfl)
   have hlt:=(Array.getElem?_eq_some_iff.1 hi).1
   have hcs:i=0\/i=1\/i=2\/i=3\/i=4\/i=5\/i=6\/i=7\/i=8\/i=9\/i=10\/i=11\/i=12\/i=13\/i=14:=by simp at hlt;omega
   clear hlt
   rcases hcs with rfl | rfl | rfl | rfl | rfl | rfl | rfl | rfl | rfl | rfl | rfl | rfl | rfl | rfl | rfl
   ·have ho:=Option.some.inj hi;subst ho
    refine aB (w':=u.alloc (.cells (qP.map (Value.int .u8)).toArray 5)) rfl rfl (.slice (some ⟨u.heap.size,0,none⟩) 4 4) ?_ ⟨_,rfl,hn,afR u qP _,acO _ _ _⟩ (Grw.alloc _ _ _ hn)
    simp[execOp,Act.eval,go_sem]
    rfl
   ·have ho:=Option.some.inj hi;subst ho
    have h0:abd w.heap.size qP (a.tmps[24]?.getD undef) u:=aj hA 0 24 (by kernel_rfl) rfl
    obtain⟨u',hr,hg⟩:=afF h0
    refine aB (w':=u') rfl rfl (a.tmps[24]?.getD undef) ?_ ((iT _ _) _ _ _ h0 hg) hg
    simp[execOp,Act.eval,hr,go_sem]
   ·have ho:=Option.some.inj hi;subst ho
    have h0:=tb
    refine aB (w':=u) rfl rfl (.pointer (some ⟨w.heap.size,0,none⟩)) ?_ rfl (Grw.refl _ _)
    simp[execOp,Act.eval,h0,go_sem]
   ·have ho:=Option.some.inj hi;subst ho
    have h0:a.tmps[26]?.getD undef=.pointer (some ⟨w.heap.size,0,none⟩):=aj hA 2 26 (by kernel_rfl) rfl
    have f0:=hB.1 0 _ rfl
    refine aB (w':=u) rfl rfl (.int .i64 (H 0)) ?_ rfl (Grw.refl _ _)
    simp[execOp,Act.eval,h0,f0,go_sem]
   ·have ho:=Option.some.inj hi;subst ho
    have h0:a.tmps[27]?.getD undef=.int .i64 (H 0):=aj hA 3 27 (by kernel_rfl) rfl
    refine aB (w':=u.alloc (.cells ([H 0].map (Value.int .i64)).toArray 3)) rfl rfl (.slice (some ⟨u.heap.size,0,none⟩) 1 1) ?_ ⟨_,_,rfl,aU u [H 0]⟩ (Grw.alloc _ _ _ hn)
    simp[execOp,Act.eval,h0,go_sem]
   ·have ho:=Option.some.inj hi;subst ho
    have h0:bC [H 0] (a.tmps[28]?.getD undef) u:=aj hA 4 28 (by kernel_rfl) rfl
    refine bK rfl rfl 82 #[.int .i64 (4:Nat),a.tmps[28]?.getD undef] ?_ hn (aT 4 (.inr (.inr rfl)) [H 0] _ u h0 (by simp) H4.out 4 rfl)
    simp[execOp,Act.eval,go_sem]
   ·have ho:=Option.some.inj hi;subst ho
    have h0:=tb
    refine aB (w':=u) rfl rfl (.pointer (some ⟨w.heap.size,1,none⟩)) ?_ rfl (Grw.refl _ _)
    simp[execOp,Act.eval,h0,go_sem]
   ·have ho:=Option.some.inj hi;subst ho
    have h0:a.tmps[30]?.getD undef=.pointer (some ⟨w.heap.size,1,none⟩):=aj hA 6 30 (by kernel_rfl) rfl
    have f0:=hB.1 1 _ rfl
    refine aB (w':=u) rfl rfl (.int .i64 (H 1)) ?_ rfl (Grw.refl _ _)
    simp[execOp,Act.eval,h0,f0,go_sem]
   ·have ho:=Option.some.inj hi;subst ho
    have h0:=tb
    refine aB (w':=u) rfl rfl (.pointer (some ⟨w.heap.size,2,none⟩)) ?_ rfl (Grw.refl _ _)
    simp[execOp,Act.eval,h0,go_sem]
   ·have ho:=Option.some.inj hi;subst ho
    have h0:a.tmps[32]?.getD undef=.pointer (some ⟨w.heap.size,2,none⟩):=aj hA 8 32 (by kernel_rfl) rfl
    have f0:=hB.1 2 _ rfl
    refine aB (w':=u) rfl rfl (.int .i64 (H 2)) ?_ rfl (Grw.refl _ _)
    simp[execOp,Act.eval,h0,f0,go_sem]
   ·have ho:=Option.some.inj hi;subst ho
    have h0:a.tmps[31]?.getD undef=.int .i64 (H 1):=aj hA 7 31 (by kernel_rfl) rfl
    have h1:a.tmps[33]?.getD undef=.int .i64 (H 2):=aj hA 9 33 (by kernel_rfl) rfl
    refine aB (w':=u.alloc (.cells ([H 1,H 2].map (Value.int .i64)).toArray 3)) rfl rfl (.slice (some ⟨u.heap.size,0,none⟩) 2 2) ?_ ⟨_,_,rfl,aU u [H 1,H 2]⟩ (Grw.alloc _ _ _ hn)
    simp[execOp,Act.eval,h0,h1,go_sem]
   ·have ho:=Option.some.inj hi;subst ho
    have h0:bC [H 1,H 2] (a.tmps[34]?.getD undef) u:=aj hA 10 34 (by kernel_rfl) rfl
    refine bK rfl rfl 82 #[.int .i64 (2:Nat),a.tmps[34]?.getD undef] ?_ hn (aT 2 (.inr (.inl rfl)) [H 1,H 2] _ u h0 (by simp) H2.out 4 rfl)
    simp[execOp,Act.eval,go_sem]
   ·have ho:=Option.some.inj hi;subst ho
    obtain⟨p0,e0,_,b0,_⟩:abd w.heap.size qP (a.tmps[25]?.getD undef) u:=aj hA 1 25 (by kernel_rfl) rfl
    obtain⟨p1,c1,e1,b1,_,_⟩:aC 4 (aH 4 [H 0]) (a.tmps[29]?.getD undef) u:=aj hA 5 29 (by kernel_rfl) rfl
    obtain⟨p2,c2,e2,b2,_,_⟩:aC 4 (aH 2 [H 1,H 2]) (a.tmps[35]?.getD undef) u:=aj hA 11 35 (by kernel_rfl) rfl
    have hp:=gV u [(some ⟨p0,0,none⟩,4,4,qP),(p1,4,c1,(aH 4 [H 0])),(p2,4,c2,(aH 2 [H 1,H 2]))] (by
     intro p hp
     simp only[List.mem_cons,List.not_mem_nil,or_false] at hp
     rcases hp with rfl | rfl | rfl
     ·exact b0
     ·exact b1
     ·exact b2)
    refine aB (w':=u.alloc (.cells ([(some ⟨p0,0,none⟩,4,4,qP),(p1,4,c1,(aH 4 [H 0])),(p2,4,c2,(aH 2 [H 1,H 2]))].map pv).toArray 71)) rfl rfl (.slice (some ⟨u.heap.size,0,none⟩) 3 3) ?_ ⟨_,_,_,rfl,hp,by simp[lK,kG,qP]⟩ (Grw.alloc _ _ _ hn)
    simp[execOp,Act.eval,e0,e1,e2,go_sem]
    all_goals rfl
   ·have ho:=Option.some.inj hi;subst ho
    have h0:dX 3 (kG H) (a.tmps[36]?.getD undef) u:=aj hA 12 36 (by kernel_rfl) rfl
    refine bK rfl rfl 81 #[.int .i64 ((12:Nat):Int),a.tmps[36]?.getD undef] ?_ hn ((rG (12) 3 (kG H) _ u h0 (by omega) (by rw[iW];omega) (by omega) (lC H)).mono fun e w' ⟨v,e1,h1,h2⟩=>⟨v,e1,h1.1,h2⟩)
    simp[execOp,Act.eval,go_sem]
   ·have ho:=Option.some.inj hi;subst ho
    have h0:aC 12 (aZ 12 (kG H)) (a.tmps[37]?.getD undef) u:=aj hA 13 37 (by kernel_rfl) rfl
    refine aB (w':=u) rfl rfl (a.tmps[37]?.getD undef) ?_ h0 (Grw.refl _ _)
    simp[execOp,Act.eval,go_sem]
  ·intro a u hF hR hG
   have q0:=iq hF 0 (by kernel_rfl)
   have q1:=iq hF 1 (by kernel_rfl)
   have q2:=iq hF 2 (by kernel_rfl)
   have q3:=iq hF 3 (by kernel_rfl)
   have q4:=iq hF 4 (by kernel_rfl)
   have q5:=iq hF 5 (by kernel_rfl)
   obtain⟨r0,r1,r2,r3,r4,r5⟩:aC 12 (aZ 12 (kG H)) (a.tmps[6]?.getD undef) u:=by have:=hR 14 _ 6 rfl rfl;rwa [Array.getD_eq_getD_getElem?] at this
   have hB:=HK.out.drew.grw hG
   obtain⟨tm,df⟩:=a
   obtain⟨hs,hdf,_⟩:=hF
   have hs':tm.size=41:=hs
   have adN:df=[]:=hdf
   subst adN
   have he:tm=#[tm[0]?.getD undef,tm[1]?.getD undef,tm[2]?.getD undef,tm[3]?.getD undef,tm[4]?.getD undef,tm[5]?.getD undef,tm[6]?.getD undef,tm[7]?.getD undef,tm[8]?.getD undef,tm[9]?.getD undef,tm[10]?.getD undef,tm[11]?.getD undef,tm[12]?.getD undef,tm[13]?.getD undef,tm[14]?.getD undef,tm[15]?.getD undef,tm[16]?.getD undef,tm[17]?.getD undef,tm[18]?.getD undef,tm[19]?.getD undef,tm[20]?.getD undef,tm[21]?.getD undef,tm[22]?.getD undef,tm[23]?.getD undef,tm[24]?.getD undef,tm[25]?.getD undef,tm[26]?.getD undef,tm[27]?.getD undef,tm[28]?.getD undef,tm[29]?.getD undef,tm[30]?.getD undef,tm[31]?.getD undef,tm[32]?.getD undef,tm[33]?.getD undef,tm[34]?.getD undef,tm[35]?.getD undef,tm[36]?.getD undef,tm[37]?.getD undef,tm[38]?.getD undef,tm[39]?.getD undef,tm[40]?.getD undef]:=lT tm 41 hs'
   simp at q0
   simp at q1
   simp at q2
   simp at q3
   simp at q4
   simp at q5
   rw[he]
   simp only[q0,q1,q2,q3,q4,q5,r2]
   clear he hR hG hs hs' hdf q0 q1 q2 q3 q4 q5 r2
   go_wp2_with fail
   go_meet
   exact⟨r0,r1,rfl,by rw[ad8 (iW H)] at r3;exact r3,hB⟩
 case rest =>
  obtain⟨a0,c0,rfl,hh,hB⟩:=hcut
  clear HK
  go_wp2_with fail
  go_at_call 109
  refine(ah KS a0 c0 wc hB.out.2.1 hh.out).mono ?_
  rintro e w4 ⟨g,rfl,hg,hBl,hb⟩
  have HB:=hide (aX hB.out.2.1 hb (Nat.le_refl _))
  have hg':w.heap.size<=g:=Nat.le_trans hB.out.2.1.size hg
  clear KS hB hh hb
  go_wp2_with fail
  go_ret2
  exact⟨g,rfl,hg',hBl,HB.out⟩
def akA (q:Int) (ns:List Int):Bool:=iD 4 [q]&&iD 2 ns
def ajI (b:Nat) (q:Int) (ns:List Int):List Int:=aZ (b - 4) (aH 4 [q]++(aH 2 [(ns.length:Int)]++aH 2 ns))
def aiq (b:Nat) (q:Int) (ns:List Int):List Int:=aZ b (digits 4 ((acH (ajI b q ns):Nat):Int)++ajI b q ns)
def akB (b:Int) (q:Int) (ns:List Int):Int:=if (b=64\/b=128\/b=256\/b=512\/b=1024\/b=2048\/b=4096) then (if akA q ns=true then (if (b - 10) / 2<(ns.length:Int) then 5 else 0) else 3) else 1
def aiA:Nat->Int:=fun _=>0
theorem adg (H:Nat->Int)(g1:Nat)(a:Option Addr)(len cap:Nat)(q:Int)(w:World)(hq:(q != 0)=true)(HT:Hid (∀ u,Below w.heap.size w u->Calls Tryz.prog 118 #[.slice a len cap] u fun e w'=>e=.returned (Hv H)/\Below u.heap.size u w'))(HW:Hid (∀ u,Below w.heap.size w u->Calls Tryz.prog 119 #[Hv H,.pointer (some ⟨g1,0,none⟩)] u fun e w'=>e=.returned (.tuple #[.slice none 0 0,.int .i64 q])/\Below u.heap.size u w')) :
  Calls Tryz.prog 117 #[.slice a len cap,.func (.func 118) #[] #[],.func (.func 119) #[] #[.pointer (some ⟨g1,0,none⟩)]] w fun e w'=>e=.returned (.tuple #[.agg #[.int .i64 0,.int .i64 0,.int .i64 0],.int .i64 4])/\Below w.heap.size w w':=by
 have hb0:Below w.heap.size w (w.alloc (.cells (#[.int .i64 0,.int .i64 0,.int .i64 0]) 98)):=(Below.refl _ w).alloc (Nat.le_refl _) _
 have HZ:=hide (Bl.new w (#[.int .i64 0,.int .i64 0,.int .i64 0]) 98)
 have HB:=hide hb0
 clear hb0
 go_enter Tryz.func117,Tryz.ntmps117
 go_wp2_with fail
 go_at_call 118
 refine(ah HT _ HB.out).mono ?_
 rintro e w1 ⟨rfl,hb⟩
 replace HZ:=hide ((HZ.out.call hb).alloc (.cells (Hc H) 98))
 replace HB:=hide ((aX HB.out hb (Nat.le_refl _)).alloc (aX HB.out hb (Nat.le_refl _)).size (.cells (Hc H) 98))
 have HV:=hide (Bl.new w1 (Hc H) 98)
 clear hb HT
 go_wp2_with fail
 go_at_call 119
 refine(ah HW _ HB.out).mono ?_
 rintro e w2 ⟨rfl,hb⟩
 replace HZ:=hide ((HZ.out.call hb).alloc (.cells (#[.int .i64 0,.int .i64 0,.int .i64 0]) 98))
 replace HB:=hide ((aX HB.out hb (Nat.le_refl _)).alloc (aX HB.out hb (Nat.le_refl _)).size (.cells (#[.int .i64 0,.int .i64 0,.int .i64 0]) 98))
 clear hb HW HV
 have z0:=HZ.out.cell 0 _ rfl
 have z1:=HZ.out.cell 1 _ rfl
 have z2:=HZ.out.cell 2 _ rfl
 have hz:=HZ.out.free
 go_wp2_with fail
 have hW:Below w.heap.size w (au (w2.alloc (.cells (#[.int .i64 0,.int .i64 0,.int .i64 0]) 98)) w.heap.size 0 [.int .i64 0,.int .i64 0,.int .i64 0]):=aN (Nat.le_refl _) _ _ _ _ HB.out
 have hA:Bl (au (w2.alloc (.cells (#[.int .i64 0,.int .i64 0,.int .i64 0]) 98)) w.heap.size 0 [.int .i64 0,.int .i64 0,.int .i64 0]) w.heap.size (#[.int .i64 0,.int .i64 0,.int .i64 0]) 98:=aI [.int .i64 0,.int .i64 0,.int .i64 0] _ _ HZ.out rfl
 change bodyPost _ _ _ _ _ (au (w2.alloc (.cells (#[.int .i64 0,.int .i64 0,.int .i64 0]) 98)) w.heap.size 0 [.int .i64 0,.int .i64 0,.int .i64 0])
 generalize au (w2.alloc (.cells (#[.int .i64 0,.int .i64 0,.int .i64 0]) 98)) w.heap.size 0 [.int .i64 0,.int .i64 0,.int .i64 0]=wf at *
 refine bodyPost_ret (v:=.tuple #[.agg #[.int .i64 0,.int .i64 0,.int .i64 0],.int .i64 4]) ?_ rfl ⟨rfl,hW⟩
 simp[results,Tryz.results117,go_sem,hA.cell 0 _ rfl,hA.cell 1 _ rfl,hA.cell 2 _ rfl]
theorem yT (H:Nat->Int)(g1:Nat)(a:Option Addr)(len cap:Nat)(w:World)(xs zs:List Int)(hh:Has w a len zs)(hz0:∀ z∈zs,0<=z/\z<=255)(hx:∀ z∈xs,0<=z/\z<=255)(he:decide (xs=zs)=false)(HT:Hid (∀ u,Below w.heap.size w u->Calls Tryz.prog 118 #[.slice a len cap] u fun e w'=>e=.returned (Hv H)/\Below u.heap.size u w'))(HW:Hid (∀ u,Below w.heap.size w u->Calls Tryz.prog 119 #[Hv H,.pointer (some ⟨g1,0,none⟩)] u fun e w'=>∃ a' n' c',e=.returned (.tuple #[.slice a' n' c',.int .i64 0])/\Hid (Has w' a' n' xs)/\Below u.heap.size u w')) :
  Calls Tryz.prog 117 #[.slice a len cap,.func (.func 118) #[] #[],.func (.func 119) #[] #[.pointer (some ⟨g1,0,none⟩)]] w fun e w'=>e=.returned (.tuple #[.agg #[.int .i64 0,.int .i64 0,.int .i64 0],.int .i64 4])/\Below w.heap.size w w':=by
 have HH:=hide hh
 clear hh
 have hb0:Below w.heap.size w (w.alloc (.cells (#[.int .i64 0,.int .i64 0,.int .i64 0]) 98)):=(Below.refl _ w).alloc (Nat.le_refl _) _
 have HZ:=hide (Bl.new w (#[.int .i64 0,.int .i64 0,.int .i64 0]) 98)
 have HB:=hide hb0
 clear hb0
 go_enter Tryz.func117,Tryz.ntmps117
 go_wp2_with fail
 go_at_call 118
 refine(ah HT _ HB.out).mono ?_
 rintro e w1 ⟨rfl,hb⟩
 replace HZ:=hide ((HZ.out.call hb).alloc (.cells (Hc H) 98))
 replace HB:=hide ((aX HB.out hb (Nat.le_refl _)).alloc (aX HB.out hb (Nat.le_refl _)).size (.cells (Hc H) 98))
 have HV:=hide (Bl.new w1 (Hc H) 98)
 clear hb HT
 go_wp2_with fail
 go_at_call 119
 refine(ah HW _ HB.out).mono ?_
 rintro e w2 ⟨a',n',c',rfl,hx',hb⟩
 replace HZ:=hide (HZ.out.call hb)
 replace HB:=hide (aX HB.out hb (Nat.le_refl _))
 replace HV:=hide (HV.out.call hb)
 have KE:Hid (Calls Tryz.prog 143 #[.slice a' n' c',.slice a len cap] w2 fun e w'=>e=.returned (.bool false)/\w2=w'):=by
  have:=lH a' a n' c' len cap xs zs w2 hx'.out ((HH.out).later HB.out) hx hz0
  rwa [he] at this
 clear hb HW hx'
 go_wp2_with fail
 go_at_call 143
 refine(ah KE).mono ?_
 rintro e w' ⟨rfl,rfl⟩
 clear KE
 replace HZ:=hide (HZ.out.alloc (.cells (#[.int .i64 0,.int .i64 0,.int .i64 0]) 98))
 replace HB:=hide (HB.out.alloc HB.out.size (.cells (#[.int .i64 0,.int .i64 0,.int .i64 0]) 98))
 clear HV HH hz0 hx he
 have z0:=HZ.out.cell 0 _ rfl
 have z1:=HZ.out.cell 1 _ rfl
 have z2:=HZ.out.cell 2 _ rfl
 have hz:=HZ.out.free
 go_wp2_with fail
 have hW:Below w.heap.size w (au (w2.alloc (.cells (#[.int .i64 0,.int .i64 0,.int .i64 0]) 98)) w.heap.size 0 [.int .i64 0,.int .i64 0,.int .i64 0]):=aN (Nat.le_refl _) _ _ _ _ HB.out
 have hA:Bl (au (w2.alloc (.cells (#[.int .i64 0,.int .i64 0,.int .i64 0]) 98)) w.heap.size 0 [.int .i64 0,.int .i64 0,.int .i64 0]) w.heap.size (#[.int .i64 0,.int .i64 0,.int .i64 0]) 98:=aI [.int .i64 0,.int .i64 0,.int .i64 0] _ _ HZ.out rfl
 change bodyPost _ _ _ _ _ (au (w2.alloc (.cells (#[.int .i64 0,.int .i64 0,.int .i64 0]) 98)) w.heap.size 0 [.int .i64 0,.int .i64 0,.int .i64 0])
 generalize au (w2.alloc (.cells (#[.int .i64 0,.int .i64 0,.int .i64 0]) 98)) w.heap.size 0 [.int .i64 0,.int .i64 0,.int .i64 0]=wf at *
 refine bodyPost_ret (v:=.tuple #[.agg #[.int .i64 0,.int .i64 0,.int .i64 0],.int .i64 4]) ?_ rfl ⟨rfl,hW⟩
 simp[results,Tryz.results117,go_sem,hA.cell 0 _ rfl,hA.cell 1 _ rfl,hA.cell 2 _ rfl]
theorem abn (H:Nat->Int)(g1:Nat)(a:Option Addr)(len cap:Nat)(w:World)(xs zs:List Int)(hh:Has w a len zs)(hz0:∀ z∈zs,0<=z/\z<=255)(hx:∀ z∈xs,0<=z/\z<=255)(he:decide (xs=zs)=true)(HT:Hid (∀ u,Below w.heap.size w u->Calls Tryz.prog 118 #[.slice a len cap] u fun e w'=>e=.returned (Hv H)/\Below u.heap.size u w'))(HW:Hid (∀ u,Below w.heap.size w u->Calls Tryz.prog 119 #[Hv H,.pointer (some ⟨g1,0,none⟩)] u fun e w'=>∃ a' n' c',e=.returned (.tuple #[.slice a' n' c',.int .i64 0])/\Hid (Has w' a' n' xs)/\Below u.heap.size u w')) :
  Calls Tryz.prog 117 #[.slice a len cap,.func (.func 118) #[] #[],.func (.func 119) #[] #[.pointer (some ⟨g1,0,none⟩)]] w fun e w'=>e=.returned (.tuple #[Hv H,.int .i64 0])/\Below w.heap.size w w':=by
 have HH:=hide hh
 clear hh
 have hb0:Below w.heap.size w (w.alloc (.cells (#[.int .i64 0,.int .i64 0,.int .i64 0]) 98)):=(Below.refl _ w).alloc (Nat.le_refl _) _
 have HZ:=hide (Bl.new w (#[.int .i64 0,.int .i64 0,.int .i64 0]) 98)
 have HB:=hide hb0
 clear hb0
 go_enter Tryz.func117,Tryz.ntmps117
 go_wp2_with fail
 go_at_call 118
 refine(ah HT _ HB.out).mono ?_
 rintro e w1 ⟨rfl,hb⟩
 replace HZ:=hide ((HZ.out.call hb).alloc (.cells (Hc H) 98))
 replace HB:=hide ((aX HB.out hb (Nat.le_refl _)).alloc (aX HB.out hb (Nat.le_refl _)).size (.cells (Hc H) 98))
 have HV:=hide (Bl.new w1 (Hc H) 98)
 clear hb HT
 go_wp2_with fail
 go_at_call 119
 refine(ah HW _ HB.out).mono ?_
 rintro e w2 ⟨a',n',c',rfl,hx',hb⟩
 replace HZ:=hide (HZ.out.call hb)
 replace HB:=hide (aX HB.out hb (Nat.le_refl _))
 replace HV:=hide (HV.out.call hb)
 have KE:Hid (Calls Tryz.prog 143 #[.slice a' n' c',.slice a len cap] w2 fun e w'=>e=.returned (.bool true)/\w2=w'):=by
  have:=lH a' a n' c' len cap xs zs w2 hx'.out ((HH.out).later HB.out) hx hz0
  rwa [he] at this
 clear hb HW hx'
 go_wp2_with fail
 go_at_call 143
 refine(ah KE).mono ?_
 rintro e w' ⟨rfl,rfl⟩
 clear KE
 clear HH hz0 hx he
 have z0:=HZ.out.cell 0 _ rfl
 have z1:=HZ.out.cell 1 _ rfl
 have z2:=HZ.out.cell 2 _ rfl
 have v0:=HV.out.cell 0 _ rfl
 have v1:=HV.out.cell 1 _ rfl
 have v2:=HV.out.cell 2 _ rfl
 have hz:=HZ.out.free
 go_wp2_with fail
 have hW:Below w.heap.size w (au w2 w.heap.size 0 [.int .i64 (H 0),.int .i64 (H 1),.int .i64 (H 2)]):=aN (Nat.le_refl _) _ _ _ _ HB.out
 have hA:Bl (au w2 w.heap.size 0 [.int .i64 (H 0),.int .i64 (H 1),.int .i64 (H 2)]) w.heap.size (Hc H) 98:=aI [.int .i64 (H 0),.int .i64 (H 1),.int .i64 (H 2)] _ _ HZ.out rfl
 change bodyPost _ _ _ _ _ (au w2 w.heap.size 0 [.int .i64 (H 0),.int .i64 (H 1),.int .i64 (H 2)])
 generalize au w2 w.heap.size 0 [.int .i64 (H 0),.int .i64 (H 1),.int .i64 (H 2)]=wf at *
 refine bodyPost_ret (v:=.tuple #[Hv H,.int .i64 0]) ?_ rfl ⟨rfl,hW⟩
 simp[results,Tryz.results117,go_sem,hA.cell 0 _ rfl,hA.cell 1 _ rfl,hA.cell 2 _ rfl]
def dw (zs:List Int):Nat->Int
 | 0=>ak zs 4 4
 | 1=>ak zs 8 2
 | _=>ak zs 10 2
theorem jP (a:Option Addr)(len cap:Nat)(zs:List Int)(w:World)(hr:Row w.heap.size w a len cap zs) :
  Calls Tryz.prog 118 #[.slice a len cap] w fun e w'=>e=.returned (Hv (dw zs))/\Below w.heap.size w w':=by
 have KG:Hid (∀ (at' n:Int) (u:World),at'<=1000->Below w.heap.size w u->Calls Tryz.prog 157 #[.slice a len cap,.int .i64 at',.int .i64 n] u fun e w'=>e=.returned (.int .i64 (ak zs at' n))/\Below u.heap.size u w') :=
  fun at' n u h1 hb=>uD a len cap zs at' n u (hr.below hb hb.size) (by omega)
 have HZ:=hide (Bl.new w #[.int .i64 0,.int .i64 0,.int .i64 0] 98)
 have HB:=hide ((Below.refl _ w).alloc (Nat.le_refl _) (.cells #[.int .i64 0,.int .i64 0,.int .i64 0] 98))
 clear hr
 change Calls Tryz.prog 118 #[.slice a len cap] w fun e w'=>e=.returned (.agg #[.int .i64 (ak zs 4 4),.int .i64 (ak zs 8 2),.int .i64 (ak zs 10 2)])/\Below w.heap.size w w'
 go_enter Tryz.func118,Tryz.ntmps118
 go_wp2_with fail
 go_at_call 157
 refine(ah KG _ _ _ (by omega) HB.out).mono ?_
 rintro e w1 ⟨rfl,hb⟩
 replace HB:=hide (aX HB.out hb (Nat.le_refl _))
 replace HZ:=hide (HZ.out.call hb)
 clear hb
 go_wp2_with fail
 go_at_call 157
 refine(ah KG _ _ _ (by omega) HB.out).mono ?_
 rintro e w2 ⟨rfl,hb⟩
 replace HB:=hide (aX HB.out hb (Nat.le_refl _))
 replace HZ:=hide (HZ.out.call hb)
 clear hb
 go_wp2_with fail
 go_at_call 157
 refine(ah KG _ _ _ (by omega) HB.out).mono ?_
 rintro e w3 ⟨rfl,hb⟩
 replace HB:=hide (aX HB.out hb (Nat.le_refl _))
 replace HZ:=hide (HZ.out.call hb)
 clear hb
 have z0:=HZ.out.cell 0 _ rfl
 have z1:=HZ.out.cell 1 _ rfl
 have z2:=HZ.out.cell 2 _ rfl
 have hz:=HZ.out.free
 clear KG
 go_wp2_with fail
 have hW:Below w.heap.size w (au w3 w.heap.size 0 [.int .i64 (ak zs 4 4),.int .i64 (ak zs 8 2),.int .i64 (ak zs 10 2)]):=aN (Nat.le_refl _) _ _ _ _ HB.out
 have hA:Bl (au w3 w.heap.size 0 [.int .i64 (ak zs 4 4),.int .i64 (ak zs 8 2),.int .i64 (ak zs 10 2)]) w.heap.size #[.int .i64 (ak zs 4 4),.int .i64 (ak zs 8 2),.int .i64 (ak zs 10 2)] 98:=aI [.int .i64 (ak zs 4 4),.int .i64 (ak zs 8 2),.int .i64 (ak zs 10 2)] _ _ HZ.out rfl
 change bodyPost _ _ _ _ _ (au w3 w.heap.size 0 [.int .i64 (ak zs 4 4),.int .i64 (ak zs 8 2),.int .i64 (ak zs 10 2)])
 generalize au w3 w.heap.size 0 [.int .i64 (ak zs 4 4),.int .i64 (ak zs 8 2),.int .i64 (ak zs 10 2)]=wf at *
 refine bodyPost_ret (v:=.agg #[.int .i64 (ak zs 4 4),.int .i64 (ak zs 8 2),.int .i64 (ak zs 10 2)]) ?_ rfl ⟨rfl,hW⟩
 simp[results,Tryz.results118,go_sem,hA.cell 0 _ rfl,hA.cell 1 _ rfl,hA.cell 2 _ rfl]
theorem dJ {zs:List Int}(hz:∀ z∈zs,0<=z/\z<=255)(at':Int)(n:Nat):0<=ak zs at' n/\ak zs at' n<256 ^ n:=by
 unfold ak
 have hp:(0:Int)<256 ^ n:=Int.pow_pos (by omega)
 split
 ·have hb:=vY ((zs.drop at'.toNat).take (n:Int).toNat) (fun z h=>hz z (List.mem_of_mem_drop (List.mem_of_mem_take h)))
  refine⟨hb.1,Int.lt_of_lt_of_le hb.2 ?_⟩
  have hle:((zs.drop at'.toNat).take (n:Int).toNat).length<=n:=by rw[List.length_take,Int.toNat_natCast];omega
  generalize ((zs.drop at'.toNat).take (n:Int).toNat).length=k at hle
  have h1:=Nat.pow_le_pow_right (n:=256) (by omega) hle
  have e1:((256 ^ k:Nat):Int)=256 ^ k:=by rw[Int.natCast_pow];rfl
  have e2:((256 ^ n:Nat):Int)=256 ^ n:=by rw[Int.natCast_pow];rfl
  rw[← e1,← e2]
  exact Int.ofNat_le.2 h1
 ·exact⟨Int.le_refl _,hp⟩
theorem adM {zs:List Int}(hz:∀ z∈zs,0<=z/\z<=255):agK (dw zs)=true:=by
 unfold agK
 rw[Bool.and_eq_true,dR,dR]
 refine⟨fun v hv=>?_,fun v hv=>?_⟩
 ·simp only[List.mem_cons,List.not_mem_nil,or_false] at hv
  subst hv
  exact dJ hz 4 4
 ·simp only[List.mem_cons,List.not_mem_nil,or_false] at hv
  rcases hv with rfl | rfl
  ·exact dJ hz 8 2
  ·exact dJ hz 10 2
theorem nZ (H:Nat->Int)(g1:Nat)(a:Option Addr)(len cap:Nat)(w:World)(hc:w.cell? ⟨g1,0,none⟩=some (.slice a len cap))(q:Int)(S:Value->World->Prop)
  (K:Hid (∀ u,Below w.heap.size w u->Calls Tryz.prog 70 #[Hv H,.int .i64 (len:Int)] u fun e w'=>∃ a' n' c',e=.returned (.tuple #[.slice a' n' c',.int .i64 q])/\Hid (S (.slice a' n' c') w')/\Below u.heap.size u w')) :
  Calls Tryz.prog 119 #[Hv H,.pointer (some ⟨g1,0,none⟩)] w fun e w'=>∃ a' n' c',e=.returned (.tuple #[.slice a' n' c',.int .i64 q])/\Hid (S (.slice a' n' c') w')/\Below w.heap.size w w':=by
 have hb0:Below w.heap.size w (w.alloc (.cells (Hc H) 98)):=(Below.refl _ w).alloc (Nat.le_refl _) _
 have hc1:(w.alloc (.cells (Hc H) 98)).cell? ⟨g1,0,none⟩=some (.slice a len cap):=(hb0.cell (aO hc)).trans hc
 have K':=hide (K.out _ hb0)
 have HB:=hide hb0
 clear hc K hb0
 go_enter Tryz.func119,Tryz.ntmps119
 go_wp2_with fail
 go_at_call 70
 refine(ah K').mono ?_
 rintro e w1 ⟨a',n',c',rfl,hS,hb⟩
 replace HB:=hide (aX HB.out hb (Nat.le_refl _))
 clear hb K' hc1
 go_wp2_with fail
 go_ret2
 exact⟨a',n',c',rfl,hS,HB.out⟩
theorem xM {zs:List Int}{b:Nat}{L:List Int}(hL:L.length=12)(hb:16<=b):(uT b L).length=b:=by
 unfold uT
 exact dH (by rw[List.length_append,length_digits,hL];omega)
theorem vG {b:Nat}{L}(h:aeH L):∀ z∈uT b L,0<=z/\z<=255:=by
 refine pJ _ _ fun z hz=>?_
 rcases List.mem_append.1 hz with hz | hz
 ·exact h z hz
 ·exact qp _ _ z hz
theorem qO (H:Nat->Int)(q:Int)(a:Option Addr)(len cap:Nat)(w:World)(K:Hid (∀ u,Below w.heap.size w u->u.cell? ⟨w.heap.size,0,none⟩=some (.slice a len cap)->Calls Tryz.prog 117 #[.slice a len cap,.func (.func 118) #[] #[],.func (.func 119) #[] #[.pointer (some ⟨w.heap.size,0,none⟩)]] u fun e w'=>e=.returned (.tuple #[Hv H,.int .i64 q])/\Below u.heap.size u w')) :
  Calls Tryz.prog 74 #[.slice a len cap] w fun e w'=>e=.returned (.tuple #[Hv H,.int .i64 q])/\Below w.heap.size w w':=by
 have hb1:Below w.heap.size w (w.alloc (.cells #[.slice a len cap] 71)):=(Below.refl _ w).alloc (Nat.le_refl _) _
 have hb2:Below w.heap.size w ((w.alloc (.cells #[.slice a len cap] 71)).alloc (.cells #[.int .i64 0,.int .i64 0,.int .i64 0] 98)):=hb1.alloc hb1.size _
 have HZ:Hid (Bl ((w.alloc (.cells #[.slice a len cap] 71)).alloc (.cells #[.int .i64 0,.int .i64 0,.int .i64 0] 98)) (w.heap.size+1) #[.int .i64 0,.int .i64 0,.int .i64 0] 98):=by
  have:=Bl.new (w.alloc (.cells #[.slice a len cap] 71)) #[.int .i64 0,.int .i64 0,.int .i64 0] 98
  have e:(w.alloc (.cells #[.slice a len cap] 71)).heap.size=w.heap.size+1:=by simp
  rw[e] at this
  exact this
 have hc:((w.alloc (.cells #[.slice a len cap] 71)).alloc (.cells #[.int .i64 0,.int .i64 0,.int .i64 0] 98)).cell? ⟨w.heap.size,0,none⟩=some (.slice a len cap):=((Bl.new w #[.slice a len cap] 71).alloc _).cell 0 _ rfl
 have K':=hide (K.out _ hb2 hc)
 have HB:=hide hb2
 clear K hb1 hb2
 go_enter Tryz.func74,Tryz.ntmps74
 go_wp2_with fail
 go_at_call 117
 refine(ah K').mono ?_
 rintro e w1 ⟨rfl,hb⟩
 replace HB:=hide (aX HB.out hb (Nat.le_refl _))
 replace HZ:=hide (HZ.out.call hb)
 clear hb K' hc
 have z0:=HZ.out.cell 0 _ rfl
 have z1:=HZ.out.cell 1 _ rfl
 have z2:=HZ.out.cell 2 _ rfl
 have hz:=HZ.out.free
 go_wp2_with fail
 have hW:Below w.heap.size w (au w1 (w.heap.size+1) 0 [.int .i64 (H 0),.int .i64 (H 1),.int .i64 (H 2)]):=aN (by omega) _ _ _ _ HB.out
 have hA:Bl (au w1 (w.heap.size+1) 0 [.int .i64 (H 0),.int .i64 (H 1),.int .i64 (H 2)]) (w.heap.size+1) #[.int .i64 (H 0),.int .i64 (H 1),.int .i64 (H 2)] 98:=aI [.int .i64 (H 0),.int .i64 (H 1),.int .i64 (H 2)] _ _ HZ.out rfl
 change bodyPost _ _ _ _ _ (au w1 (w.heap.size+1) 0 [.int .i64 (H 0),.int .i64 (H 1),.int .i64 (H 2)])
 generalize au w1 (w.heap.size+1) 0 [.int .i64 (H 0),.int .i64 (H 1),.int .i64 (H 2)]=wf at *
 refine bodyPost_ret (v:=.tuple #[Hv H,.int .i64 q]) ?_ rfl ⟨rfl,hW⟩
 simp[results,Tryz.results74,go_sem,hA.cell 0 _ rfl,hA.cell 1 _ rfl,hA.cell 2 _ rfl]
theorem vg (a:Option Addr)(len cap:Nat)(zs:List Int)(w:World)(hr:Row w.heap.size w a len cap zs)(hT:Tab w)(h:isSize (len:Int))(he:uT len (kG (dw zs))=zs) :
  Calls Tryz.prog 74 #[.slice a len cap] w fun e w'=>e=.returned (.tuple #[Hv (dw zs),.int .i64 0])/\Below w.heap.size w w':=by
 refine qO (dw zs) 0 a len cap w fun u hb hc=>?_
 have hru:=hr.below hb hb.size
 have hTu:=hT.below hb (gq hT)
 refine abn (dw zs) w.heap.size a len cap u zs zs hru.has hr.iF hr.iF (by simp) (fun u2 hb2=>jP a len cap zs u2 (hru.below hb2 hb2.size)) fun u2 hb2=>?_
 refine(nZ (dw zs) w.heap.size a len cap u2 ((hb2.cell (aO hc)).trans hc) 0 (fun v w'=>∃ a' n' c',v=.slice a' n' c'/\Has w' a' n' zs) fun u3 hb3=>?_).mono ?_
 ·refine(kD (dw zs) len u3 h (adM hr.iF) ((hTu.below hb2 (gq hTu)).below hb3 (gq (hTu.below hb2 (gq hTu))))).mono ?_
  rintro e w' ⟨g,rfl,hg,hB,hb⟩
  refine⟨_,_,_,rfl,⟨_,_,_,rfl,?_⟩,hb⟩
  rw[he] at hB
  exact hB.out.has hr.1
 ·rintro e w' ⟨a',n',c',rfl,hS,hb⟩
  obtain⟨a2,n2,c2,e2,hh⟩:=hS.out
  cases e2
  exact⟨_,_,_,rfl,hh,hb⟩
theorem yA (a:Option Addr)(len cap:Nat)(zs:List Int)(w:World)(hr:Row w.heap.size w a len cap zs)(hT:Tab w)(h:¬ (isSize (len:Int)/\uT len (kG (dw zs))=zs)) :
  Calls Tryz.prog 74 #[.slice a len cap] w fun e w'=>e=.returned (.tuple #[Hv aiA,.int .i64 4])/\Below w.heap.size w w':=by
 refine qO aiA 4 a len cap w fun u hb hc=>?_
 have hru:=hr.below hb hb.size
 have hTu:=hT.below hb (gq hT)
 have HT:Hid (∀ u2,Below u.heap.size u u2->Calls Tryz.prog 118 #[.slice a len cap] u2 fun e w'=>e=.returned (Hv (dw zs))/\Below u2.heap.size u2 w'):=fun u2 hb2=>jP a len cap zs u2 (hru.below hb2 hb2.size)
 by_cases hs:isSize (len:Int)
 ·have he:uT len (kG (dw zs))≠zs:=fun e=>h ⟨hs,e⟩
  refine yT (dw zs) w.heap.size a len cap u (uT len (kG (dw zs))) zs hru.has hr.iF (vG (lC _)) (decide_eq_false he) HT fun u2 hb2=>?_
  refine(nZ (dw zs) w.heap.size a len cap u2 ((hb2.cell (aO hc)).trans hc) 0 (fun v w'=>∃ a' n' c',v=.slice a' n' c'/\Has w' a' n' (uT len (kG (dw zs)))) fun u3 hb3=>?_).mono ?_
  ·refine(kD (dw zs) len u3 hs (adM hr.iF) ((hTu.below hb2 (gq hTu)).below hb3 (gq (hTu.below hb2 (gq hTu))))).mono ?_
   rintro e w' ⟨g,rfl,hg,hB,hb⟩
   exact⟨_,_,_,rfl,⟨_,_,_,rfl,hB.out.has (xM (zs:=zs) (iW _) (by have:=iG hs;omega))⟩,hb⟩
  ·rintro e w' ⟨a',n',c',rfl,hS,hb⟩
   obtain⟨a2,n2,c2,e2,hh⟩:=hS.out
   cases e2
   exact⟨_,_,_,rfl,hh,hb⟩
 ·refine adg (dw zs) w.heap.size a len cap 1 u rfl HT fun u2 hb2=>?_
  refine(nZ (dw zs) w.heap.size a len cap u2 ((hb2.cell (aO hc)).trans hc) 1 (fun v w'=>v=.slice none 0 0) fun u3 hb3=>?_).mono ?_
  ·refine(abH (dw zs) len u3 hs).mono ?_
   rintro e w' ⟨rfl,hb⟩
   exact⟨_,_,_,rfl,rfl,hb⟩
  ·rintro e w' ⟨a',n',c',rfl,hS,hb⟩
   have:=hS.out
   rw[this]
   exact⟨rfl,hb⟩
theorem abK (A B:List Int)(at0 wd:Nat)(v:Int)(hA:A.length=at0)(hw:wd=1\/wd=2\/wd=4)(h:0<=v/\v<256 ^ wd):ak (A++(digits wd v++B)) (at0:Int) (wd:Int)=v:=by
 unfold ak
 rw[if_pos (kV hw (by rw[List.length_append,List.length_append,length_digits,hA];omega))]
 rw[Int.toNat_natCast,Int.toNat_natCast,List.drop_append_of_le_length (by omega),List.drop_of_length_le (by omega),List.nil_append,List.take_append_of_le_length (by rw[length_digits];omega),List.take_of_length_le (by rw[length_digits];omega)]
 exact ab1 wd v h.1 h.2
def aef:List (Nat×Int)->List Int
 | []=>[]
 | f::fs=>digits f.1 f.2++aef fs
def ajg:List (Nat×Int)->Nat->Nat
 | [],_=>0
 | _,0=>0
 | f::fs,k+1=>f.1+ajg fs k
theorem fJ:∀ (fs:List (Nat×Int)) (k:Nat) (wd:Nat) (v:Int) (pre R:List Int),fs[k]?=some (wd,v)->(wd=1\/wd=2\/wd=4)->0<=v/\v<256 ^ wd->ak (pre++(aef fs++R)) ((pre.length+ajg fs k:Nat):Int) (wd:Int)=v
 | [],k,wd,v,pre,R,h,hw,hv=>by cases h
 | f::fs,0,wd,v,pre,R,h,hw,hv=>by
  simp at h
  subst h
  rw[aef,List.append_assoc]
  exact abK pre _ _ wd v (by simp[ajg]) hw hv
 | f::fs,k+1,wd,v,pre,R,h,hw,hv=>by
  have ih:=fJ fs k wd v (pre++digits f.1 f.2) R (by simpa using h) hw hv
  rw[List.append_assoc] at ih
  rw[aef,List.append_assoc]
  rw[List.length_append,length_digits] at ih
  rw[ajg,← Nat.add_assoc]
  exact ih
theorem ig {wd}{ns:List Int}(h:iD wd ns=true)(v:Int)(hv:v∈ns):0<=v/\v<256 ^ wd:=dR.1 h v hv
theorem afP {H:Nat->Int}(hf:agK H=true)(n:Nat):Hv (dw (uT n (kG H)))=Hv H:=by
 unfold agK at hf
 rw[Bool.and_eq_true] at hf
 obtain⟨R,hR⟩:∃ R,uT n (kG H)=qP++(aef [(4,H 0),(2,H 1),(2,H 2)]++R):=⟨_,by simp only[uT,aZ,kG,aH,aef,List.map_cons,List.map_nil,List.flatten_cons,List.flatten_nil,List.append_nil,List.append_assoc];rfl⟩
 rw[hR]
 have e0:ak (qP++(aef [(4,H 0),(2,H 1),(2,H 2)]++R)) 4 4=H 0:=fJ _ 0 4 (H 0) qP R rfl (by omega) (ig hf.1 _ (by simp))
 have e1:ak (qP++(aef [(4,H 0),(2,H 1),(2,H 2)]++R)) 8 2=H 1:=fJ _ 1 2 (H 1) qP R rfl (by omega) (ig hf.2 _ (by simp))
 have e2:ak (qP++(aef [(4,H 0),(2,H 1),(2,H 2)]++R)) 10 2=H 2:=fJ _ 2 2 (H 2) qP R rfl (by omega) (ig hf.2 _ (by simp))
 simp only[Hv,dw,e0,e1,e2]
theorem abJ {H G:Nat->Int}(h:Hv H=Hv G):kG H=kG G:=by
 simp only[Hv,Value.agg.injEq,Array.mk.injEq,List.cons.injEq,Value.int.injEq,true_and,and_true] at h
 unfold kG
 rw[h.1,h.2.1,h.2.2]
def ahj (zs:List Int) (n:Nat):List Int:=(List.range n).map (fun (i:Nat)=>ak zs (10+2*(i:Int)) 2)
end Go.Proofs.YtefdkpbmeoakgaaGreatDoor
