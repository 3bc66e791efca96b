/- Joined: CHead, CHdr2, CDesc, CReadP, CTake, CUn, CBackH. -/
import Derived.Test.YtbofhdfhhbgdgaaGreatDoorIaJ21
import Derived.Test.YtbofhdfhhbgdgaaGreatDoorIaJ5
import Derived.Test.YtbofhdfhhbgdgaaGreatDoorIaJ1
import Derived.Test.YtbofhdfhhbgdgaaGreatDoorIaJ18
/- aki of ai4.summed, ai4.ahZ and ai4.Header. -/
namespace Go.Proofs.YtbofhdfhhbgdgaaGreatDoor
set_option maxRecDepth 100000
set_option maxHeartbeats 8000000
open Go.RowKit Go.Shelf
set_option linter.unusedVariables false
def uj (n:Nat) (h:List Int):List Int:=bW n (h++digits 4 ((ac6 h:Nat):Int))
theorem adl (wd:Nat)(z:Int):aQ wd [z]=digits wd z:=by simp[aQ]
theorem agt {zs}(h:aeK zs):jR 4 [((ac6 zs:Nat):Int)]=true:=by
 have:=ac5 h
 rw[bT]
 intro v hv
 simp at hv
 subst hv
 omega
theorem aaN (a:Option Addr)(len cap:Nat)(zs:List Int)(block:Nat)(w:World)(h:Has w a len zs)(hby:aeK zs)(hT:Tab w)(hl:len+4<=block)(hb:block<=4096) :
  Calls Tryz.prog 222 #[.slice a len cap,.int .i64 (block:Int)] w fun e w'=>∃ g,e=.returned (.slice (some ⟨g,0,none⟩) block block)/\w.heap.size<=g/\Hid (Block w' g (uj block zs))/\Below w.heap.size w w':=by
 have hlen:=h.1
 have K1:=hide (sum_any a len cap zs w hT h (by omega) hby)
 have hf:=agt hby
 have HS:Hid (uj block zs=bW block (zs++digits 4 ((ac6 zs:Nat):Int))):=rfl
 generalize ac6 zs=S at *
 have K2:Hid (Calls Tryz.prog 117 #[.int .i64 4,.slice (some ⟨w.heap.size,0,none⟩) 1 1] (w.alloc (zI (S:Int))) fun e w'=>∃ a4 c4,e=.returned (.slice a4 4 c4)/\Hid (Has w' a4 4 (digits 4 (S:Int))/\Below w.heap.size w w')):=by
  refine(ou 4 (.inr (.inr rfl)) _ 1 1 [(S:Int)] _ (dQ w [(S:Int)]) (by omega) hf 4 rfl).mono ?_
  rintro e w' ⟨a',c',rfl,hO,hb⟩
  rw[adl] at hO
  exact⟨a',c',rfl,hO.out.has,bF ((Below.refl _ w).alloc (Nat.le_refl _) _) hb (Nat.le_refl _)⟩
 have K3:Hid (∀ a4 c4 w1,Hid (Has w1 a4 4 (digits 4 (S:Int))/\Below w.heap.size w w1)->Calls Tryz.prog 116 #[.int .i64 (block:Int),.slice (some ⟨w1.heap.size,0,none⟩) 2 2] (w1.alloc (.cells #[.slice a len cap,.slice a4 4 c4] 62)) fun e w'=>∃ g,e=.returned (.slice (some ⟨g,0,none⟩) block block)/\w.heap.size<=g/\Hid (Block w' g (uj block zs))/\Below w.heap.size w w'):=by
  intro a4 c4 w1 h1
  have hp:=nX w1 [(a,len,cap,zs),(a4,4,c4,digits 4 (S:Int))] (by
   intro p hp
   simp at hp
   rcases hp with rfl | rfl
   ·exact h.later h1.out.2
   ·exact h1.out.1)
  have hall:mZ [(a,len,cap,zs),(a4,4,c4,digits 4 (S:Int))]=zs++digits 4 (S:Int):=by simp[mZ]
  refine(aa2 block _ 2 2 _ _ hp (by omega) (by rw[hall,List.length_append,length_digits];omega) (by omega)).mono ?_
  rintro e w' ⟨rfl,hB,hb⟩
  rw[hall] at hB
  refine⟨_,rfl,by have:=h1.out.2.size;simp;omega,?_,bF (h1.out.2.alloc h1.out.2.size _) hb (Nat.le_refl _)⟩
  rw[HS.out];exact hB
 clear h hby hT hf HS
 go_enter Tryz.func222,Tryz.ntmps222
 go_wp2_with fail
 go_at_call 261
 refine(ah K1).mono ?_
 rintro e w' ⟨rfl,rfl⟩
 go_wp2_with fail
 go_at_call 117
 refine(ah K2).mono ?_
 rintro e w1 ⟨a4,c4,rfl,h1⟩
 go_wp2_with fail
 go_at_call 116
 refine(ah K3 a4 c4 w1 h1).mono ?_
 rintro e w2 ⟨g,rfl,hg,hB,hb2⟩
 go_wp2_with fail
 go_ret
 exact⟨g,rfl,hg,hB,hb2⟩
theorem acF {b}(h:isSize b):dO b 10 2 4=0:=by
 rcases h with rfl | rfl | rfl | rfl | rfl | rfl | rfl<;>decide +kernel
theorem uP {b:Int}(h:¬ isSize b):dO b 10 2 4=1:=o9 (.inl h)
theorem aa3 (b:Int)(q:Int)(w:World)(h:dO b 10 2 4=q)(r:Bool)(hr:(q==0)=r) :
  Calls Tryz.prog 221 #[.int .i64 b] w fun e w'=>e=.returned (.bool r)/\Below w.heap.size w w':=by
 have K:=hide (sU b 10 2 4 w)
 rw[h] at K
 generalize oz b 10 2 4=Q at *
 clear h
 go_enter Tryz.func221,Tryz.ntmps221
 go_wp2_with fail
 go_at_call 94
 refine(ah K).mono ?_
 rintro e w1 ⟨rfl,hb⟩
 have HB:=hide (hb.alloc hb.size (.cells (Pc Q) 25))
 clear K hb
 go_wp2_with fail
 go_ret
 exact⟨rfl,HB.out⟩
theorem abS (b:Int)(w:World)(h:isSize b):Calls Tryz.prog 221 #[.int .i64 b] w fun e w'=>e=.returned (.bool true)/\Below w.heap.size w w' :=
 aa3 b 0 w (acF h) true rfl
theorem aew (b:Int)(w:World)(h:¬ isSize b):Calls Tryz.prog 221 #[.int .i64 b] w fun e w'=>e=.returned (.bool false)/\Below w.heap.size w w' :=
 aa3 b 1 w (uP h) false rfl
abbrev Hv (H:Nat->Int):Value:=.agg #[.int .i64 (H 0),.int .i64 (H 1),.int .i64 (H 2)]
abbrev Hc (H:Nat->Int):Array Value:=#[.int .i64 (H 0),.int .i64 (H 1),.int .i64 (H 2)]
def qw:List Int:=[83,76,79,71]
def jU (H:Nat->Int):List Int:=qw++(aQ 4 [H 0]++aQ 2 [H 1,H 2])
theorem iI (H:Nat->Int):(jU H).length=12:=by simp[jU,qw,lV]
theorem acD:aeK qw:=by intro z hz;simp[qw] at hz;omega
theorem kT (H:Nat->Int):aeK (jU H):=by
 intro z hz
 simp only[jU,List.mem_append] at hz
 rcases hz with hz | hz | hz
 ·exact acD z hz
 ·exact jG _ _ z hz
 ·exact jG _ _ z hz
def ahg (H:Nat->Int):Bool:=jR 4 [H 0]&&jR 2 [H 1,H 2]
theorem ab5 (H:Nat->Int)(b:Int)(w:World)(h:¬ isSize b) :
  Calls Tryz.prog 161 #[Hv H,.int .i64 b] w fun e w'=>e=.returned (.tuple #[.slice none 0 0,.int .i64 1])/\Below w.heap.size w w':=by
 have K:Hid (∀ u,Calls Tryz.prog 221 #[.int .i64 b] u fun e w'=>e=.returned (.bool false)/\Below u.heap.size u w'):=fun u=>aew b u h
 have HK:=hide (Bx.start w (Hc H) 96)
 clear h
 go_enter Tryz.func161,Tryz.ntmps161
 go_wp2_with fail
 go_at_call 221
 refine(ah K _).mono ?_
 rintro e w1 ⟨rfl,hb⟩
 replace HK:=hide ((ah HK).call hb)
 clear K hb
 go_wp2_with fail
 go_ret2
 exact⟨rfl,HK.out.2.1⟩
theorem aax (wd:Nat)(hw:wd=2\/wd=4)(ns:List Int)(u:World)(hl:ns.length<=1000)(r:Bool)(hr:jR wd ns=r) :
  Calls Tryz.prog 115 #[.int .i64 (wd:Int),.slice (some ⟨u.heap.size,0,none⟩) ns.length ns.length] (u.alloc (.cells (ns.map (Value.int .i64)).toArray 3)) fun e w'=>e=.returned (.bool r)/\Below u.heap.size u w':=by
 subst hr
 refine(zx wd hw _ ns.length ns.length ns _ (dQ u ns) (by omega)).mono ?_
 rintro e w' ⟨rfl,rfl⟩
 exact⟨rfl,(Below.refl _ u).alloc (Nat.le_refl _) _⟩
theorem jQ (H:Nat->Int)(b:Nat)(w:World)(h:isSize (b:Int))(hf:ahg H=true)(hT:Tab w) :
  Calls Tryz.prog 161 #[Hv H,.int .i64 (b:Int)] w fun e w'=>∃ g,e=.returned (.tuple #[.slice (some ⟨g,0,none⟩) b b,.int .i64 0])/\w.heap.size<=g/\Hid (Block w' g (uj b (jU H)))/\Below w.heap.size w w':=by
 have K:Hid (∀ u,Calls Tryz.prog 221 #[.int .i64 (b:Int)] u fun e w'=>e=.returned (.bool true)/\Below u.heap.size u w'):=fun u=>abS b u h
 have HK:=hide (Bx.start w (Hc H) 96)
 have hbb:=gI h
 unfold ahg at hf
 rw[Bool.and_eq_true] at hf
 obtain⟨h4,h2⟩:=hf
 have F4:Hid (∀ u:World,Calls Tryz.prog 115 #[.int .i64 4,.slice (some ⟨u.heap.size,0,none⟩) 1 1] (u.alloc (zI (H 0))) fun e w'=>e=.returned (.bool true)/\Below u.heap.size u w') :=
  fun u=>aax 4 (.inr rfl) [H 0] u (by simp) true h4
 have F2:Hid (∀ u:World,Calls Tryz.prog 115 #[.int .i64 2,.slice (some ⟨u.heap.size,0,none⟩) 2 2] (u.alloc (.cells #[.int .i64 (H 1),.int .i64 (H 2)] 3)) fun e w'=>e=.returned (.bool true)/\Below u.heap.size u w') :=
  fun u=>aax 2 (.inl rfl) [H 1,H 2] u (by simp) true h2
 have KS:Hid (∀ a c u,Below w.heap.size w u->Has u a 12 (jU H)->Calls Tryz.prog 222 #[.slice a 12 c,.int .i64 (b:Int)] u fun e w'=>∃ g,e=.returned (.slice (some ⟨g,0,none⟩) b b)/\u.heap.size<=g/\Hid (Block w' g (uj b (jU H)))/\Below u.heap.size u w') :=
  fun a c u hb hh=>aaN a 12 c (jU H) b u hh (kT H) (hT.below hb (fJ hT)) (by omega) (by omega)
 have H4:=hide h4
 have H2:=hide h2
 clear h h4 h2 hT hbb
 go_enter Tryz.func161,Tryz.ntmps161
 go_wp2_with fail
 go_at_call 221
 refine(ah K _).mono ?_
 rintro e w1 ⟨rfl,hb⟩
 replace HK:=hide ((ah HK).call hb)
 have f0:=HK.out.1 0 _ rfl
 clear K hb
 go_wp2_with fail
 go_at_call 115
 refine(ah F4 _).mono ?_
 rintro e w2 ⟨rfl,hb⟩
 replace HK:=hide ((ah HK).call hb)
 clear f0
 have f1:=HK.out.1 1 _ rfl
 have f2:=HK.out.1 2 _ rfl
 clear hb F4
 go_wp2_with fail
 go_at_call 115
 refine(ah F2 _).mono ?_
 rintro e w3 ⟨rfl,hb⟩
 replace HK:=hide ((ah HK).call hb)
 clear f1 f2 hb F2
 go_upto_region 5 with fail
 go_cut [6] (fun c wx=>∃ a0 c0,c=.slice a0 12 c0/\Hid (Has wx a0 12 (jU H))/\Hid (Bx w (Hc H) wx))
 case first =>
  refine lN (by kernel_rfl) w.heap.size [aaR w.heap.size qw,aaR w.heap.size qw,iq (.pointer (some ⟨w.heap.size,0,none⟩)),iq (.int .i64 (H 0)),fE [H 0],bg 4 (aQ 4 [H 0]),iq (.pointer (some ⟨w.heap.size,1,none⟩)),iq (.int .i64 (H 1)),iq (.pointer (some ⟨w.heap.size,2,none⟩)),iq (.int .i64 (H 2)),fE [H 1,H 2],bg 4 (aQ 2 [H 1,H 2]),l9 3 (jU H),bg 12 (bW 12 (jU H)),bg 12 (bW 12 (jU H))] ?_ (by kernel_rfl) (by kernel_rfl) ?_ ?_
  ·intro S hS
   simp only[List.mem_cons,List.not_mem_nil,or_false] at hS
   rcases hS with rfl | rfl | rfl | rfl | rfl | rfl | rfl | rfl | rfl | rfl | rfl | rfl | rfl | rfl | rfl<;>first | exact aak _ _ | exact qF _ _ _ | exact sH _ _ | exact vJ _ _ | exact qE _ _ _
  ·intro i o a u hi hF hA hG
   have hB:=HK.out.drew.grw hG
   have hn:w.heap.size<=u.heap.size:=hB.2.1.size
   have tb:a.tmps[2]?.getD undef=.pointer (some ⟨w.heap.size,0,none⟩):=qh hF 2 (by kernel_rfl)
   have hlt:=(Array.getElem?_eq_some_iff.1 hi).1
   have hcs:i=0\/i=1\/i=2\/i=3\/i=4\/i=5\/i=6\/i=7\/i=8\/i=9\/i=10\/i=11\/i=12\/i=13\/i=14:=by simp at hlt;omega
   clear hlt
   rcases hcs with rfl | rfl | rfl | rfl | rfl | rfl | rfl | rfl | rfl | rfl | rfl | rfl | rfl | rfl | rfl
   ·have ho:=Option.some.inj hi;subst ho
    refine aX (w':=u.alloc (.cells (qw.map (Value.int .u8)).toArray 5)) rfl rfl (.slice (some ⟨u.heap.size,0,none⟩) 4 4) ?_ ⟨_,rfl,hn,agc u qw _,acG _ _ _⟩ (Grw.alloc _ _ _ hn)
    simp[execOp,Act.eval,go_sem]
    rfl
   ·have ho:=Option.some.inj hi;subst ho
    have h0:aaR w.heap.size qw (a.tmps[24]?.getD undef) u:=ay hA 0 24 (by kernel_rfl) rfl
    obtain⟨u',hr,hg⟩:=afR h0
    refine aX (w':=u') rfl rfl (a.tmps[24]?.getD undef) ?_ ((sH _ _) _ _ _ h0 hg) hg
    simp[execOp,Act.eval,hr,go_sem]
   ·have ho:=Option.some.inj hi;subst ho
    have h0:=tb
    refine aX (w':=u) rfl rfl (.pointer (some ⟨w.heap.size,0,none⟩)) ?_ rfl (Grw.refl _ _)
    simp[execOp,Act.eval,h0,go_sem]
   ·have ho:=Option.some.inj hi;subst ho
    have h0:a.tmps[26]?.getD undef=.pointer (some ⟨w.heap.size,0,none⟩):=ay hA 2 26 (by kernel_rfl) rfl
    have f0:=hB.1 0 _ rfl
    refine aX (w':=u) rfl rfl (.int .i64 (H 0)) ?_ rfl (Grw.refl _ _)
    simp[execOp,Act.eval,h0,f0,go_sem]
   ·have ho:=Option.some.inj hi;subst ho
    have h0:a.tmps[27]?.getD undef=.int .i64 (H 0):=ay hA 3 27 (by kernel_rfl) rfl
    refine aX (w':=u.alloc (.cells ([H 0].map (Value.int .i64)).toArray 3)) rfl rfl (.slice (some ⟨u.heap.size,0,none⟩) 1 1) ?_ ⟨_,_,rfl,dQ u [H 0]⟩ (Grw.alloc _ _ _ hn)
    simp[execOp,Act.eval,h0,go_sem]
   ·have ho:=Option.some.inj hi;subst ho
    have h0:fE [H 0] (a.tmps[28]?.getD undef) u:=ay hA 4 28 (by kernel_rfl) rfl
    refine ig rfl rfl 117 #[.int .i64 (4:Nat),a.tmps[28]?.getD undef] ?_ hn (dY 4 (.inr (.inr rfl)) [H 0] _ u h0 (by simp) H4.out 4 rfl)
    simp[execOp,Act.eval,go_sem]
   ·have ho:=Option.some.inj hi;subst ho
    have h0:=tb
    refine aX (w':=u) rfl rfl (.pointer (some ⟨w.heap.size,1,none⟩)) ?_ rfl (Grw.refl _ _)
    simp[execOp,Act.eval,h0,go_sem]
   ·have ho:=Option.some.inj hi;subst ho
    have h0:a.tmps[30]?.getD undef=.pointer (some ⟨w.heap.size,1,none⟩):=ay hA 6 30 (by kernel_rfl) rfl
    have f0:=hB.1 1 _ rfl
    refine aX (w':=u) rfl rfl (.int .i64 (H 1)) ?_ rfl (Grw.refl _ _)
    simp[execOp,Act.eval,h0,f0,go_sem]
   ·have ho:=Option.some.inj hi;subst ho
    have h0:=tb
    refine aX (w':=u) rfl rfl (.pointer (some ⟨w.heap.size,2,none⟩)) ?_ rfl (Grw.refl _ _)
    simp[execOp,Act.eval,h0,go_sem]
   ·have ho:=Option.some.inj hi;subst ho
    have h0:a.tmps[32]?.getD undef=.pointer (some ⟨w.heap.size,2,none⟩):=ay hA 8 32 (by kernel_rfl) rfl
    have f0:=hB.1 2 _ rfl
    refine aX (w':=u) rfl rfl (.int .i64 (H 2)) ?_ rfl (Grw.refl _ _)
    simp[execOp,Act.eval,h0,f0,go_sem]
   ·have ho:=Option.some.inj hi;subst ho
    have h0:a.tmps[31]?.getD undef=.int .i64 (H 1):=ay hA 7 31 (by kernel_rfl) rfl
    have h1:a.tmps[33]?.getD undef=.int .i64 (H 2):=ay hA 9 33 (by kernel_rfl) rfl
    refine aX (w':=u.alloc (.cells ([H 1,H 2].map (Value.int .i64)).toArray 3)) rfl rfl (.slice (some ⟨u.heap.size,0,none⟩) 2 2) ?_ ⟨_,_,rfl,dQ u [H 1,H 2]⟩ (Grw.alloc _ _ _ hn)
    simp[execOp,Act.eval,h0,h1,go_sem]
   ·have ho:=Option.some.inj hi;subst ho
    have h0:fE [H 1,H 2] (a.tmps[34]?.getD undef) u:=ay hA 10 34 (by kernel_rfl) rfl
    refine ig rfl rfl 117 #[.int .i64 (2:Nat),a.tmps[34]?.getD undef] ?_ hn (dY 2 (.inr (.inl rfl)) [H 1,H 2] _ u h0 (by simp) H2.out 4 rfl)
    simp[execOp,Act.eval,go_sem]
   ·have ho:=Option.some.inj hi;subst ho
    obtain⟨p0,e0,_,b0,_⟩:aaR w.heap.size qw (a.tmps[25]?.getD undef) u:=ay hA 1 25 (by kernel_rfl) rfl
    obtain⟨p1,c1,e1,b1,_,_⟩:bg 4 (aQ 4 [H 0]) (a.tmps[29]?.getD undef) u:=ay hA 5 29 (by kernel_rfl) rfl
    obtain⟨p2,c2,e2,b2,_,_⟩:bg 4 (aQ 2 [H 1,H 2]) (a.tmps[35]?.getD undef) u:=ay hA 11 35 (by kernel_rfl) rfl
    have hp:=nX u [(some ⟨p0,0,none⟩,4,4,qw),(p1,4,c1,(aQ 4 [H 0])),(p2,4,c2,(aQ 2 [H 1,H 2]))] (by
     intro p hp
     simp only[List.mem_cons,List.not_mem_nil,or_false] at hp
     rcases hp with rfl | rfl | rfl
     ·exact b0
     ·exact b1
     ·exact b2)
    refine aX (w':=u.alloc (.cells ([(some ⟨p0,0,none⟩,4,4,qw),(p1,4,c1,(aQ 4 [H 0])),(p2,4,c2,(aQ 2 [H 1,H 2]))].map pv).toArray 62)) rfl rfl (.slice (some ⟨u.heap.size,0,none⟩) 3 3) ?_ ⟨_,_,_,rfl,hp,by simp[mZ,jU,qw]⟩ (Grw.alloc _ _ _ hn)
    simp[execOp,Act.eval,e0,e1,e2,go_sem]
    all_goals rfl
   ·have ho:=Option.some.inj hi;subst ho
    have h0:l9 3 (jU H) (a.tmps[36]?.getD undef) u:=ay hA 12 36 (by kernel_rfl) rfl
    refine ig rfl rfl 116 #[.int .i64 ((12:Nat):Int),a.tmps[36]?.getD undef] ?_ hn ((ahc (12) 3 (jU H) _ u h0 (by omega) (by rw[iI];omega) (by omega) (kT H)).mono fun e w' ⟨v,e1,h1,h2⟩=>⟨v,e1,h1.1,h2⟩)
    simp[execOp,Act.eval,go_sem]
   ·have ho:=Option.some.inj hi;subst ho
    have h0:bg 12 (bW 12 (jU H)) (a.tmps[37]?.getD undef) u:=ay hA 13 37 (by kernel_rfl) rfl
    refine aX (w':=u) rfl rfl (a.tmps[37]?.getD undef) ?_ h0 (Grw.refl _ _)
    simp[execOp,Act.eval,go_sem]
  ·intro a u hF hR hG
   have q0:=qh hF 0 (by kernel_rfl)
   have q1:=qh hF 1 (by kernel_rfl)
   have q2:=qh hF 2 (by kernel_rfl)
   have q3:=qh hF 3 (by kernel_rfl)
   have q4:=qh hF 4 (by kernel_rfl)
   have q5:=qh hF 5 (by kernel_rfl)
   obtain⟨r0,r1,r2,r3,r4,r5⟩:bg 12 (bW 12 (jU H)) (a.tmps[6]?.getD undef) u:=by have:=hR 14 _ 6 rfl rfl;rwa [Array.getD_eq_getD_getElem?] at this
   have hB:=HK.out.drew.grw hG
   obtain⟨tm,df⟩:=a
   obtain⟨hs,hdf,_⟩:=hF
   have hs':tm.size=41:=hs
   have akR:df=[]:=hdf
   subst akR
   have he:tm=#[tm[0]?.getD undef,tm[1]?.getD undef,tm[2]?.getD undef,tm[3]?.getD undef,tm[4]?.getD undef,tm[5]?.getD undef,tm[6]?.getD undef,tm[7]?.getD undef,tm[8]?.getD undef,tm[9]?.getD undef,tm[10]?.getD undef,tm[11]?.getD undef,tm[12]?.getD undef,tm[13]?.getD undef,tm[14]?.getD undef,tm[15]?.getD undef,tm[16]?.getD undef,tm[17]?.getD undef,tm[18]?.getD undef,tm[19]?.getD undef,tm[20]?.getD undef,tm[21]?.getD undef,tm[22]?.getD undef,tm[23]?.getD undef,tm[24]?.getD undef,tm[25]?.getD undef,tm[26]?.getD undef,tm[27]?.getD undef,tm[28]?.getD undef,tm[29]?.getD undef,tm[30]?.getD undef,tm[31]?.getD undef,tm[32]?.getD undef,tm[33]?.getD undef,tm[34]?.getD undef,tm[35]?.getD undef,tm[36]?.getD undef,tm[37]?.getD undef,tm[38]?.getD undef,tm[39]?.getD undef,tm[40]?.getD undef]:=acw tm 41 hs'
   simp at q0
   simp at q1
   simp at q2
   simp at q3
   simp at q4
   simp at q5
   rw[he]
   simp only[q0,q1,q2,q3,q4,q5,r2]
   clear he hR hG hs hs' hdf q0 q1 q2 q3 q4 q5 r2
   go_wp2_with fail
   go_meet
   exact⟨r0,r1,rfl,by rw[ad4 (iI H)] at r3;exact r3,hB⟩
 case rest =>
  obtain⟨a0,c0,rfl,hh,hB⟩:=hcut
  clear HK
  go_wp2_with fail
  go_at_call 222
  refine(ah KS a0 c0 wc hB.out.2.1 hh.out).mono ?_
  rintro e w4 ⟨g,rfl,hg,hBl,hb⟩
  have HB:=hide (bF hB.out.2.1 hb (Nat.le_refl _))
  have hg':w.heap.size<=g:=Nat.le_trans hB.out.2.1.size hg
  clear KS hB hh hb
  go_wp2_with fail
  go_ret2
  exact⟨g,rfl,hg',hBl,HB.out⟩
def alb (q:Int) (ns:List Int):Bool:=jR 4 [q]&&jR 2 ns
def ajW (b:Nat) (q:Int) (ns:List Int):List Int:=bW (b - 4) (aQ 4 [q]++(aQ 2 [(ns.length:Int)]++aQ 2 ns))
def ai0 (b:Nat) (q:Int) (ns:List Int):List Int:=bW b (digits 4 ((ac6 (ajW b q ns):Nat):Int)++ajW b q ns)
def alc (b:Int) (q:Int) (ns:List Int):Int:=if (b=64\/b=128\/b=256\/b=512\/b=1024\/b=2048\/b=4096) then (if alb q ns=true then (if (b - 10) / 2<(ns.length:Int) then 5 else 0) else 3) else 1
def aiP:Nat->Int:=fun _=>0
theorem acZ (H:Nat->Int)(g1:Nat)(a:Option Addr)(len cap:Nat)(q:Int)(w:World)(hq:(q != 0)=true)(HT:Hid (∀ u,Below w.heap.size w u->Calls Tryz.prog 229 #[.slice a len cap] u fun e w'=>e=.returned (Hv H)/\Below u.heap.size u w'))(HW:Hid (∀ u,Below w.heap.size w u->Calls Tryz.prog 230 #[Hv H,.pointer (some ⟨g1,0,none⟩)] u fun e w'=>e=.returned (.tuple #[.slice none 0 0,.int .i64 q])/\Below u.heap.size u w')) :
  Calls Tryz.prog 228 #[.slice a len cap,.func (.func 229) #[] #[],.func (.func 230) #[] #[.pointer (some ⟨g1,0,none⟩)]] w fun e w'=>e=.returned (.tuple #[.agg #[.int .i64 0,.int .i64 0,.int .i64 0],.int .i64 4])/\Below w.heap.size w w':=by
 have hb0:Below w.heap.size w (w.alloc (.cells (#[.int .i64 0,.int .i64 0,.int .i64 0]) 96)):=(Below.refl _ w).alloc (Nat.le_refl _) _
 have HZ:=hide (Bl.new w (#[.int .i64 0,.int .i64 0,.int .i64 0]) 96)
 have HB:=hide hb0
 clear hb0
 go_enter Tryz.func228,Tryz.ntmps228
 go_wp2_with fail
 go_at_call 229
 refine(ah HT _ HB.out).mono ?_
 rintro e w1 ⟨rfl,hb⟩
 replace HZ:=hide ((HZ.out.call hb).alloc (.cells (Hc H) 96))
 replace HB:=hide ((bF HB.out hb (Nat.le_refl _)).alloc (bF HB.out hb (Nat.le_refl _)).size (.cells (Hc H) 96))
 have HV:=hide (Bl.new w1 (Hc H) 96)
 clear hb HT
 go_wp2_with fail
 go_at_call 230
 refine(ah HW _ HB.out).mono ?_
 rintro e w2 ⟨rfl,hb⟩
 replace HZ:=hide ((HZ.out.call hb).alloc (.cells (#[.int .i64 0,.int .i64 0,.int .i64 0]) 96))
 replace HB:=hide ((bF HB.out hb (Nat.le_refl _)).alloc (bF HB.out hb (Nat.le_refl _)).size (.cells (#[.int .i64 0,.int .i64 0,.int .i64 0]) 96))
 clear hb HW HV
 have z0:=HZ.out.cell 0 _ rfl
 have z1:=HZ.out.cell 1 _ rfl
 have z2:=HZ.out.cell 2 _ rfl
 have hz:=HZ.out.free
 go_wp2_with fail
 have hW:Below w.heap.size w (aI (w2.alloc (.cells (#[.int .i64 0,.int .i64 0,.int .i64 0]) 96)) w.heap.size 0 [.int .i64 0,.int .i64 0,.int .i64 0]):=aW (Nat.le_refl _) _ _ _ _ HB.out
 have hA:Bl (aI (w2.alloc (.cells (#[.int .i64 0,.int .i64 0,.int .i64 0]) 96)) w.heap.size 0 [.int .i64 0,.int .i64 0,.int .i64 0]) w.heap.size (#[.int .i64 0,.int .i64 0,.int .i64 0]) 96:=aU [.int .i64 0,.int .i64 0,.int .i64 0] _ _ HZ.out rfl
 change bodyPost _ _ _ _ _ (aI (w2.alloc (.cells (#[.int .i64 0,.int .i64 0,.int .i64 0]) 96)) w.heap.size 0 [.int .i64 0,.int .i64 0,.int .i64 0])
 generalize aI (w2.alloc (.cells (#[.int .i64 0,.int .i64 0,.int .i64 0]) 96)) w.heap.size 0 [.int .i64 0,.int .i64 0,.int .i64 0]=wf at *
 refine bodyPost_ret (v:=.tuple #[.agg #[.int .i64 0,.int .i64 0,.int .i64 0],.int .i64 4]) ?_ rfl ⟨rfl,hW⟩
 simp[results,Tryz.results228,go_sem,hA.cell 0 _ rfl,hA.cell 1 _ rfl,hA.cell 2 _ rfl]
theorem yh (H:Nat->Int)(g1:Nat)(a:Option Addr)(len cap:Nat)(w:World)(xs zs:List Int)(hh:Has w a len zs)(hz0:∀ z∈zs,0<=z/\z<=255)(hx:∀ z∈xs,0<=z/\z<=255)(he:decide (xs=zs)=false)(HT:Hid (∀ u,Below w.heap.size w u->Calls Tryz.prog 229 #[.slice a len cap] u fun e w'=>e=.returned (Hv H)/\Below u.heap.size u w'))(HW:Hid (∀ u,Below w.heap.size w u->Calls Tryz.prog 230 #[Hv H,.pointer (some ⟨g1,0,none⟩)] u fun e w'=>∃ a' n' c',e=.returned (.tuple #[.slice a' n' c',.int .i64 0])/\Hid (Has w' a' n' xs)/\Below u.heap.size u w')) :
  Calls Tryz.prog 228 #[.slice a len cap,.func (.func 229) #[] #[],.func (.func 230) #[] #[.pointer (some ⟨g1,0,none⟩)]] w fun e w'=>e=.returned (.tuple #[.agg #[.int .i64 0,.int .i64 0,.int .i64 0],.int .i64 4])/\Below w.heap.size w w':=by
 have HH:=hide hh
 clear hh
 have hb0:Below w.heap.size w (w.alloc (.cells (#[.int .i64 0,.int .i64 0,.int .i64 0]) 96)):=(Below.refl _ w).alloc (Nat.le_refl _) _
 have HZ:=hide (Bl.new w (#[.int .i64 0,.int .i64 0,.int .i64 0]) 96)
 have HB:=hide hb0
 clear hb0
 go_enter Tryz.func228,Tryz.ntmps228
 go_wp2_with fail
 go_at_call 229
 refine(ah HT _ HB.out).mono ?_
 rintro e w1 ⟨rfl,hb⟩
 replace HZ:=hide ((HZ.out.call hb).alloc (.cells (Hc H) 96))
 replace HB:=hide ((bF HB.out hb (Nat.le_refl _)).alloc (bF HB.out hb (Nat.le_refl _)).size (.cells (Hc H) 96))
 have HV:=hide (Bl.new w1 (Hc H) 96)
 clear hb HT
 go_wp2_with fail
 go_at_call 230
 refine(ah HW _ HB.out).mono ?_
 rintro e w2 ⟨a',n',c',rfl,hx',hb⟩
 replace HZ:=hide (HZ.out.call hb)
 replace HB:=hide (bF HB.out hb (Nat.le_refl _))
 replace HV:=hide (HV.out.call hb)
 have KE:Hid (Calls Tryz.prog 150 #[.slice a' n' c',.slice a len cap] w2 fun e w'=>e=.returned (.bool false)/\w2=w'):=by
  have:=pF a' a n' c' len cap xs zs w2 hx'.out ((HH.out).later HB.out) hx hz0
  rwa [he] at this
 clear hb HW hx'
 go_wp2_with fail
 go_at_call 150
 refine(ah KE).mono ?_
 rintro e w' ⟨rfl,rfl⟩
 clear KE
 replace HZ:=hide (HZ.out.alloc (.cells (#[.int .i64 0,.int .i64 0,.int .i64 0]) 96))
 replace HB:=hide (HB.out.alloc HB.out.size (.cells (#[.int .i64 0,.int .i64 0,.int .i64 0]) 96))
 clear HV HH hz0 hx he
 have z0:=HZ.out.cell 0 _ rfl
 have z1:=HZ.out.cell 1 _ rfl
 have z2:=HZ.out.cell 2 _ rfl
 have hz:=HZ.out.free
 go_wp2_with fail
 have hW:Below w.heap.size w (aI (w2.alloc (.cells (#[.int .i64 0,.int .i64 0,.int .i64 0]) 96)) w.heap.size 0 [.int .i64 0,.int .i64 0,.int .i64 0]):=aW (Nat.le_refl _) _ _ _ _ HB.out
 have hA:Bl (aI (w2.alloc (.cells (#[.int .i64 0,.int .i64 0,.int .i64 0]) 96)) w.heap.size 0 [.int .i64 0,.int .i64 0,.int .i64 0]) w.heap.size (#[.int .i64 0,.int .i64 0,.int .i64 0]) 96:=aU [.int .i64 0,.int .i64 0,.int .i64 0] _ _ HZ.out rfl
 change bodyPost _ _ _ _ _ (aI (w2.alloc (.cells (#[.int .i64 0,.int .i64 0,.int .i64 0]) 96)) w.heap.size 0 [.int .i64 0,.int .i64 0,.int .i64 0])
 generalize aI (w2.alloc (.cells (#[.int .i64 0,.int .i64 0,.int .i64 0]) 96)) w.heap.size 0 [.int .i64 0,.int .i64 0,.int .i64 0]=wf at *
 refine bodyPost_ret (v:=.tuple #[.agg #[.int .i64 0,.int .i64 0,.int .i64 0],.int .i64 4]) ?_ rfl ⟨rfl,hW⟩
 simp[results,Tryz.results228,go_sem,hA.cell 0 _ rfl,hA.cell 1 _ rfl,hA.cell 2 _ rfl]
theorem abe (H:Nat->Int)(g1:Nat)(a:Option Addr)(len cap:Nat)(w:World)(xs zs:List Int)(hh:Has w a len zs)(hz0:∀ z∈zs,0<=z/\z<=255)(hx:∀ z∈xs,0<=z/\z<=255)(he:decide (xs=zs)=true)(HT:Hid (∀ u,Below w.heap.size w u->Calls Tryz.prog 229 #[.slice a len cap] u fun e w'=>e=.returned (Hv H)/\Below u.heap.size u w'))(HW:Hid (∀ u,Below w.heap.size w u->Calls Tryz.prog 230 #[Hv H,.pointer (some ⟨g1,0,none⟩)] u fun e w'=>∃ a' n' c',e=.returned (.tuple #[.slice a' n' c',.int .i64 0])/\Hid (Has w' a' n' xs)/\Below u.heap.size u w')) :
  Calls Tryz.prog 228 #[.slice a len cap,.func (.func 229) #[] #[],.func (.func 230) #[] #[.pointer (some ⟨g1,0,none⟩)]] w fun e w'=>e=.returned (.tuple #[Hv H,.int .i64 0])/\Below w.heap.size w w':=by
 have HH:=hide hh
 clear hh
 have hb0:Below w.heap.size w (w.alloc (.cells (#[.int .i64 0,.int .i64 0,.int .i64 0]) 96)):=(Below.refl _ w).alloc (Nat.le_refl _) _
 have HZ:=hide (Bl.new w (#[.int .i64 0,.int .i64 0,.int .i64 0]) 96)
 have HB:=hide hb0
 clear hb0
 go_enter Tryz.func228,Tryz.ntmps228
 go_wp2_with fail
 go_at_call 229
 refine(ah HT _ HB.out).mono ?_
 rintro e w1 ⟨rfl,hb⟩
 replace HZ:=hide ((HZ.out.call hb).alloc (.cells (Hc H) 96))
 replace HB:=hide ((bF HB.out hb (Nat.le_refl _)).alloc (bF HB.out hb (Nat.le_refl _)).size (.cells (Hc H) 96))
 have HV:=hide (Bl.new w1 (Hc H) 96)
 clear hb HT
 go_wp2_with fail
 go_at_call 230
 refine(ah HW _ HB.out).mono ?_
 rintro e w2 ⟨a',n',c',rfl,hx',hb⟩
 replace HZ:=hide (HZ.out.call hb)
 replace HB:=hide (bF HB.out hb (Nat.le_refl _))
 replace HV:=hide (HV.out.call hb)
 have KE:Hid (Calls Tryz.prog 150 #[.slice a' n' c',.slice a len cap] w2 fun e w'=>e=.returned (.bool true)/\w2=w'):=by
  have:=pF a' a n' c' len cap xs zs w2 hx'.out ((HH.out).later HB.out) hx hz0
  rwa [he] at this
 clear hb HW hx'
 go_wp2_with fail
 go_at_call 150
 refine(ah KE).mono ?_
 rintro e w' ⟨rfl,rfl⟩
 clear KE
 clear HH hz0 hx he
 have z0:=HZ.out.cell 0 _ rfl
 have z1:=HZ.out.cell 1 _ rfl
 have z2:=HZ.out.cell 2 _ rfl
 have v0:=HV.out.cell 0 _ rfl
 have v1:=HV.out.cell 1 _ rfl
 have v2:=HV.out.cell 2 _ rfl
 have hz:=HZ.out.free
 go_wp2_with fail
 have hW:Below w.heap.size w (aI w2 w.heap.size 0 [.int .i64 (H 0),.int .i64 (H 1),.int .i64 (H 2)]):=aW (Nat.le_refl _) _ _ _ _ HB.out
 have hA:Bl (aI w2 w.heap.size 0 [.int .i64 (H 0),.int .i64 (H 1),.int .i64 (H 2)]) w.heap.size (Hc H) 96:=aU [.int .i64 (H 0),.int .i64 (H 1),.int .i64 (H 2)] _ _ HZ.out rfl
 change bodyPost _ _ _ _ _ (aI w2 w.heap.size 0 [.int .i64 (H 0),.int .i64 (H 1),.int .i64 (H 2)])
 generalize aI w2 w.heap.size 0 [.int .i64 (H 0),.int .i64 (H 1),.int .i64 (H 2)]=wf at *
 refine bodyPost_ret (v:=.tuple #[Hv H,.int .i64 0]) ?_ rfl ⟨rfl,hW⟩
 simp[results,Tryz.results228,go_sem,hA.cell 0 _ rfl,hA.cell 1 _ rfl,hA.cell 2 _ rfl]
def bZ (zs:List Int):Nat->Int
 | 0=>ak zs 4 4
 | 1=>ak zs 8 2
 | _=>ak zs 10 2
theorem jJ (a:Option Addr)(len cap:Nat)(zs:List Int)(w:World)(hr:Row w.heap.size w a len cap zs) :
  Calls Tryz.prog 229 #[.slice a len cap] w fun e w'=>e=.returned (Hv (bZ zs))/\Below w.heap.size w w':=by
 have KG:Hid (∀ (at' n:Int) (u:World),at'<=1000->Below w.heap.size w u->Calls Tryz.prog 186 #[.slice a len cap,.int .i64 at',.int .i64 n] u fun e w'=>e=.returned (.int .i64 (ak zs at' n))/\Below u.heap.size u w') :=
  fun at' n u h1 hb=>aav a len cap zs at' n u (hr.below hb hb.size) (by omega)
 have HZ:=hide (Bl.new w #[.int .i64 0,.int .i64 0,.int .i64 0] 96)
 have HB:=hide ((Below.refl _ w).alloc (Nat.le_refl _) (.cells #[.int .i64 0,.int .i64 0,.int .i64 0] 96))
 clear hr
 change Calls Tryz.prog 229 #[.slice a len cap] w fun e w'=>e=.returned (.agg #[.int .i64 (ak zs 4 4),.int .i64 (ak zs 8 2),.int .i64 (ak zs 10 2)])/\Below w.heap.size w w'
 go_enter Tryz.func229,Tryz.ntmps229
 go_wp2_with fail
 go_at_call 186
 refine(ah KG _ _ _ (by omega) HB.out).mono ?_
 rintro e w1 ⟨rfl,hb⟩
 replace HB:=hide (bF HB.out hb (Nat.le_refl _))
 replace HZ:=hide (HZ.out.call hb)
 clear hb
 go_wp2_with fail
 go_at_call 186
 refine(ah KG _ _ _ (by omega) HB.out).mono ?_
 rintro e w2 ⟨rfl,hb⟩
 replace HB:=hide (bF HB.out hb (Nat.le_refl _))
 replace HZ:=hide (HZ.out.call hb)
 clear hb
 go_wp2_with fail
 go_at_call 186
 refine(ah KG _ _ _ (by omega) HB.out).mono ?_
 rintro e w3 ⟨rfl,hb⟩
 replace HB:=hide (bF HB.out hb (Nat.le_refl _))
 replace HZ:=hide (HZ.out.call hb)
 clear hb
 have z0:=HZ.out.cell 0 _ rfl
 have z1:=HZ.out.cell 1 _ rfl
 have z2:=HZ.out.cell 2 _ rfl
 have hz:=HZ.out.free
 clear KG
 go_wp2_with fail
 have hW:Below w.heap.size w (aI w3 w.heap.size 0 [.int .i64 (ak zs 4 4),.int .i64 (ak zs 8 2),.int .i64 (ak zs 10 2)]):=aW (Nat.le_refl _) _ _ _ _ HB.out
 have hA:Bl (aI w3 w.heap.size 0 [.int .i64 (ak zs 4 4),.int .i64 (ak zs 8 2),.int .i64 (ak zs 10 2)]) w.heap.size #[.int .i64 (ak zs 4 4),.int .i64 (ak zs 8 2),.int .i64 (ak zs 10 2)] 96:=aU [.int .i64 (ak zs 4 4),.int .i64 (ak zs 8 2),.int .i64 (ak zs 10 2)] _ _ HZ.out rfl
 change bodyPost _ _ _ _ _ (aI w3 w.heap.size 0 [.int .i64 (ak zs 4 4),.int .i64 (ak zs 8 2),.int .i64 (ak zs 10 2)])
 generalize aI w3 w.heap.size 0 [.int .i64 (ak zs 4 4),.int .i64 (ak zs 8 2),.int .i64 (ak zs 10 2)]=wf at *
 refine bodyPost_ret (v:=.agg #[.int .i64 (ak zs 4 4),.int .i64 (ak zs 8 2),.int .i64 (ak zs 10 2)]) ?_ rfl ⟨rfl,hW⟩
 simp[results,Tryz.results229,go_sem,hA.cell 0 _ rfl,hA.cell 1 _ rfl,hA.cell 2 _ rfl]
theorem dh {zs:List Int}(hz:∀ z∈zs,0<=z/\z<=255)(at':Int)(n:Nat):0<=ak zs at' n/\ak zs at' n<256 ^ n:=by
 unfold ak
 have hp:(0:Int)<256 ^ n:=Int.pow_pos (by omega)
 split
 ·have hb:=vC ((zs.drop at'.toNat).take (n:Int).toNat) (fun z h=>hz z (List.mem_of_mem_drop (List.mem_of_mem_take h)))
  refine⟨hb.1,Int.lt_of_lt_of_le hb.2 ?_⟩
  have hle:((zs.drop at'.toNat).take (n:Int).toNat).length<=n:=by rw[List.length_take,Int.toNat_natCast];omega
  generalize ((zs.drop at'.toNat).take (n:Int).toNat).length=k at hle
  have h1:=Nat.pow_le_pow_right (n:=256) (by omega) hle
  have e1:((256 ^ k:Nat):Int)=256 ^ k:=by rw[Int.natCast_pow];rfl
  have e2:((256 ^ n:Nat):Int)=256 ^ n:=by rw[Int.natCast_pow];rfl
  rw[← e1,← e2]
  exact Int.ofNat_le.2 h1
 ·exact⟨Int.le_refl _,hp⟩
theorem adH {zs:List Int}(hz:∀ z∈zs,0<=z/\z<=255):ahg (bZ zs)=true:=by
 unfold ahg
 rw[Bool.and_eq_true,bT,bT]
 refine⟨fun v hv=>?_,fun v hv=>?_⟩
 ·simp only[List.mem_cons,List.not_mem_nil,or_false] at hv
  subst hv
  exact dh hz 4 4
 ·simp only[List.mem_cons,List.not_mem_nil,or_false] at hv
  rcases hv with rfl | rfl
  ·exact dh hz 8 2
  ·exact dh hz 10 2
theorem nI (H:Nat->Int)(g1:Nat)(a:Option Addr)(len cap:Nat)(w:World)(hc:w.cell? ⟨g1,0,none⟩=some (.slice a len cap))(q:Int)(S:Value->World->Prop)
  (K:Hid (∀ u,Below w.heap.size w u->Calls Tryz.prog 161 #[Hv H,.int .i64 (len:Int)] u fun e w'=>∃ a' n' c',e=.returned (.tuple #[.slice a' n' c',.int .i64 q])/\Hid (S (.slice a' n' c') w')/\Below u.heap.size u w')) :
  Calls Tryz.prog 230 #[Hv H,.pointer (some ⟨g1,0,none⟩)] w fun e w'=>∃ a' n' c',e=.returned (.tuple #[.slice a' n' c',.int .i64 q])/\Hid (S (.slice a' n' c') w')/\Below w.heap.size w w':=by
 have hb0:Below w.heap.size w (w.alloc (.cells (Hc H) 96)):=(Below.refl _ w).alloc (Nat.le_refl _) _
 have hc1:(w.alloc (.cells (Hc H) 96)).cell? ⟨g1,0,none⟩=some (.slice a len cap):=(hb0.cell (aH hc)).trans hc
 have K':=hide (K.out _ hb0)
 have HB:=hide hb0
 clear hc K hb0
 go_enter Tryz.func230,Tryz.ntmps230
 go_wp2_with fail
 go_at_call 161
 refine(ah K').mono ?_
 rintro e w1 ⟨a',n',c',rfl,hS,hb⟩
 replace HB:=hide (bF HB.out hb (Nat.le_refl _))
 clear hb K' hc1
 go_wp2_with fail
 go_ret2
 exact⟨a',n',c',rfl,hS,HB.out⟩
theorem wL {zs:List Int}{b:Nat}{L:List Int}(hL:L.length=12)(hb:16<=b):(uj b L).length=b:=by
 unfold uj
 exact eG (by rw[List.length_append,length_digits,hL];omega)
theorem uI {b:Nat}{L}(h:aeK L):∀ z∈uj b L,0<=z/\z<=255:=by
 refine oD _ _ fun z hz=>?_
 rcases List.mem_append.1 hz with hz | hz
 ·exact h z hz
 ·exact jS _ _ z hz
theorem qp (H:Nat->Int)(q:Int)(a:Option Addr)(len cap:Nat)(w:World)(K:Hid (∀ u,Below w.heap.size w u->u.cell? ⟨w.heap.size,0,none⟩=some (.slice a len cap)->Calls Tryz.prog 228 #[.slice a len cap,.func (.func 229) #[] #[],.func (.func 230) #[] #[.pointer (some ⟨w.heap.size,0,none⟩)]] u fun e w'=>e=.returned (.tuple #[Hv H,.int .i64 q])/\Below u.heap.size u w')) :
  Calls Tryz.prog 164 #[.slice a len cap] w fun e w'=>e=.returned (.tuple #[Hv H,.int .i64 q])/\Below w.heap.size w w':=by
 have hb1:Below w.heap.size w (w.alloc (.cells #[.slice a len cap] 62)):=(Below.refl _ w).alloc (Nat.le_refl _) _
 have hb2:Below w.heap.size w ((w.alloc (.cells #[.slice a len cap] 62)).alloc (.cells #[.int .i64 0,.int .i64 0,.int .i64 0] 96)):=hb1.alloc hb1.size _
 have HZ:Hid (Bl ((w.alloc (.cells #[.slice a len cap] 62)).alloc (.cells #[.int .i64 0,.int .i64 0,.int .i64 0] 96)) (w.heap.size+1) #[.int .i64 0,.int .i64 0,.int .i64 0] 96):=by
  have:=Bl.new (w.alloc (.cells #[.slice a len cap] 62)) #[.int .i64 0,.int .i64 0,.int .i64 0] 96
  have e:(w.alloc (.cells #[.slice a len cap] 62)).heap.size=w.heap.size+1:=by simp
  rw[e] at this
  exact this
 have hc:((w.alloc (.cells #[.slice a len cap] 62)).alloc (.cells #[.int .i64 0,.int .i64 0,.int .i64 0] 96)).cell? ⟨w.heap.size,0,none⟩=some (.slice a len cap):=((Bl.new w #[.slice a len cap] 62).alloc _).cell 0 _ rfl
 have K':=hide (K.out _ hb2 hc)
 have HB:=hide hb2
 clear K hb1 hb2
 go_enter Tryz.func164,Tryz.ntmps164
 go_wp2_with fail
 go_at_call 228
 refine(ah K').mono ?_
 rintro e w1 ⟨rfl,hb⟩
 replace HB:=hide (bF HB.out hb (Nat.le_refl _))
 replace HZ:=hide (HZ.out.call hb)
 clear hb K' hc
 have z0:=HZ.out.cell 0 _ rfl
 have z1:=HZ.out.cell 1 _ rfl
 have z2:=HZ.out.cell 2 _ rfl
 have hz:=HZ.out.free
 go_wp2_with fail
 have hW:Below w.heap.size w (aI w1 (w.heap.size+1) 0 [.int .i64 (H 0),.int .i64 (H 1),.int .i64 (H 2)]):=aW (by omega) _ _ _ _ HB.out
 have hA:Bl (aI w1 (w.heap.size+1) 0 [.int .i64 (H 0),.int .i64 (H 1),.int .i64 (H 2)]) (w.heap.size+1) #[.int .i64 (H 0),.int .i64 (H 1),.int .i64 (H 2)] 96:=aU [.int .i64 (H 0),.int .i64 (H 1),.int .i64 (H 2)] _ _ HZ.out rfl
 change bodyPost _ _ _ _ _ (aI w1 (w.heap.size+1) 0 [.int .i64 (H 0),.int .i64 (H 1),.int .i64 (H 2)])
 generalize aI w1 (w.heap.size+1) 0 [.int .i64 (H 0),.int .i64 (H 1),.int .i64 (H 2)]=wf at *
 refine bodyPost_ret (v:=.tuple #[Hv H,.int .i64 q]) ?_ rfl ⟨rfl,hW⟩
 simp[results,Tryz.results164,go_sem,hA.cell 0 _ rfl,hA.cell 1 _ rfl,hA.cell 2 _ rfl]
theorem uz (a:Option Addr)(len cap:Nat)(zs:List Int)(w:World)(hr:Row w.heap.size w a len cap zs)(hT:Tab w)(h:isSize (len:Int))(he:uj len (jU (bZ zs))=zs) :
  Calls Tryz.prog 164 #[.slice a len cap] w fun e w'=>e=.returned (.tuple #[Hv (bZ zs),.int .i64 0])/\Below w.heap.size w w':=by
 refine qp (bZ zs) 0 a len cap w fun u hb hc=>?_
 have hru:=hr.below hb hb.size
 have hTu:=hT.below hb (fJ hT)
 refine abe (bZ zs) w.heap.size a len cap u zs zs hru.has hr.aeO hr.aeO (by simp) (fun u2 hb2=>jJ a len cap zs u2 (hru.below hb2 hb2.size)) fun u2 hb2=>?_
 refine(nI (bZ zs) w.heap.size a len cap u2 ((hb2.cell (aH hc)).trans hc) 0 (fun v w'=>∃ a' n' c',v=.slice a' n' c'/\Has w' a' n' zs) fun u3 hb3=>?_).mono ?_
 ·refine(jQ (bZ zs) len u3 h (adH hr.aeO) ((hTu.below hb2 (fJ hTu)).below hb3 (fJ (hTu.below hb2 (fJ hTu))))).mono ?_
  rintro e w' ⟨g,rfl,hg,hB,hb⟩
  refine⟨_,_,_,rfl,⟨_,_,_,rfl,?_⟩,hb⟩
  rw[he] at hB
  exact hB.out.has hr.1
 ·rintro e w' ⟨a',n',c',rfl,hS,hb⟩
  obtain⟨a2,n2,c2,e2,hh⟩:=hS.out
  cases e2
  exact⟨_,_,_,rfl,hh,hb⟩
theorem xC (a:Option Addr)(len cap:Nat)(zs:List Int)(w:World)(hr:Row w.heap.size w a len cap zs)(hT:Tab w)(h:¬ (isSize (len:Int)/\uj len (jU (bZ zs))=zs)) :
  Calls Tryz.prog 164 #[.slice a len cap] w fun e w'=>e=.returned (.tuple #[Hv aiP,.int .i64 4])/\Below w.heap.size w w':=by
 refine qp aiP 4 a len cap w fun u hb hc=>?_
 have hru:=hr.below hb hb.size
 have hTu:=hT.below hb (fJ hT)
 have HT:Hid (∀ u2,Below u.heap.size u u2->Calls Tryz.prog 229 #[.slice a len cap] u2 fun e w'=>e=.returned (Hv (bZ zs))/\Below u2.heap.size u2 w'):=fun u2 hb2=>jJ a len cap zs u2 (hru.below hb2 hb2.size)
 by_cases hs:isSize (len:Int)
 ·have he:uj len (jU (bZ zs))≠zs:=fun e=>h ⟨hs,e⟩
  refine yh (bZ zs) w.heap.size a len cap u (uj len (jU (bZ zs))) zs hru.has hr.aeO (uI (kT _)) (decide_eq_false he) HT fun u2 hb2=>?_
  refine(nI (bZ zs) w.heap.size a len cap u2 ((hb2.cell (aH hc)).trans hc) 0 (fun v w'=>∃ a' n' c',v=.slice a' n' c'/\Has w' a' n' (uj len (jU (bZ zs)))) fun u3 hb3=>?_).mono ?_
  ·refine(jQ (bZ zs) len u3 hs (adH hr.aeO) ((hTu.below hb2 (fJ hTu)).below hb3 (fJ (hTu.below hb2 (fJ hTu))))).mono ?_
   rintro e w' ⟨g,rfl,hg,hB,hb⟩
   exact⟨_,_,_,rfl,⟨_,_,_,rfl,hB.out.has (wL (zs:=zs) (iI _) (by have:=gI hs;omega))⟩,hb⟩
  ·rintro e w' ⟨a',n',c',rfl,hS,hb⟩
   obtain⟨a2,n2,c2,e2,hh⟩:=hS.out
   cases e2
   exact⟨_,_,_,rfl,hh,hb⟩
 ·refine acZ (bZ zs) w.heap.size a len cap 1 u rfl HT fun u2 hb2=>?_
  refine(nI (bZ zs) w.heap.size a len cap u2 ((hb2.cell (aH hc)).trans hc) 1 (fun v w'=>v=.slice none 0 0) fun u3 hb3=>?_).mono ?_
  ·refine(ab5 (bZ zs) len u3 hs).mono ?_
   rintro e w' ⟨rfl,hb⟩
   exact⟨_,_,_,rfl,rfl,hb⟩
  ·rintro e w' ⟨a',n',c',rfl,hS,hb⟩
   have:=hS.out
   rw[this]
   exact⟨rfl,hb⟩
theorem ab9 (A B:List Int)(at0 wd:Nat)(v:Int)(hA:A.length=at0)(hw:wd=1\/wd=2\/wd=4)(h:0<=v/\v<256 ^ wd):ak (A++(digits wd v++B)) (at0:Int) (wd:Int)=v:=by
 unfold ak
 rw[if_pos (gW hw (by rw[List.length_append,List.length_append,length_digits,hA];omega))]
 rw[Int.toNat_natCast,Int.toNat_natCast,List.drop_append_of_le_length (by omega),List.drop_of_length_le (by omega),List.nil_append,List.take_append_of_le_length (by rw[length_digits];omega),List.take_of_length_le (by rw[length_digits];omega)]
 exact qB wd v h.1 h.2
def aeh:List (Nat×Int)->List Int
 | []=>[]
 | f::fs=>digits f.1 f.2++aeh fs
def aju:List (Nat×Int)->Nat->Nat
 | [],_=>0
 | _,0=>0
 | f::fs,k+1=>f.1+aju fs k
theorem eP:∀ (fs:List (Nat×Int)) (k:Nat) (wd:Nat) (v:Int) (pre R:List Int),fs[k]?=some (wd,v)->(wd=1\/wd=2\/wd=4)->0<=v/\v<256 ^ wd->ak (pre++(aeh fs++R)) ((pre.length+aju fs k:Nat):Int) (wd:Int)=v
 | [],k,wd,v,pre,R,h,hw,hv=>by cases h
 | f::fs,0,wd,v,pre,R,h,hw,hv=>by
  simp at h
  subst h
  rw[aeh,List.append_assoc]
  exact ab9 pre _ _ wd v (by simp[aju]) hw hv
 | f::fs,k+1,wd,v,pre,R,h,hw,hv=>by
  have ih:=eP fs k wd v (pre++digits f.1 f.2) R (by simpa using h) hw hv
  rw[List.append_assoc] at ih
  rw[aeh,List.append_assoc]
  rw[List.length_append,length_digits] at ih
  rw[aju,← Nat.add_assoc]
  exact ih
theorem fQ {wd}{ns:List Int}(h:jR wd ns=true)(v:Int)(hv:v∈ns):0<=v/\v<256 ^ wd:=bT.1 h v hv
theorem aga {H:Nat->Int}(hf:ahg H=true)(n:Nat):Hv (bZ (uj n (jU H)))=Hv H:=by
 unfold ahg at hf
 rw[Bool.and_eq_true] at hf
 obtain⟨R,hR⟩:∃ R,uj n (jU H)=qw++(aeh [(4,H 0),(2,H 1),(2,H 2)]++R):=⟨_,by simp only[uj,bW,jU,aQ,aeh,List.map_cons,List.map_nil,List.flatten_cons,List.flatten_nil,List.append_nil,List.append_assoc];rfl⟩
 rw[hR]
 have e0:ak (qw++(aeh [(4,H 0),(2,H 1),(2,H 2)]++R)) 4 4=H 0:=eP _ 0 4 (H 0) qw R rfl (by omega) (fQ hf.1 _ (by simp))
 have e1:ak (qw++(aeh [(4,H 0),(2,H 1),(2,H 2)]++R)) 8 2=H 1:=eP _ 1 2 (H 1) qw R rfl (by omega) (fQ hf.2 _ (by simp))
 have e2:ak (qw++(aeh [(4,H 0),(2,H 1),(2,H 2)]++R)) 10 2=H 2:=eP _ 2 2 (H 2) qw R rfl (by omega) (fQ hf.2 _ (by simp))
 simp only[Hv,bZ,e0,e1,e2]
theorem ab7 {H G:Nat->Int}(h:Hv H=Hv G):jU H=jU G:=by
 simp only[Hv,Value.agg.injEq,Array.mk.injEq,List.cons.injEq,Value.int.injEq,true_and,and_true] at h
 unfold jU
 rw[h.1,h.2.1,h.2.2]
end Go.Proofs.YtbofhdfhhbgdgaaGreatDoor
