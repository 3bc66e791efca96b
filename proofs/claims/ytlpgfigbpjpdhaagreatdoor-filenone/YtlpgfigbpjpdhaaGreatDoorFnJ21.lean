/- Joined: CHead, CHdr2, CDesc, CReadP, CTake, CUn, CBackH, CTakeD. -/
import Derived.Test.YtlpgfigbpjpdhaaGreatDoorFnJ20
import Derived.Test.YtlpgfigbpjpdhaaGreatDoorFnJ6
import Derived.Test.YtlpgfigbpjpdhaaGreatDoorFnJ1
import Derived.Test.YtlpgfigbpjpdhaaGreatDoorFnJ16
import Derived.Deep.RegionHeld3
/- ajF of ajB.summed, ajB.ah1 and ajB.Header. -/
namespace Go.Proofs.YtlpgfigbpjpdhaaGreatDoor
set_option maxRecDepth 100000
set_option maxHeartbeats 8000000
open Go.RowKit Go.Shelf
set_option linter.unusedVariables false
def uQ (n:Nat) (h:List Int):List Int:=dF n (h++digits 4 ((ac4 h:Nat):Int))
theorem adg (wd:Nat)(z:Int):aC wd [z]=digits wd z:=by simp[aC]
theorem afX {zs}(h:ae9 zs):iZ 4 [((ac4 zs:Nat):Int)]=true:=by
 have:=ac3 h
 rw[dO]
 intro v hv
 simp at hv
 subst hv
 omega
theorem aaP (a:Option Addr)(len cap:Nat)(zs:List Int)(block:Nat)(w:World)(h:Has w a len zs)(hby:ae9 zs)(hT:Tab w)(hl:len+4<=block)(hb:block<=4096) :
  Calls Tryz.prog 169 #[.slice a len cap,.int .i64 (block:Int)] w fun e w'=>∃ g,e=.returned (.slice (some ⟨g,0,none⟩) block block)/\w.heap.size<=g/\Hid (Block w' g (uQ block zs))/\Below w.heap.size w w':=by
 have hlen:=h.1
 have K1:=hide (sum_any a len cap zs w hT h (by omega) hby)
 have hf:=afX hby
 have HS:Hid (uQ block zs=dF block (zs++digits 4 ((ac4 zs:Nat):Int))):=rfl
 generalize ac4 zs=S at *
 have K2:Hid (Calls Tryz.prog 118 #[.int .i64 4,.slice (some ⟨w.heap.size,0,none⟩) 1 1] (w.alloc (zI (S:Int))) fun e w'=>∃ a4 c4,e=.returned (.slice a4 4 c4)/\Hid (Has w' a4 4 (digits 4 (S:Int))/\Below w.heap.size w w')):=by
  refine(oZ 4 (.inr (.inr rfl)) _ 1 1 [(S:Int)] _ (bK w [(S:Int)]) (by omega) hf 4 rfl).mono ?_
  rintro e w' ⟨a',c',rfl,hO,hb⟩
  rw[adg] at hO
  exact⟨a',c',rfl,hO.out.has,bH ((Below.refl _ w).alloc (Nat.le_refl _) _) hb (Nat.le_refl _)⟩
 have K3:Hid (∀ a4 c4 w1,Hid (Has w1 a4 4 (digits 4 (S:Int))/\Below w.heap.size w w1)->Calls Tryz.prog 117 #[.int .i64 (block:Int),.slice (some ⟨w1.heap.size,0,none⟩) 2 2] (w1.alloc (.cells #[.slice a len cap,.slice a4 4 c4] 33)) fun e w'=>∃ g,e=.returned (.slice (some ⟨g,0,none⟩) block block)/\w.heap.size<=g/\Hid (Block w' g (uQ block zs))/\Below w.heap.size w w'):=by
  intro a4 c4 w1 h1
  have hp:=kJ w1 [(a,len,cap,zs),(a4,4,c4,digits 4 (S:Int))] (by
   intro p hp
   simp at hp
   rcases hp with rfl | rfl
   ·exact h.later h1.out.2
   ·exact h1.out.1)
  have hall:nP [(a,len,cap,zs),(a4,4,c4,digits 4 (S:Int))]=zs++digits 4 (S:Int):=by simp[nP]
  refine(aa8 block _ 2 2 _ _ hp (by omega) (by rw[hall,List.length_append,length_digits];omega) (by omega)).mono ?_
  rintro e w' ⟨rfl,hB,hb⟩
  rw[hall] at hB
  refine⟨_,rfl,by have:=h1.out.2.size;simp;omega,?_,bH (h1.out.2.alloc h1.out.2.size _) hb (Nat.le_refl _)⟩
  rw[HS.out];exact hB
 clear h hby hT hf HS
 go_enter Tryz.func169,Tryz.ntmps169
 go_wp2_with fail
 go_at_call 227
 refine(ah K1).mono ?_
 rintro e w' ⟨rfl,rfl⟩
 go_wp2_with fail
 go_at_call 118
 refine(ah K2).mono ?_
 rintro e w1 ⟨a4,c4,rfl,h1⟩
 go_wp2_with fail
 go_at_call 117
 refine(ah K3 a4 c4 w1 h1).mono ?_
 rintro e w2 ⟨g,rfl,hg,hB,hb2⟩
 go_wp2_with fail
 go_ret
 exact⟨g,rfl,hg,hB,hb2⟩
theorem acB {b}(h:isSize b):dZ b 10 2 4=0:=by
 rcases h with rfl | rfl | rfl | rfl | rfl | rfl | rfl<;>decide +kernel
theorem vJ {b:Int}(h:¬ isSize b):dZ b 10 2 4=1:=pO (.inl h)
theorem aa9 (b:Int)(q:Int)(w:World)(h:dZ b 10 2 4=q)(r:Bool)(hr:(q==0)=r) :
  Calls Tryz.prog 168 #[.int .i64 b] w fun e w'=>e=.returned (.bool r)/\Below w.heap.size w w':=by
 have K:=hide (uj b 10 2 4 w)
 rw[h] at K
 generalize pI b 10 2 4=Q at *
 clear h
 go_enter Tryz.func168,Tryz.ntmps168
 go_wp2_with fail
 go_at_call 56
 refine(ah K).mono ?_
 rintro e w1 ⟨rfl,hb⟩
 have HB:=hide (hb.alloc hb.size (.cells (Pc Q) 24))
 clear K hb
 go_wp2_with fail
 go_ret
 exact⟨rfl,HB.out⟩
theorem abT (b:Int)(w:World)(h:isSize b):Calls Tryz.prog 168 #[.int .i64 b] w fun e w'=>e=.returned (.bool true)/\Below w.heap.size w w' :=
 aa9 b 0 w (acB h) true rfl
theorem aep (b:Int)(w:World)(h:¬ isSize b):Calls Tryz.prog 168 #[.int .i64 b] w fun e w'=>e=.returned (.bool false)/\Below w.heap.size w w' :=
 aa9 b 1 w (vJ h) false rfl
abbrev Hv (H:Nat->Int):Value:=.agg #[.int .i64 (H 0),.int .i64 (H 1),.int .i64 (H 2)]
abbrev Hc (H:Nat->Int):Array Value:=#[.int .i64 (H 0),.int .i64 (H 1),.int .i64 (H 2)]
def qP:List Int:=[83,76,79,71]
def jX (H:Nat->Int):List Int:=qP++(aC 4 [H 0]++aC 2 [H 1,H 2])
theorem iQ (H:Nat->Int):(jX H).length=12:=by simp[jX,qP,nC]
theorem ac9:ae9 qP:=by intro z hz;simp[qP] at hz;omega
theorem lu (H:Nat->Int):ae9 (jX H):=by
 intro z hz
 simp only[jX,List.mem_append] at hz
 rcases hz with hz | hz | hz
 ·exact ac9 z hz
 ·exact jH _ _ z hz
 ·exact jH _ _ z hz
def agF (H:Nat->Int):Bool:=iZ 4 [H 0]&&iZ 2 [H 1,H 2]
theorem ab8 (H:Nat->Int)(b:Int)(w:World)(h:¬ isSize b) :
  Calls Tryz.prog 106 #[Hv H,.int .i64 b] w fun e w'=>e=.returned (.tuple #[.slice none 0 0,.int .i64 1])/\Below w.heap.size w w':=by
 have K:Hid (∀ u,Calls Tryz.prog 168 #[.int .i64 b] u fun e w'=>e=.returned (.bool false)/\Below u.heap.size u w'):=fun u=>aep b u h
 have HK:=hide (Bx.start w (Hc H) 118)
 clear h
 go_enter Tryz.func106,Tryz.ntmps106
 go_wp2_with fail
 go_at_call 168
 refine(ah K _).mono ?_
 rintro e w1 ⟨rfl,hb⟩
 replace HK:=hide ((ah HK).call hb)
 clear K hb
 go_wp2_with fail
 go_ret2
 exact⟨rfl,HK.out.2.1⟩
theorem aa2 (wd:Nat)(hw:wd=2\/wd=4)(ns:List Int)(u:World)(hl:ns.length<=1000)(r:Bool)(hr:iZ wd ns=r) :
  Calls Tryz.prog 116 #[.int .i64 (wd:Int),.slice (some ⟨u.heap.size,0,none⟩) ns.length ns.length] (u.alloc (.cells (ns.map (Value.int .i64)).toArray 3)) fun e w'=>e=.returned (.bool r)/\Below u.heap.size u w':=by
 subst hr
 refine(zK wd hw _ ns.length ns.length ns _ (bK u ns) (by omega)).mono ?_
 rintro e w' ⟨rfl,rfl⟩
 exact⟨rfl,(Below.refl _ u).alloc (Nat.le_refl _) _⟩
theorem jU (H:Nat->Int)(b:Nat)(w:World)(h:isSize (b:Int))(hf:agF H=true)(hT:Tab w) :
  Calls Tryz.prog 106 #[Hv H,.int .i64 (b:Int)] w fun e w'=>∃ g,e=.returned (.tuple #[.slice (some ⟨g,0,none⟩) b b,.int .i64 0])/\w.heap.size<=g/\Hid (Block w' g (uQ b (jX H)))/\Below w.heap.size w w':=by
 have K:Hid (∀ u,Calls Tryz.prog 168 #[.int .i64 (b:Int)] u fun e w'=>e=.returned (.bool true)/\Below u.heap.size u w'):=fun u=>abT b u h
 have HK:=hide (Bx.start w (Hc H) 118)
 have hbb:=iE h
 unfold agF at hf
 rw[Bool.and_eq_true] at hf
 obtain⟨h4,h2⟩:=hf
 have F4:Hid (∀ u:World,Calls Tryz.prog 116 #[.int .i64 4,.slice (some ⟨u.heap.size,0,none⟩) 1 1] (u.alloc (zI (H 0))) fun e w'=>e=.returned (.bool true)/\Below u.heap.size u w') :=
  fun u=>aa2 4 (.inr rfl) [H 0] u (by simp) true h4
 have F2:Hid (∀ u:World,Calls Tryz.prog 116 #[.int .i64 2,.slice (some ⟨u.heap.size,0,none⟩) 2 2] (u.alloc (.cells #[.int .i64 (H 1),.int .i64 (H 2)] 3)) fun e w'=>e=.returned (.bool true)/\Below u.heap.size u w') :=
  fun u=>aa2 2 (.inl rfl) [H 1,H 2] u (by simp) true h2
 have KS:Hid (∀ a c u,Below w.heap.size w u->Has u a 12 (jX H)->Calls Tryz.prog 169 #[.slice a 12 c,.int .i64 (b:Int)] u fun e w'=>∃ g,e=.returned (.slice (some ⟨g,0,none⟩) b b)/\u.heap.size<=g/\Hid (Block w' g (uQ b (jX H)))/\Below u.heap.size u w') :=
  fun a c u hb hh=>aaP a 12 c (jX H) b u hh (lu H) (hT.below hb (gI hT)) (by omega) (by omega)
 have H4:=hide h4
 have H2:=hide h2
 clear h h4 h2 hT hbb
 go_enter Tryz.func106,Tryz.ntmps106
 go_wp2_with fail
 go_at_call 168
 refine(ah K _).mono ?_
 rintro e w1 ⟨rfl,hb⟩
 replace HK:=hide ((ah HK).call hb)
 have f0:=HK.out.1 0 _ rfl
 clear K hb
 go_wp2_with fail
 go_at_call 116
 refine(ah F4 _).mono ?_
 rintro e w2 ⟨rfl,hb⟩
 replace HK:=hide ((ah HK).call hb)
 clear f0
 have f1:=HK.out.1 1 _ rfl
 have f2:=HK.out.1 2 _ rfl
 clear hb F4
 go_wp2_with fail
 go_at_call 116
 refine(ah F2 _).mono ?_
 rintro e w3 ⟨rfl,hb⟩
 replace HK:=hide ((ah HK).call hb)
 clear f1 f2 hb F2
 go_upto_region 5 with fail
 go_cut [6] (fun c wx=>∃ a0 c0,c=.slice a0 12 c0/\Hid (Has wx a0 12 (jX H))/\Hid (Bx w (Hc H) wx))
 case first =>
  refine je (by kernel_rfl) w.heap.size [aaS w.heap.size qP,aaS w.heap.size qP,dQ (.pointer (some ⟨w.heap.size,0,none⟩)),dQ (.int .i64 (H 0)),bU [H 0],aS 4 (aC 4 [H 0]),dQ (.pointer (some ⟨w.heap.size,1,none⟩)),dQ (.int .i64 (H 1)),dQ (.pointer (some ⟨w.heap.size,2,none⟩)),dQ (.int .i64 (H 2)),bU [H 1,H 2],aS 4 (aC 2 [H 1,H 2]),jk 3 (jX H),aS 12 (dF 12 (jX H)),aS 12 (dF 12 (jX H))] ?_ (by kernel_rfl) (by kernel_rfl) ?_ ?_
  ·intro S hS
   simp only[List.mem_cons,List.not_mem_nil,or_false] at hS
   rcases hS with rfl | rfl | rfl | rfl | rfl | rfl | rfl | rfl | rfl | rfl | rfl | rfl | rfl | rfl | rfl<;>first | exact ug _ _ | exact lW _ _ _ | exact nT _ _ | exact pF _ _ | exact lV _ _ _
  ·intro i o a u hi hF hA hG
   have hB:=HK.out.drew.grw hG
   have hn:w.heap.size<=u.heap.size:=hB.2.1.size
   have tb:a.tmps[2]?.getD undef=.pointer (some ⟨w.heap.size,0,none⟩):=mF hF 2 (by kernel_rfl)
   have hlt:=(Array.getElem?_eq_some_iff.1 hi).1
   have hcs:i=0\/i=1\/i=2\/i=3\/i=4\/i=5\/i=6\/i=7\/i=8\/i=9\/i=10\/i=11\/i=12\/i=13\/i=14:=by simp at hlt;omega
   clear hlt
   rcases hcs with rfl | rfl | rfl | rfl | rfl | rfl | rfl | rfl | rfl | rfl | rfl | rfl | rfl | rfl | rfl
   ·have ho:=Option.some.inj hi;subst ho
    refine aI (w':=u.alloc (.cells (qP.map (Value.int .u8)).toArray 5)) rfl rfl (.slice (some ⟨u.heap.size,0,none⟩) 4 4) ?_ ⟨_,rfl,hn,afJ u qP _,acC _ _ _⟩ (Grw.alloc _ _ _ hn)
    simp[execOp,Act.eval,go_sem]
    rfl
   ·have ho:=Option.some.inj hi;subst ho
    have h0:aaS w.heap.size qP (a.tmps[24]?.getD undef) u:=aj hA 0 24 (by kernel_rfl) rfl
    obtain⟨u',hr,hg⟩:=af7 h0
    refine aI (w':=u') rfl rfl (a.tmps[24]?.getD undef) ?_ ((nT _ _) _ _ _ h0 hg) hg
    simp[execOp,Act.eval,hr,go_sem]
   ·have ho:=Option.some.inj hi;subst ho
    have h0:=tb
    refine aI (w':=u) rfl rfl (.pointer (some ⟨w.heap.size,0,none⟩)) ?_ rfl (Grw.refl _ _)
    simp[execOp,Act.eval,h0,go_sem]
   ·have ho:=Option.some.inj hi;subst ho
    have h0:a.tmps[26]?.getD undef=.pointer (some ⟨w.heap.size,0,none⟩):=aj hA 2 26 (by kernel_rfl) rfl
    have f0:=hB.1 0 _ rfl
    refine aI (w':=u) rfl rfl (.int .i64 (H 0)) ?_ rfl (Grw.refl _ _)
    simp[execOp,Act.eval,h0,f0,go_sem]
   ·have ho:=Option.some.inj hi;subst ho
    have h0:a.tmps[27]?.getD undef=.int .i64 (H 0):=aj hA 3 27 (by kernel_rfl) rfl
    refine aI (w':=u.alloc (.cells ([H 0].map (Value.int .i64)).toArray 3)) rfl rfl (.slice (some ⟨u.heap.size,0,none⟩) 1 1) ?_ ⟨_,_,rfl,bK u [H 0]⟩ (Grw.alloc _ _ _ hn)
    simp[execOp,Act.eval,h0,go_sem]
   ·have ho:=Option.some.inj hi;subst ho
    have h0:bU [H 0] (a.tmps[28]?.getD undef) u:=aj hA 4 28 (by kernel_rfl) rfl
    refine dP rfl rfl 118 #[.int .i64 (4:Nat),a.tmps[28]?.getD undef] ?_ hn (bC 4 (.inr (.inr rfl)) [H 0] _ u h0 (by simp) H4.out 4 rfl)
    simp[execOp,Act.eval,go_sem]
   ·have ho:=Option.some.inj hi;subst ho
    have h0:=tb
    refine aI (w':=u) rfl rfl (.pointer (some ⟨w.heap.size,1,none⟩)) ?_ rfl (Grw.refl _ _)
    simp[execOp,Act.eval,h0,go_sem]
   ·have ho:=Option.some.inj hi;subst ho
    have h0:a.tmps[30]?.getD undef=.pointer (some ⟨w.heap.size,1,none⟩):=aj hA 6 30 (by kernel_rfl) rfl
    have f0:=hB.1 1 _ rfl
    refine aI (w':=u) rfl rfl (.int .i64 (H 1)) ?_ rfl (Grw.refl _ _)
    simp[execOp,Act.eval,h0,f0,go_sem]
   ·have ho:=Option.some.inj hi;subst ho
    have h0:=tb
    refine aI (w':=u) rfl rfl (.pointer (some ⟨w.heap.size,2,none⟩)) ?_ rfl (Grw.refl _ _)
    simp[execOp,Act.eval,h0,go_sem]
   ·have ho:=Option.some.inj hi;subst ho
    have h0:a.tmps[32]?.getD undef=.pointer (some ⟨w.heap.size,2,none⟩):=aj hA 8 32 (by kernel_rfl) rfl
    have f0:=hB.1 2 _ rfl
    refine aI (w':=u) rfl rfl (.int .i64 (H 2)) ?_ rfl (Grw.refl _ _)
    simp[execOp,Act.eval,h0,f0,go_sem]
   ·have ho:=Option.some.inj hi;subst ho
    have h0:a.tmps[31]?.getD undef=.int .i64 (H 1):=aj hA 7 31 (by kernel_rfl) rfl
    have h1:a.tmps[33]?.getD undef=.int .i64 (H 2):=aj hA 9 33 (by kernel_rfl) rfl
    refine aI (w':=u.alloc (.cells ([H 1,H 2].map (Value.int .i64)).toArray 3)) rfl rfl (.slice (some ⟨u.heap.size,0,none⟩) 2 2) ?_ ⟨_,_,rfl,bK u [H 1,H 2]⟩ (Grw.alloc _ _ _ hn)
    simp[execOp,Act.eval,h0,h1,go_sem]
   ·have ho:=Option.some.inj hi;subst ho
    have h0:bU [H 1,H 2] (a.tmps[34]?.getD undef) u:=aj hA 10 34 (by kernel_rfl) rfl
    refine dP rfl rfl 118 #[.int .i64 (2:Nat),a.tmps[34]?.getD undef] ?_ hn (bC 2 (.inr (.inl rfl)) [H 1,H 2] _ u h0 (by simp) H2.out 4 rfl)
    simp[execOp,Act.eval,go_sem]
   ·have ho:=Option.some.inj hi;subst ho
    obtain⟨p0,e0,_,b0,_⟩:aaS w.heap.size qP (a.tmps[25]?.getD undef) u:=aj hA 1 25 (by kernel_rfl) rfl
    obtain⟨p1,c1,e1,b1,_,_⟩:aS 4 (aC 4 [H 0]) (a.tmps[29]?.getD undef) u:=aj hA 5 29 (by kernel_rfl) rfl
    obtain⟨p2,c2,e2,b2,_,_⟩:aS 4 (aC 2 [H 1,H 2]) (a.tmps[35]?.getD undef) u:=aj hA 11 35 (by kernel_rfl) rfl
    have hp:=kJ u [(some ⟨p0,0,none⟩,4,4,qP),(p1,4,c1,(aC 4 [H 0])),(p2,4,c2,(aC 2 [H 1,H 2]))] (by
     intro p hp
     simp only[List.mem_cons,List.not_mem_nil,or_false] at hp
     rcases hp with rfl | rfl | rfl
     ·exact b0
     ·exact b1
     ·exact b2)
    refine aI (w':=u.alloc (.cells ([(some ⟨p0,0,none⟩,4,4,qP),(p1,4,c1,(aC 4 [H 0])),(p2,4,c2,(aC 2 [H 1,H 2]))].map pv).toArray 33)) rfl rfl (.slice (some ⟨u.heap.size,0,none⟩) 3 3) ?_ ⟨_,_,_,rfl,hp,by simp[nP,jX,qP]⟩ (Grw.alloc _ _ _ hn)
    simp[execOp,Act.eval,e0,e1,e2,go_sem]
    all_goals rfl
   ·have ho:=Option.some.inj hi;subst ho
    have h0:jk 3 (jX H) (a.tmps[36]?.getD undef) u:=aj hA 12 36 (by kernel_rfl) rfl
    refine dP rfl rfl 117 #[.int .i64 ((12:Nat):Int),a.tmps[36]?.getD undef] ?_ hn ((adu (12) 3 (jX H) _ u h0 (by omega) (by rw[iQ];omega) (by omega) (lu H)).mono fun e w' ⟨v,e1,h1,h2⟩=>⟨v,e1,h1.1,h2⟩)
    simp[execOp,Act.eval,go_sem]
   ·have ho:=Option.some.inj hi;subst ho
    have h0:aS 12 (dF 12 (jX H)) (a.tmps[37]?.getD undef) u:=aj hA 13 37 (by kernel_rfl) rfl
    refine aI (w':=u) rfl rfl (a.tmps[37]?.getD undef) ?_ h0 (Grw.refl _ _)
    simp[execOp,Act.eval,go_sem]
  ·intro a u hF hR hG
   have q0:=mF hF 0 (by kernel_rfl)
   have q1:=mF hF 1 (by kernel_rfl)
   have q2:=mF hF 2 (by kernel_rfl)
   have q3:=mF hF 3 (by kernel_rfl)
   have q4:=mF hF 4 (by kernel_rfl)
   have q5:=mF hF 5 (by kernel_rfl)
   obtain⟨r0,r1,r2,r3,r4,r5⟩:aS 12 (dF 12 (jX H)) (a.tmps[6]?.getD undef) u:=by have:=hR 14 _ 6 rfl rfl;rwa [Array.getD_eq_getD_getElem?] at this
   have hB:=HK.out.drew.grw hG
   obtain⟨tm,df⟩:=a
   obtain⟨hs,hdf,_⟩:=hF
   have hs':tm.size=41:=hs
   have ajn:df=[]:=hdf
   subst ajn
   have he:tm=#[tm[0]?.getD undef,tm[1]?.getD undef,tm[2]?.getD undef,tm[3]?.getD undef,tm[4]?.getD undef,tm[5]?.getD undef,tm[6]?.getD undef,tm[7]?.getD undef,tm[8]?.getD undef,tm[9]?.getD undef,tm[10]?.getD undef,tm[11]?.getD undef,tm[12]?.getD undef,tm[13]?.getD undef,tm[14]?.getD undef,tm[15]?.getD undef,tm[16]?.getD undef,tm[17]?.getD undef,tm[18]?.getD undef,tm[19]?.getD undef,tm[20]?.getD undef,tm[21]?.getD undef,tm[22]?.getD undef,tm[23]?.getD undef,tm[24]?.getD undef,tm[25]?.getD undef,tm[26]?.getD undef,tm[27]?.getD undef,tm[28]?.getD undef,tm[29]?.getD undef,tm[30]?.getD undef,tm[31]?.getD undef,tm[32]?.getD undef,tm[33]?.getD undef,tm[34]?.getD undef,tm[35]?.getD undef,tm[36]?.getD undef,tm[37]?.getD undef,tm[38]?.getD undef,tm[39]?.getD undef,tm[40]?.getD undef]:=xX tm 41 hs'
   simp at q0
   simp at q1
   simp at q2
   simp at q3
   simp at q4
   simp at q5
   rw[he]
   simp only[q0,q1,q2,q3,q4,q5,r2]
   clear he hR hG hs hs' hdf q0 q1 q2 q3 q4 q5 r2
   go_wp2_with fail
   go_meet
   exact⟨r0,r1,rfl,by rw[adw (iQ H)] at r3;exact r3,hB⟩
 case rest =>
  obtain⟨a0,c0,rfl,hh,hB⟩:=hcut
  clear HK
  go_wp2_with fail
  go_at_call 169
  refine(ah KS a0 c0 wc hB.out.2.1 hh.out).mono ?_
  rintro e w4 ⟨g,rfl,hg,hBl,hb⟩
  have HB:=hide (bH hB.out.2.1 hb (Nat.le_refl _))
  have hg':w.heap.size<=g:=Nat.le_trans hB.out.2.1.size hg
  clear KS hB hh hb
  go_wp2_with fail
  go_ret2
  exact⟨g,rfl,hg',hBl,HB.out⟩
def ak8 (q:Int) (ns:List Int):Bool:=iZ 4 [q]&&iZ 2 ns
def aj9 (b:Nat) (q:Int) (ns:List Int):List Int:=dF (b - 4) (aC 4 [q]++(aC 2 [(ns.length:Int)]++aC 2 ns))
def ahU (b:Nat) (q:Int) (ns:List Int):List Int:=dF b (digits 4 ((ac4 (aj9 b q ns):Nat):Int)++aj9 b q ns)
def ak9 (b:Int) (q:Int) (ns:List Int):Int:=if (b=64\/b=128\/b=256\/b=512\/b=1024\/b=2048\/b=4096) then (if ak8 q ns=true then (if (b - 10) / 2<(ns.length:Int) then 5 else 0) else 3) else 1
def aiv:Nat->Int:=fun _=>0
theorem acS (H:Nat->Int)(g1:Nat)(a:Option Addr)(len cap:Nat)(q:Int)(w:World)(hq:(q != 0)=true)(HT:Hid (∀ u,Below w.heap.size w u->Calls Tryz.prog 178 #[.slice a len cap] u fun e w'=>e=.returned (Hv H)/\Below u.heap.size u w'))(HW:Hid (∀ u,Below w.heap.size w u->Calls Tryz.prog 179 #[Hv H,.pointer (some ⟨g1,0,none⟩)] u fun e w'=>e=.returned (.tuple #[.slice none 0 0,.int .i64 q])/\Below u.heap.size u w')) :
  Calls Tryz.prog 177 #[.slice a len cap,.func (.func 178) #[] #[],.func (.func 179) #[] #[.pointer (some ⟨g1,0,none⟩)]] w fun e w'=>e=.returned (.tuple #[.agg #[.int .i64 0,.int .i64 0,.int .i64 0],.int .i64 4])/\Below w.heap.size w w':=by
 have hb0:Below w.heap.size w (w.alloc (.cells (#[.int .i64 0,.int .i64 0,.int .i64 0]) 118)):=(Below.refl _ w).alloc (Nat.le_refl _) _
 have HZ:=hide (Bl.new w (#[.int .i64 0,.int .i64 0,.int .i64 0]) 118)
 have HB:=hide hb0
 clear hb0
 go_enter Tryz.func177,Tryz.ntmps177
 go_wp2_with fail
 go_at_call 178
 refine(ah HT _ HB.out).mono ?_
 rintro e w1 ⟨rfl,hb⟩
 replace HZ:=hide ((HZ.out.call hb).alloc (.cells (Hc H) 118))
 replace HB:=hide ((bH HB.out hb (Nat.le_refl _)).alloc (bH HB.out hb (Nat.le_refl _)).size (.cells (Hc H) 118))
 have HV:=hide (Bl.new w1 (Hc H) 118)
 clear hb HT
 go_wp2_with fail
 go_at_call 179
 refine(ah HW _ HB.out).mono ?_
 rintro e w2 ⟨rfl,hb⟩
 replace HZ:=hide ((HZ.out.call hb).alloc (.cells (#[.int .i64 0,.int .i64 0,.int .i64 0]) 118))
 replace HB:=hide ((bH HB.out hb (Nat.le_refl _)).alloc (bH HB.out hb (Nat.le_refl _)).size (.cells (#[.int .i64 0,.int .i64 0,.int .i64 0]) 118))
 clear hb HW HV
 have z0:=HZ.out.cell 0 _ rfl
 have z1:=HZ.out.cell 1 _ rfl
 have z2:=HZ.out.cell 2 _ rfl
 have hz:=HZ.out.free
 go_wp2_with fail
 have hW:Below w.heap.size w (au (w2.alloc (.cells (#[.int .i64 0,.int .i64 0,.int .i64 0]) 118)) w.heap.size 0 [.int .i64 0,.int .i64 0,.int .i64 0]):=aT (Nat.le_refl _) _ _ _ _ HB.out
 have hA:Bl (au (w2.alloc (.cells (#[.int .i64 0,.int .i64 0,.int .i64 0]) 118)) w.heap.size 0 [.int .i64 0,.int .i64 0,.int .i64 0]) w.heap.size (#[.int .i64 0,.int .i64 0,.int .i64 0]) 118:=aJ [.int .i64 0,.int .i64 0,.int .i64 0] _ _ HZ.out rfl
 change bodyPost _ _ _ _ _ (au (w2.alloc (.cells (#[.int .i64 0,.int .i64 0,.int .i64 0]) 118)) w.heap.size 0 [.int .i64 0,.int .i64 0,.int .i64 0])
 generalize au (w2.alloc (.cells (#[.int .i64 0,.int .i64 0,.int .i64 0]) 118)) w.heap.size 0 [.int .i64 0,.int .i64 0,.int .i64 0]=wf at *
 refine bodyPost_ret (v:=.tuple #[.agg #[.int .i64 0,.int .i64 0,.int .i64 0],.int .i64 4]) ?_ rfl ⟨rfl,hW⟩
 simp[results,Tryz.results177,go_sem,hA.cell 0 _ rfl,hA.cell 1 _ rfl,hA.cell 2 _ rfl]
theorem yK (H:Nat->Int)(g1:Nat)(a:Option Addr)(len cap:Nat)(w:World)(xs zs:List Int)(hh:Has w a len zs)(hz0:∀ z∈zs,0<=z/\z<=255)(hx:∀ z∈xs,0<=z/\z<=255)(he:decide (xs=zs)=false)(HT:Hid (∀ u,Below w.heap.size w u->Calls Tryz.prog 178 #[.slice a len cap] u fun e w'=>e=.returned (Hv H)/\Below u.heap.size u w'))(HW:Hid (∀ u,Below w.heap.size w u->Calls Tryz.prog 179 #[Hv H,.pointer (some ⟨g1,0,none⟩)] u fun e w'=>∃ a' n' c',e=.returned (.tuple #[.slice a' n' c',.int .i64 0])/\Hid (Has w' a' n' xs)/\Below u.heap.size u w')) :
  Calls Tryz.prog 177 #[.slice a len cap,.func (.func 178) #[] #[],.func (.func 179) #[] #[.pointer (some ⟨g1,0,none⟩)]] w fun e w'=>e=.returned (.tuple #[.agg #[.int .i64 0,.int .i64 0,.int .i64 0],.int .i64 4])/\Below w.heap.size w w':=by
 have HH:=hide hh
 clear hh
 have hb0:Below w.heap.size w (w.alloc (.cells (#[.int .i64 0,.int .i64 0,.int .i64 0]) 118)):=(Below.refl _ w).alloc (Nat.le_refl _) _
 have HZ:=hide (Bl.new w (#[.int .i64 0,.int .i64 0,.int .i64 0]) 118)
 have HB:=hide hb0
 clear hb0
 go_enter Tryz.func177,Tryz.ntmps177
 go_wp2_with fail
 go_at_call 178
 refine(ah HT _ HB.out).mono ?_
 rintro e w1 ⟨rfl,hb⟩
 replace HZ:=hide ((HZ.out.call hb).alloc (.cells (Hc H) 118))
 replace HB:=hide ((bH HB.out hb (Nat.le_refl _)).alloc (bH HB.out hb (Nat.le_refl _)).size (.cells (Hc H) 118))
 have HV:=hide (Bl.new w1 (Hc H) 118)
 clear hb HT
 go_wp2_with fail
 go_at_call 179
 refine(ah HW _ HB.out).mono ?_
 rintro e w2 ⟨a',n',c',rfl,hx',hb⟩
 replace HZ:=hide (HZ.out.call hb)
 replace HB:=hide (bH HB.out hb (Nat.le_refl _))
 replace HV:=hide (HV.out.call hb)
 have KE:Hid (Calls Tryz.prog 86 #[.slice a' n' c',.slice a len cap] w2 fun e w'=>e=.returned (.bool false)/\w2=w'):=by
  have:=qp a' a n' c' len cap xs zs w2 hx'.out ((HH.out).later HB.out) hx hz0
  rwa [he] at this
 clear hb HW hx'
 go_wp2_with fail
 go_at_call 86
 refine(ah KE).mono ?_
 rintro e w' ⟨rfl,rfl⟩
 clear KE
 replace HZ:=hide (HZ.out.alloc (.cells (#[.int .i64 0,.int .i64 0,.int .i64 0]) 118))
 replace HB:=hide (HB.out.alloc HB.out.size (.cells (#[.int .i64 0,.int .i64 0,.int .i64 0]) 118))
 clear HV HH hz0 hx he
 have z0:=HZ.out.cell 0 _ rfl
 have z1:=HZ.out.cell 1 _ rfl
 have z2:=HZ.out.cell 2 _ rfl
 have hz:=HZ.out.free
 go_wp2_with fail
 have hW:Below w.heap.size w (au (w2.alloc (.cells (#[.int .i64 0,.int .i64 0,.int .i64 0]) 118)) w.heap.size 0 [.int .i64 0,.int .i64 0,.int .i64 0]):=aT (Nat.le_refl _) _ _ _ _ HB.out
 have hA:Bl (au (w2.alloc (.cells (#[.int .i64 0,.int .i64 0,.int .i64 0]) 118)) w.heap.size 0 [.int .i64 0,.int .i64 0,.int .i64 0]) w.heap.size (#[.int .i64 0,.int .i64 0,.int .i64 0]) 118:=aJ [.int .i64 0,.int .i64 0,.int .i64 0] _ _ HZ.out rfl
 change bodyPost _ _ _ _ _ (au (w2.alloc (.cells (#[.int .i64 0,.int .i64 0,.int .i64 0]) 118)) w.heap.size 0 [.int .i64 0,.int .i64 0,.int .i64 0])
 generalize au (w2.alloc (.cells (#[.int .i64 0,.int .i64 0,.int .i64 0]) 118)) w.heap.size 0 [.int .i64 0,.int .i64 0,.int .i64 0]=wf at *
 refine bodyPost_ret (v:=.tuple #[.agg #[.int .i64 0,.int .i64 0,.int .i64 0],.int .i64 4]) ?_ rfl ⟨rfl,hW⟩
 simp[results,Tryz.results177,go_sem,hA.cell 0 _ rfl,hA.cell 1 _ rfl,hA.cell 2 _ rfl]
theorem abd (H:Nat->Int)(g1:Nat)(a:Option Addr)(len cap:Nat)(w:World)(xs zs:List Int)(hh:Has w a len zs)(hz0:∀ z∈zs,0<=z/\z<=255)(hx:∀ z∈xs,0<=z/\z<=255)(he:decide (xs=zs)=true)(HT:Hid (∀ u,Below w.heap.size w u->Calls Tryz.prog 178 #[.slice a len cap] u fun e w'=>e=.returned (Hv H)/\Below u.heap.size u w'))(HW:Hid (∀ u,Below w.heap.size w u->Calls Tryz.prog 179 #[Hv H,.pointer (some ⟨g1,0,none⟩)] u fun e w'=>∃ a' n' c',e=.returned (.tuple #[.slice a' n' c',.int .i64 0])/\Hid (Has w' a' n' xs)/\Below u.heap.size u w')) :
  Calls Tryz.prog 177 #[.slice a len cap,.func (.func 178) #[] #[],.func (.func 179) #[] #[.pointer (some ⟨g1,0,none⟩)]] w fun e w'=>e=.returned (.tuple #[Hv H,.int .i64 0])/\Below w.heap.size w w':=by
 have HH:=hide hh
 clear hh
 have hb0:Below w.heap.size w (w.alloc (.cells (#[.int .i64 0,.int .i64 0,.int .i64 0]) 118)):=(Below.refl _ w).alloc (Nat.le_refl _) _
 have HZ:=hide (Bl.new w (#[.int .i64 0,.int .i64 0,.int .i64 0]) 118)
 have HB:=hide hb0
 clear hb0
 go_enter Tryz.func177,Tryz.ntmps177
 go_wp2_with fail
 go_at_call 178
 refine(ah HT _ HB.out).mono ?_
 rintro e w1 ⟨rfl,hb⟩
 replace HZ:=hide ((HZ.out.call hb).alloc (.cells (Hc H) 118))
 replace HB:=hide ((bH HB.out hb (Nat.le_refl _)).alloc (bH HB.out hb (Nat.le_refl _)).size (.cells (Hc H) 118))
 have HV:=hide (Bl.new w1 (Hc H) 118)
 clear hb HT
 go_wp2_with fail
 go_at_call 179
 refine(ah HW _ HB.out).mono ?_
 rintro e w2 ⟨a',n',c',rfl,hx',hb⟩
 replace HZ:=hide (HZ.out.call hb)
 replace HB:=hide (bH HB.out hb (Nat.le_refl _))
 replace HV:=hide (HV.out.call hb)
 have KE:Hid (Calls Tryz.prog 86 #[.slice a' n' c',.slice a len cap] w2 fun e w'=>e=.returned (.bool true)/\w2=w'):=by
  have:=qp a' a n' c' len cap xs zs w2 hx'.out ((HH.out).later HB.out) hx hz0
  rwa [he] at this
 clear hb HW hx'
 go_wp2_with fail
 go_at_call 86
 refine(ah KE).mono ?_
 rintro e w' ⟨rfl,rfl⟩
 clear KE
 clear HH hz0 hx he
 have z0:=HZ.out.cell 0 _ rfl
 have z1:=HZ.out.cell 1 _ rfl
 have z2:=HZ.out.cell 2 _ rfl
 have v0:=HV.out.cell 0 _ rfl
 have v1:=HV.out.cell 1 _ rfl
 have v2:=HV.out.cell 2 _ rfl
 have hz:=HZ.out.free
 go_wp2_with fail
 have hW:Below w.heap.size w (au w2 w.heap.size 0 [.int .i64 (H 0),.int .i64 (H 1),.int .i64 (H 2)]):=aT (Nat.le_refl _) _ _ _ _ HB.out
 have hA:Bl (au w2 w.heap.size 0 [.int .i64 (H 0),.int .i64 (H 1),.int .i64 (H 2)]) w.heap.size (Hc H) 118:=aJ [.int .i64 (H 0),.int .i64 (H 1),.int .i64 (H 2)] _ _ HZ.out rfl
 change bodyPost _ _ _ _ _ (au w2 w.heap.size 0 [.int .i64 (H 0),.int .i64 (H 1),.int .i64 (H 2)])
 generalize au w2 w.heap.size 0 [.int .i64 (H 0),.int .i64 (H 1),.int .i64 (H 2)]=wf at *
 refine bodyPost_ret (v:=.tuple #[Hv H,.int .i64 0]) ?_ rfl ⟨rfl,hW⟩
 simp[results,Tryz.results177,go_sem,hA.cell 0 _ rfl,hA.cell 1 _ rfl,hA.cell 2 _ rfl]
def dA (zs:List Int):Nat->Int
 | 0=>ak zs 4 4
 | 1=>ak zs 8 2
 | _=>ak zs 10 2
theorem jJ (a:Option Addr)(len cap:Nat)(zs:List Int)(w:World)(hr:Row w.heap.size w a len cap zs) :
  Calls Tryz.prog 178 #[.slice a len cap] w fun e w'=>e=.returned (Hv (dA zs))/\Below w.heap.size w w':=by
 have KG:Hid (∀ (at' n:Int) (u:World),at'<=1000->Below w.heap.size w u->Calls Tryz.prog 211 #[.slice a len cap,.int .i64 at',.int .i64 n] u fun e w'=>e=.returned (.int .i64 (ak zs at' n))/\Below u.heap.size u w') :=
  fun at' n u h1 hb=>aa0 a len cap zs at' n u (hr.below hb hb.size) (by omega)
 have HZ:=hide (Bl.new w #[.int .i64 0,.int .i64 0,.int .i64 0] 118)
 have HB:=hide ((Below.refl _ w).alloc (Nat.le_refl _) (.cells #[.int .i64 0,.int .i64 0,.int .i64 0] 118))
 clear hr
 change Calls Tryz.prog 178 #[.slice a len cap] w fun e w'=>e=.returned (.agg #[.int .i64 (ak zs 4 4),.int .i64 (ak zs 8 2),.int .i64 (ak zs 10 2)])/\Below w.heap.size w w'
 go_enter Tryz.func178,Tryz.ntmps178
 go_wp2_with fail
 go_at_call 211
 refine(ah KG _ _ _ (by omega) HB.out).mono ?_
 rintro e w1 ⟨rfl,hb⟩
 replace HB:=hide (bH HB.out hb (Nat.le_refl _))
 replace HZ:=hide (HZ.out.call hb)
 clear hb
 go_wp2_with fail
 go_at_call 211
 refine(ah KG _ _ _ (by omega) HB.out).mono ?_
 rintro e w2 ⟨rfl,hb⟩
 replace HB:=hide (bH HB.out hb (Nat.le_refl _))
 replace HZ:=hide (HZ.out.call hb)
 clear hb
 go_wp2_with fail
 go_at_call 211
 refine(ah KG _ _ _ (by omega) HB.out).mono ?_
 rintro e w3 ⟨rfl,hb⟩
 replace HB:=hide (bH HB.out hb (Nat.le_refl _))
 replace HZ:=hide (HZ.out.call hb)
 clear hb
 have z0:=HZ.out.cell 0 _ rfl
 have z1:=HZ.out.cell 1 _ rfl
 have z2:=HZ.out.cell 2 _ rfl
 have hz:=HZ.out.free
 clear KG
 go_wp2_with fail
 have hW:Below w.heap.size w (au w3 w.heap.size 0 [.int .i64 (ak zs 4 4),.int .i64 (ak zs 8 2),.int .i64 (ak zs 10 2)]):=aT (Nat.le_refl _) _ _ _ _ HB.out
 have hA:Bl (au w3 w.heap.size 0 [.int .i64 (ak zs 4 4),.int .i64 (ak zs 8 2),.int .i64 (ak zs 10 2)]) w.heap.size #[.int .i64 (ak zs 4 4),.int .i64 (ak zs 8 2),.int .i64 (ak zs 10 2)] 118:=aJ [.int .i64 (ak zs 4 4),.int .i64 (ak zs 8 2),.int .i64 (ak zs 10 2)] _ _ HZ.out rfl
 change bodyPost _ _ _ _ _ (au w3 w.heap.size 0 [.int .i64 (ak zs 4 4),.int .i64 (ak zs 8 2),.int .i64 (ak zs 10 2)])
 generalize au w3 w.heap.size 0 [.int .i64 (ak zs 4 4),.int .i64 (ak zs 8 2),.int .i64 (ak zs 10 2)]=wf at *
 refine bodyPost_ret (v:=.agg #[.int .i64 (ak zs 4 4),.int .i64 (ak zs 8 2),.int .i64 (ak zs 10 2)]) ?_ rfl ⟨rfl,hW⟩
 simp[results,Tryz.results178,go_sem,hA.cell 0 _ rfl,hA.cell 1 _ rfl,hA.cell 2 _ rfl]
theorem dG {zs:List Int}(hz:∀ z∈zs,0<=z/\z<=255)(at':Int)(n:Nat):0<=ak zs at' n/\ak zs at' n<256 ^ n:=by
 unfold ak
 have hp:(0:Int)<256 ^ n:=Int.pow_pos (by omega)
 split
 ·have hb:=vY ((zs.drop at'.toNat).take (n:Int).toNat) (fun z h=>hz z (List.mem_of_mem_drop (List.mem_of_mem_take h)))
  refine⟨hb.1,Int.lt_of_lt_of_le hb.2 ?_⟩
  have hle:((zs.drop at'.toNat).take (n:Int).toNat).length<=n:=by rw[List.length_take,Int.toNat_natCast];omega
  generalize ((zs.drop at'.toNat).take (n:Int).toNat).length=k at hle
  have h1:=Nat.pow_le_pow_right (n:=256) (by omega) hle
  have e1:((256 ^ k:Nat):Int)=256 ^ k:=by rw[Int.natCast_pow];rfl
  have e2:((256 ^ n:Nat):Int)=256 ^ n:=by rw[Int.natCast_pow];rfl
  rw[← e1,← e2]
  exact Int.ofNat_le.2 h1
 ·exact⟨Int.le_refl _,hp⟩
theorem adB {zs:List Int}(hz:∀ z∈zs,0<=z/\z<=255):agF (dA zs)=true:=by
 unfold agF
 rw[Bool.and_eq_true,dO,dO]
 refine⟨fun v hv=>?_,fun v hv=>?_⟩
 ·simp only[List.mem_cons,List.not_mem_nil,or_false] at hv
  subst hv
  exact dG hz 4 4
 ·simp only[List.mem_cons,List.not_mem_nil,or_false] at hv
  rcases hv with rfl | rfl
  ·exact dG hz 8 2
  ·exact dG hz 10 2
theorem ou (H:Nat->Int)(g1:Nat)(a:Option Addr)(len cap:Nat)(w:World)(hc:w.cell? ⟨g1,0,none⟩=some (.slice a len cap))(q:Int)(S:Value->World->Prop)
  (K:Hid (∀ u,Below w.heap.size w u->Calls Tryz.prog 106 #[Hv H,.int .i64 (len:Int)] u fun e w'=>∃ a' n' c',e=.returned (.tuple #[.slice a' n' c',.int .i64 q])/\Hid (S (.slice a' n' c') w')/\Below u.heap.size u w')) :
  Calls Tryz.prog 179 #[Hv H,.pointer (some ⟨g1,0,none⟩)] w fun e w'=>∃ a' n' c',e=.returned (.tuple #[.slice a' n' c',.int .i64 q])/\Hid (S (.slice a' n' c') w')/\Below w.heap.size w w':=by
 have hb0:Below w.heap.size w (w.alloc (.cells (Hc H) 118)):=(Below.refl _ w).alloc (Nat.le_refl _) _
 have hc1:(w.alloc (.cells (Hc H) 118)).cell? ⟨g1,0,none⟩=some (.slice a len cap):=(hb0.cell (aF hc)).trans hc
 have K':=hide (K.out _ hb0)
 have HB:=hide hb0
 clear hc K hb0
 go_enter Tryz.func179,Tryz.ntmps179
 go_wp2_with fail
 go_at_call 106
 refine(ah K').mono ?_
 rintro e w1 ⟨a',n',c',rfl,hS,hb⟩
 replace HB:=hide (bH HB.out hb (Nat.le_refl _))
 clear hb K' hc1
 go_wp2_with fail
 go_ret2
 exact⟨a',n',c',rfl,hS,HB.out⟩
theorem xG {zs:List Int}{b:Nat}{L:List Int}(hL:L.length=12)(hb:16<=b):(uQ b L).length=b:=by
 unfold uQ
 exact dR (by rw[List.length_append,length_digits,hL];omega)
theorem vH {b:Nat}{L}(h:ae9 L):∀ z∈uQ b L,0<=z/\z<=255:=by
 refine pU _ _ fun z hz=>?_
 rcases List.mem_append.1 hz with hz | hz
 ·exact h z hz
 ·exact qx _ _ z hz
theorem qO (H:Nat->Int)(q:Int)(a:Option Addr)(len cap:Nat)(w:World)(K:Hid (∀ u,Below w.heap.size w u->u.cell? ⟨w.heap.size,0,none⟩=some (.slice a len cap)->Calls Tryz.prog 177 #[.slice a len cap,.func (.func 178) #[] #[],.func (.func 179) #[] #[.pointer (some ⟨w.heap.size,0,none⟩)]] u fun e w'=>e=.returned (.tuple #[Hv H,.int .i64 q])/\Below u.heap.size u w')) :
  Calls Tryz.prog 110 #[.slice a len cap] w fun e w'=>e=.returned (.tuple #[Hv H,.int .i64 q])/\Below w.heap.size w w':=by
 have hb1:Below w.heap.size w (w.alloc (.cells #[.slice a len cap] 33)):=(Below.refl _ w).alloc (Nat.le_refl _) _
 have hb2:Below w.heap.size w ((w.alloc (.cells #[.slice a len cap] 33)).alloc (.cells #[.int .i64 0,.int .i64 0,.int .i64 0] 118)):=hb1.alloc hb1.size _
 have HZ:Hid (Bl ((w.alloc (.cells #[.slice a len cap] 33)).alloc (.cells #[.int .i64 0,.int .i64 0,.int .i64 0] 118)) (w.heap.size+1) #[.int .i64 0,.int .i64 0,.int .i64 0] 118):=by
  have:=Bl.new (w.alloc (.cells #[.slice a len cap] 33)) #[.int .i64 0,.int .i64 0,.int .i64 0] 118
  have e:(w.alloc (.cells #[.slice a len cap] 33)).heap.size=w.heap.size+1:=by simp
  rw[e] at this
  exact this
 have hc:((w.alloc (.cells #[.slice a len cap] 33)).alloc (.cells #[.int .i64 0,.int .i64 0,.int .i64 0] 118)).cell? ⟨w.heap.size,0,none⟩=some (.slice a len cap):=((Bl.new w #[.slice a len cap] 33).alloc _).cell 0 _ rfl
 have K':=hide (K.out _ hb2 hc)
 have HB:=hide hb2
 clear K hb1 hb2
 go_enter Tryz.func110,Tryz.ntmps110
 go_wp2_with fail
 go_at_call 177
 refine(ah K').mono ?_
 rintro e w1 ⟨rfl,hb⟩
 replace HB:=hide (bH HB.out hb (Nat.le_refl _))
 replace HZ:=hide (HZ.out.call hb)
 clear hb K' hc
 have z0:=HZ.out.cell 0 _ rfl
 have z1:=HZ.out.cell 1 _ rfl
 have z2:=HZ.out.cell 2 _ rfl
 have hz:=HZ.out.free
 go_wp2_with fail
 have hW:Below w.heap.size w (au w1 (w.heap.size+1) 0 [.int .i64 (H 0),.int .i64 (H 1),.int .i64 (H 2)]):=aT (by omega) _ _ _ _ HB.out
 have hA:Bl (au w1 (w.heap.size+1) 0 [.int .i64 (H 0),.int .i64 (H 1),.int .i64 (H 2)]) (w.heap.size+1) #[.int .i64 (H 0),.int .i64 (H 1),.int .i64 (H 2)] 118:=aJ [.int .i64 (H 0),.int .i64 (H 1),.int .i64 (H 2)] _ _ HZ.out rfl
 change bodyPost _ _ _ _ _ (au w1 (w.heap.size+1) 0 [.int .i64 (H 0),.int .i64 (H 1),.int .i64 (H 2)])
 generalize au w1 (w.heap.size+1) 0 [.int .i64 (H 0),.int .i64 (H 1),.int .i64 (H 2)]=wf at *
 refine bodyPost_ret (v:=.tuple #[Hv H,.int .i64 q]) ?_ rfl ⟨rfl,hW⟩
 simp[results,Tryz.results110,go_sem,hA.cell 0 _ rfl,hA.cell 1 _ rfl,hA.cell 2 _ rfl]
theorem vk (a:Option Addr)(len cap:Nat)(zs:List Int)(w:World)(hr:Row w.heap.size w a len cap zs)(hT:Tab w)(h:isSize (len:Int))(he:uQ len (jX (dA zs))=zs) :
  Calls Tryz.prog 110 #[.slice a len cap] w fun e w'=>e=.returned (.tuple #[Hv (dA zs),.int .i64 0])/\Below w.heap.size w w':=by
 refine qO (dA zs) 0 a len cap w fun u hb hc=>?_
 have hru:=hr.below hb hb.size
 have hTu:=hT.below hb (gI hT)
 refine abd (dA zs) w.heap.size a len cap u zs zs hru.has hr.aeD hr.aeD (by simp) (fun u2 hb2=>jJ a len cap zs u2 (hru.below hb2 hb2.size)) fun u2 hb2=>?_
 refine(ou (dA zs) w.heap.size a len cap u2 ((hb2.cell (aF hc)).trans hc) 0 (fun v w'=>∃ a' n' c',v=.slice a' n' c'/\Has w' a' n' zs) fun u3 hb3=>?_).mono ?_
 ·refine(jU (dA zs) len u3 h (adB hr.aeD) ((hTu.below hb2 (gI hTu)).below hb3 (gI (hTu.below hb2 (gI hTu))))).mono ?_
  rintro e w' ⟨g,rfl,hg,hB,hb⟩
  refine⟨_,_,_,rfl,⟨_,_,_,rfl,?_⟩,hb⟩
  rw[he] at hB
  exact hB.out.has hr.1
 ·rintro e w' ⟨a',n',c',rfl,hS,hb⟩
  obtain⟨a2,n2,c2,e2,hh⟩:=hS.out
  cases e2
  exact⟨_,_,_,rfl,hh,hb⟩
theorem xW (a:Option Addr)(len cap:Nat)(zs:List Int)(w:World)(hr:Row w.heap.size w a len cap zs)(hT:Tab w)(h:¬ (isSize (len:Int)/\uQ len (jX (dA zs))=zs)) :
  Calls Tryz.prog 110 #[.slice a len cap] w fun e w'=>e=.returned (.tuple #[Hv aiv,.int .i64 4])/\Below w.heap.size w w':=by
 refine qO aiv 4 a len cap w fun u hb hc=>?_
 have hru:=hr.below hb hb.size
 have hTu:=hT.below hb (gI hT)
 have HT:Hid (∀ u2,Below u.heap.size u u2->Calls Tryz.prog 178 #[.slice a len cap] u2 fun e w'=>e=.returned (Hv (dA zs))/\Below u2.heap.size u2 w'):=fun u2 hb2=>jJ a len cap zs u2 (hru.below hb2 hb2.size)
 by_cases hs:isSize (len:Int)
 ·have he:uQ len (jX (dA zs))≠zs:=fun e=>h ⟨hs,e⟩
  refine yK (dA zs) w.heap.size a len cap u (uQ len (jX (dA zs))) zs hru.has hr.aeD (vH (lu _)) (decide_eq_false he) HT fun u2 hb2=>?_
  refine(ou (dA zs) w.heap.size a len cap u2 ((hb2.cell (aF hc)).trans hc) 0 (fun v w'=>∃ a' n' c',v=.slice a' n' c'/\Has w' a' n' (uQ len (jX (dA zs)))) fun u3 hb3=>?_).mono ?_
  ·refine(jU (dA zs) len u3 hs (adB hr.aeD) ((hTu.below hb2 (gI hTu)).below hb3 (gI (hTu.below hb2 (gI hTu))))).mono ?_
   rintro e w' ⟨g,rfl,hg,hB,hb⟩
   exact⟨_,_,_,rfl,⟨_,_,_,rfl,hB.out.has (xG (zs:=zs) (iQ _) (by have:=iE hs;omega))⟩,hb⟩
  ·rintro e w' ⟨a',n',c',rfl,hS,hb⟩
   obtain⟨a2,n2,c2,e2,hh⟩:=hS.out
   cases e2
   exact⟨_,_,_,rfl,hh,hb⟩
 ·refine acS (dA zs) w.heap.size a len cap 1 u rfl HT fun u2 hb2=>?_
  refine(ou (dA zs) w.heap.size a len cap u2 ((hb2.cell (aF hc)).trans hc) 1 (fun v w'=>v=.slice none 0 0) fun u3 hb3=>?_).mono ?_
  ·refine(ab8 (dA zs) len u3 hs).mono ?_
   rintro e w' ⟨rfl,hb⟩
   exact⟨_,_,_,rfl,rfl,hb⟩
  ·rintro e w' ⟨a',n',c',rfl,hS,hb⟩
   have:=hS.out
   rw[this]
   exact⟨rfl,hb⟩
theorem abB (A B:List Int)(at0 wd:Nat)(v:Int)(hA:A.length=at0)(hw:wd=1\/wd=2\/wd=4)(h:0<=v/\v<256 ^ wd):ak (A++(digits wd v++B)) (at0:Int) (wd:Int)=v:=by
 unfold ak
 rw[if_pos (kM hw (by rw[List.length_append,List.length_append,length_digits,hA];omega))]
 rw[Int.toNat_natCast,Int.toNat_natCast,List.drop_append_of_le_length (by omega),List.drop_of_length_le (by omega),List.nil_append,List.take_append_of_le_length (by rw[length_digits];omega),List.take_of_length_le (by rw[length_digits];omega)]
 exact abr wd v h.1 h.2
def aec:List (Nat×Int)->List Int
 | []=>[]
 | f::fs=>digits f.1 f.2++aec fs
def aiS:List (Nat×Int)->Nat->Nat
 | [],_=>0
 | _,0=>0
 | f::fs,k+1=>f.1+aiS fs k
theorem fO:∀ (fs:List (Nat×Int)) (k:Nat) (wd:Nat) (v:Int) (pre R:List Int),fs[k]?=some (wd,v)->(wd=1\/wd=2\/wd=4)->0<=v/\v<256 ^ wd->ak (pre++(aec fs++R)) ((pre.length+aiS fs k:Nat):Int) (wd:Int)=v
 | [],k,wd,v,pre,R,h,hw,hv=>by cases h
 | f::fs,0,wd,v,pre,R,h,hw,hv=>by
  simp at h
  subst h
  rw[aec,List.append_assoc]
  exact abB pre _ _ wd v (by simp[aiS]) hw hv
 | f::fs,k+1,wd,v,pre,R,h,hw,hv=>by
  have ih:=fO fs k wd v (pre++digits f.1 f.2) R (by simpa using h) hw hv
  rw[List.append_assoc] at ih
  rw[aec,List.append_assoc]
  rw[List.length_append,length_digits] at ih
  rw[aiS,← Nat.add_assoc]
  exact ih
theorem gZ {wd}{ns:List Int}(h:iZ wd ns=true)(v:Int)(hv:v∈ns):0<=v/\v<256 ^ wd:=dO.1 h v hv
theorem afH {H:Nat->Int}(hf:agF H=true)(n:Nat):Hv (dA (uQ n (jX H)))=Hv H:=by
 unfold agF at hf
 rw[Bool.and_eq_true] at hf
 obtain⟨R,hR⟩:∃ R,uQ n (jX H)=qP++(aec [(4,H 0),(2,H 1),(2,H 2)]++R):=⟨_,by simp only[uQ,dF,jX,aC,aec,List.map_cons,List.map_nil,List.flatten_cons,List.flatten_nil,List.append_nil,List.append_assoc];rfl⟩
 rw[hR]
 have e0:ak (qP++(aec [(4,H 0),(2,H 1),(2,H 2)]++R)) 4 4=H 0:=fO _ 0 4 (H 0) qP R rfl (by omega) (gZ hf.1 _ (by simp))
 have e1:ak (qP++(aec [(4,H 0),(2,H 1),(2,H 2)]++R)) 8 2=H 1:=fO _ 1 2 (H 1) qP R rfl (by omega) (gZ hf.2 _ (by simp))
 have e2:ak (qP++(aec [(4,H 0),(2,H 1),(2,H 2)]++R)) 10 2=H 2:=fO _ 2 2 (H 2) qP R rfl (by omega) (gZ hf.2 _ (by simp))
 simp only[Hv,dA,e0,e1,e2]
theorem abA {H G:Nat->Int}(h:Hv H=Hv G):jX H=jX G:=by
 simp only[Hv,Value.agg.injEq,Array.mk.injEq,List.cons.injEq,Value.int.injEq,true_and,and_true] at h
 unfold jX
 rw[h.1,h.2.1,h.2.2]
def aha (zs:List Int) (n:Nat):List Int:=(List.range n).map (fun (i:Nat)=>ak zs (10+2*(i:Int)) 2)
end Go.Proofs.YtlpgfigbpjpdhaaGreatDoor
