/- Joined: CDir, CName2, CNameA, CDir2, EBytes. -/
import Derived.Test.YtefdkpbmeoakgaaGreatDoorDnJ19
/- Contract of aiu.alF: the sixteen bytes. -/
namespace Go.Proofs.YtefdkpbmeoakgaaGreatDoor
set_option maxRecDepth 100000
set_option maxHeartbeats 8000000
open Go.RowKit Go.Shelf
set_option linter.unusedVariables false
abbrev jO (i:Int) (s:ByteArray):Value:=.agg #[.int .i64 i,.string s]
abbrev Dc (i:Int) (s:ByteArray):Array Value:=#[.int .i64 i,.string s]
def iZ (i:Int) (s:ByteArray):List Int:=aH 2 [i]++iF s
theorem iY (i:Int)(s:ByteArray):(iZ i s).length=2+s.size:=by rw[iZ,List.length_append,jB,jd];rfl
theorem qo (i:Int)(s:ByteArray):∀ z∈iZ i s,0<=z/\z<=255:=by
 intro z hz
 rcases List.mem_append.1 hz with hz | hz
 ·exact iJ _ _ z hz
 ·exact xP _ z hz
theorem zU (wd:Nat)(hw:wd=2\/wd=4)(z:Int)(u:World)(r:Bool)(hr:iD wd [z]=r) :
  Calls Tryz.prog 80 #[.int .i64 (wd:Int),.slice (some ⟨u.heap.size,0,none⟩) 1 1] (u.alloc (zI z)) fun e w'=>e=.returned (.bool r)/\Below u.heap.size u w':=by
 subst hr
 refine(uG wd hw _ 1 1 [z] _ (aU u [z]) (by omega)).mono ?_
 rintro e w' ⟨rfl,rfl⟩
 exact⟨rfl,(Below.refl _ u).alloc (Nat.le_refl _) _⟩
theorem xu (i:Int)(s:ByteArray)(w:World)(hi:i≠0)(hs:s.size<=13)(hf:iD 2 [i]=true)(KN:Hid (∀ u,Calls Tryz.prog 52 #[.string s] u fun e w'=>e=.returned (.int .i64 0)/\Below u.heap.size u w')) :
  Calls Tryz.prog 53 #[jO i s] w fun e w'=>∃ a c,e=.returned (.tuple #[.slice a 16 c,.int .i64 0])/\Hid (Has w' a 16 (aZ 16 (iZ i s))/\16<=c/\c<=9223372036854775807)/\Below w.heap.size w w':=by
 have HK:=hide (Bx.start w (Dc i s) 70)
 have F2:Hid (∀ u:World,Calls Tryz.prog 80 #[.int .i64 2,.slice (some ⟨u.heap.size,0,none⟩) 1 1] (u.alloc (zI i)) fun e w'=>e=.returned (.bool true)/\Below u.heap.size u w'):=fun u=>zU 2 (.inl rfl) i u true hf
 have HF:=hide hf
 have HS:=hide hs
 have hi1:(i==0)=false:=by simpa using hi
 have hi2:(i != 0)=true:=by simpa using hi
 clear hf hi hs
 go_enter Tryz.func53,Tryz.ntmps53
 go_wp2_with fail
 go_at_call 52
 refine(ah KN _).mono ?_
 rintro e w1 ⟨rfl,hb⟩
 replace HK:=hide ((ah HK).call hb)
 have f0:=HK.out.1 0 _ rfl
 clear hb KN
 go_wp2_with fail
 go_at_call 80
 refine(ah F2 _).mono ?_
 rintro e w2 ⟨rfl,hb⟩
 replace HK:=hide ((ah HK).call hb)
 clear f0 hb F2
 go_upto_region 7 with fail
 go_cut [2,3] (fun c q wx=>∃ a0 c0,c=.slice a0 16 c0/\q=.int .i64 0/\Hid (Has wx a0 16 (aZ 16 (iZ i s))/\16<=c0/\c0<=9223372036854775807)/\Hid (Bx w (Dc i s) wx))
 case first =>
  refine dU (by kernel_rfl) w.heap.size [bG (.pointer (some ⟨w.heap.size,0,none⟩)),bG (.int .i64 (i)),bC [i],aC 2 (aH 2 [i]),bG (.pointer (some ⟨w.heap.size,1,none⟩)),bG (.string s),aC s.size (iF s),dX 2 (iZ i s),aC 16 (aZ 16 (iZ i s)),aC 16 (aZ 16 (iZ i s)),bG (.int .i64 0)] ?_ (by kernel_rfl) (by kernel_rfl) ?_ ?_
  ·intro S hS
   simp only[List.mem_cons,List.not_mem_nil,or_false] at hS
   rcases hS with rfl | rfl | rfl | rfl | rfl | rfl | rfl | rfl | rfl | rfl | rfl<;>first | exact jK _ _ | exact gI _ _ _ | exact iT _ _ | exact iK _ _ | exact gG _ _ _
  ·intro i o a u hi hF hA hG
   have hB:=HK.out.drew.grw hG
   have hn:w.heap.size<=u.heap.size:=hB.2.1.size
   have tb:a.tmps[1]?.getD undef=.pointer (some ⟨w.heap.size,0,none⟩):=iq hF 1 (by kernel_rfl)
   have hlt:=(Array.getElem?_eq_some_iff.1 hi).1
   have hcs:i=0\/i=1\/i=2\/i=3\/i=4\/i=5\/i=6\/i=7\/i=8\/i=9\/i=10:=by simp at hlt;omega
   clear hlt
   rcases hcs with rfl | rfl | rfl | rfl | rfl | rfl | rfl | rfl | rfl | rfl | rfl
   ·have ho:=Option.some.inj hi;subst ho
    have h0:=tb
    refine aB (w':=u) rfl rfl (.pointer (some ⟨w.heap.size,0,none⟩)) ?_ rfl (Grw.refl _ _)
    simp[execOp,Act.eval,h0,go_sem]
   ·have ho:=Option.some.inj hi;subst ho
    have h0:a.tmps[26]?.getD undef=.pointer (some ⟨w.heap.size,0,none⟩):=aj hA 0 26 (by kernel_rfl) rfl
    have f0:=hB.1 0 _ rfl
    refine aB (w':=u) rfl rfl (.int .i64 (i)) ?_ rfl (Grw.refl _ _)
    simp[execOp,Act.eval,h0,f0,go_sem]
   ·have ho:=Option.some.inj hi;subst ho
    have h0:a.tmps[27]?.getD undef=.int .i64 (i):=aj hA 1 27 (by kernel_rfl) rfl
    refine aB (w':=u.alloc (.cells ([i].map (Value.int .i64)).toArray 3)) rfl rfl (.slice (some ⟨u.heap.size,0,none⟩) 1 1) ?_ ⟨_,_,rfl,aU u [i]⟩ (Grw.alloc _ _ _ hn)
    simp[execOp,Act.eval,h0,go_sem]
   ·have ho:=Option.some.inj hi;subst ho
    have h0:bC [i] (a.tmps[28]?.getD undef) u:=aj hA 2 28 (by kernel_rfl) rfl
    refine bK rfl rfl 82 #[.int .i64 (2:Nat),a.tmps[28]?.getD undef] ?_ hn (aT 2 (.inr (.inl rfl)) [i] _ u h0 (by simp) HF.out 2 rfl)
    simp[execOp,Act.eval,go_sem]
   ·have ho:=Option.some.inj hi;subst ho
    have h0:=tb
    refine aB (w':=u) rfl rfl (.pointer (some ⟨w.heap.size,1,none⟩)) ?_ rfl (Grw.refl _ _)
    simp[execOp,Act.eval,h0,go_sem]
   ·have ho:=Option.some.inj hi;subst ho
    have h0:a.tmps[30]?.getD undef=.pointer (some ⟨w.heap.size,1,none⟩):=aj hA 4 30 (by kernel_rfl) rfl
    have f0:=hB.1 1 _ rfl
    refine aB (w':=u) rfl rfl (.string s) ?_ rfl (Grw.refl _ _)
    simp[execOp,Act.eval,h0,f0,go_sem]
   ·have ho:=Option.some.inj hi;subst ho
    have h0:a.tmps[31]?.getD undef=.string s:=aj hA 5 31 (by kernel_rfl) rfl
    obtain⟨v,u',hr,hS,hg⟩:=jm w.heap.size s u hn (by have:=HS.out;omega)
    refine aB (w':=u') rfl rfl v ?_ hS hg
    simp[execOp,Act.eval,h0,hr,go_sem]
   ·have ho:=Option.some.inj hi;subst ho
    obtain⟨p0,c0,e0,b0,_,_⟩:aC 2 (aH 2 [i]) (a.tmps[29]?.getD undef) u:=aj hA 3 29 (by kernel_rfl) rfl
    obtain⟨p1,c1,e1,b1,_,_⟩:aC s.size (iF s) (a.tmps[32]?.getD undef) u:=aj hA 6 32 (by kernel_rfl) rfl
    have hp:=gV u [(p0,2,c0,(aH 2 [i])),(p1,s.size,c1,(iF s))] (by
     intro p hp
     simp only[List.mem_cons,List.not_mem_nil,or_false] at hp
     rcases hp with rfl | rfl
     ·exact b0
     ·exact b1)
    refine aB (w':=u.alloc (.cells ([(p0,2,c0,(aH 2 [i])),(p1,s.size,c1,(iF s))].map pv).toArray 71)) rfl rfl (.slice (some ⟨u.heap.size,0,none⟩) 2 2) ?_ ⟨_,_,_,rfl,hp,by simp[lK,iZ]⟩ (Grw.alloc _ _ _ hn)
    simp[execOp,Act.eval,e0,e1,go_sem]
    all_goals rfl
   ·have ho:=Option.some.inj hi;subst ho
    have h0:dX 2 (iZ i s) (a.tmps[33]?.getD undef) u:=aj hA 7 33 (by kernel_rfl) rfl
    refine bK rfl rfl 81 #[.int .i64 ((16:Nat):Int),a.tmps[33]?.getD undef] ?_ hn ((rG (16) 2 (iZ i s) _ u h0 (by omega) (by rw[iY];have:=HS.out;omega) (by omega) (qo i s)).mono fun e w' ⟨v,e1,h1,h2⟩=>⟨v,e1,h1.1,h2⟩)
    simp[execOp,Act.eval,go_sem]
   ·have ho:=Option.some.inj hi;subst ho
    have h0:aC 16 (aZ 16 (iZ i s)) (a.tmps[34]?.getD undef) u:=aj hA 8 34 (by kernel_rfl) rfl
    refine aB (w':=u) rfl rfl (a.tmps[34]?.getD undef) ?_ h0 (Grw.refl _ _)
    simp[execOp,Act.eval,go_sem]
   ·have ho:=Option.some.inj hi;subst ho
    refine aB (w':=u) rfl rfl (.int .i64 0) ?_ rfl (Grw.refl _ _)
    simp[execOp,Act.eval,go_sem]
  ·intro a u hF hR hG
   have q0:=iq hF 0 (by kernel_rfl)
   have q1:=iq hF 1 (by kernel_rfl)
   obtain⟨r0,r1,r2,r3,r4,r5⟩:aC 16 (aZ 16 (iZ i s)) (a.tmps[2]?.getD undef) u:=by have:=hR 9 _ 2 rfl rfl;rwa [Array.getD_eq_getD_getElem?] at this
   obtain p3:a.tmps[3]?.getD undef=(.int .i64 0):=by have:=hR 10 _ 3 rfl rfl;rwa [Array.getD_eq_getD_getElem?] at this
   have hB:=HK.out.drew.grw hG
   obtain⟨tm,df⟩:=a
   obtain⟨hs,hdf,_⟩:=hF
   have hs':tm.size=35:=hs
   have adN:df=[]:=hdf
   subst adN
   have he:tm=#[tm[0]?.getD undef,tm[1]?.getD undef,tm[2]?.getD undef,tm[3]?.getD undef,tm[4]?.getD undef,tm[5]?.getD undef,tm[6]?.getD undef,tm[7]?.getD undef,tm[8]?.getD undef,tm[9]?.getD undef,tm[10]?.getD undef,tm[11]?.getD undef,tm[12]?.getD undef,tm[13]?.getD undef,tm[14]?.getD undef,tm[15]?.getD undef,tm[16]?.getD undef,tm[17]?.getD undef,tm[18]?.getD undef,tm[19]?.getD undef,tm[20]?.getD undef,tm[21]?.getD undef,tm[22]?.getD undef,tm[23]?.getD undef,tm[24]?.getD undef,tm[25]?.getD undef,tm[26]?.getD undef,tm[27]?.getD undef,tm[28]?.getD undef,tm[29]?.getD undef,tm[30]?.getD undef,tm[31]?.getD undef,tm[32]?.getD undef,tm[33]?.getD undef,tm[34]?.getD undef]:=lT tm 35 hs'
   simp at q0
   simp at q1
   rw[he]
   simp only[q0,q1,r2,p3]
   clear he hR hG hs hs' hdf q0 q1 r2 p3
   go_wp2_with fail
   go_meet
   exact⟨r0,r1,rfl,rfl,⟨r3,r5.1,r5.2⟩,hB⟩
 case rest =>
  obtain⟨a0,c0,rfl,rfl,hh,hB⟩:=hcut
  clear HK
  go_wp2_with fail
  go_ret2
  exact⟨a0,c0,rfl,hh,hB.out.2.1⟩
def gZ (z:Int):Bool:=(decide (97<=z)&&decide (z<=122))||(decide (48<=z)&&decide (z<=57))||decide (z=46)||decide (z=95)||decide (z=45)
theorem kC (z:Int)(w:World)(h0:0<=z)(h1:z<=255) :
  Calls Tryz.prog 85 #[.int .u8 z] w fun e w'=>e=.returned (.bool (gZ z))/\w=w':=by
 have hlast:∀ b,(gZ z=b)->Hid (gZ z=b):=fun b h=>h
 obtain⟨b,hb⟩:∃ b,gZ z=b:=⟨_,rfl⟩
 have HB:=hlast b hb
 rw[hb]
 clear hlast
 unfold gZ at hb
 by_cases a1:97<=z
 ·by_cases a2:z<=122
  ·obtain rfl:b=true:=by
    rw[← hb]
    simp
    omega
   have d0:decide (97<=z)=true:=by simp;omega
   clear hb
   go_enter Tryz.func85,Tryz.ntmps85
   go_wp2
   go_ret
   exact⟨rfl,rfl⟩
  ·obtain rfl:b=false:=by
    rw[← hb]
    simp
    omega
   have d0:decide (97<=z)=true:=by simp;omega
   have d1:decide (z<=122)=false:=by simp;omega
   have d2:decide (48<=z)=true:=by simp;omega
   have d3:decide (z<=57)=false:=by simp;omega
   have d4:(z==46)=false:=by simp;omega
   have d5:(z==95)=false:=by simp;omega
   have d6:(z==45)=false:=by simp;omega
   clear hb
   go_enter Tryz.func85,Tryz.ntmps85
   go_wp2
   go_ret
   exact⟨rfl,rfl⟩
 ·by_cases a2:48<=z
  ·by_cases a3:z<=57
   ·obtain rfl:b=true:=by
     rw[← hb]
     simp
     omega
    have d0:decide (97<=z)=false:=by simp;omega
    have d1:decide (48<=z)=true:=by simp;omega
    clear hb
    go_enter Tryz.func85,Tryz.ntmps85
    go_wp2
    go_ret
    exact⟨rfl,rfl⟩
   ·by_cases a4:z=95
    ·obtain rfl:b=true:=by
      rw[← hb]
      simp
      omega
     have d0:decide (97<=z)=false:=by simp;omega
     have d1:decide (48<=z)=true:=by simp;omega
     have d2:decide (z<=57)=false:=by simp;omega
     have d3:(z==46)=false:=by simp;omega
     have d4:(z==95)=true:=by simp;omega
     clear hb
     go_enter Tryz.func85,Tryz.ntmps85
     go_wp2
     go_ret
     exact⟨rfl,rfl⟩
    ·obtain rfl:b=false:=by
      rw[← hb]
      simp
      omega
     have d0:decide (97<=z)=false:=by simp;omega
     have d1:decide (48<=z)=true:=by simp;omega
     have d2:decide (z<=57)=false:=by simp;omega
     have d3:(z==46)=false:=by simp;omega
     have d4:(z==95)=false:=by simp;omega
     have d5:(z==45)=false:=by simp;omega
     clear hb
     go_enter Tryz.func85,Tryz.ntmps85
     go_wp2
     go_ret
     exact⟨rfl,rfl⟩
  ·by_cases a3:z=46
   ·obtain rfl:b=true:=by
     rw[← hb]
     simp
     omega
    have d0:decide (97<=z)=false:=by simp;omega
    have d1:decide (48<=z)=false:=by simp;omega
    have d2:(z==46)=true:=by simp;omega
    clear hb
    go_enter Tryz.func85,Tryz.ntmps85
    go_wp2
    go_ret
    exact⟨rfl,rfl⟩
   ·by_cases a4:z=45
    ·obtain rfl:b=true:=by
      rw[← hb]
      simp
      omega
     have d0:decide (97<=z)=false:=by simp;omega
     have d1:decide (48<=z)=false:=by simp;omega
     have d2:(z==46)=false:=by simp;omega
     have d3:(z==95)=false:=by simp;omega
     have d4:(z==45)=true:=by simp;omega
     clear hb
     go_enter Tryz.func85,Tryz.ntmps85
     go_wp2
     go_ret
     exact⟨rfl,rfl⟩
    ·obtain rfl:b=false:=by
      rw[← hb]
      simp
      omega
     have d0:decide (97<=z)=false:=by simp;omega
     have d1:decide (48<=z)=false:=by simp;omega
     have d2:(z==46)=false:=by simp;omega
     have d3:(z==95)=false:=by simp;omega
     have d4:(z==45)=false:=by simp;omega
     clear hb
     go_enter Tryz.func85,Tryz.ntmps85
     go_wp2
     go_ret
     exact⟨rfl,rfl⟩
theorem adw (s:ByteArray)(w:World)(h1:1<=s.size)(h2:s.size<=13)(h3:(s.toList==[46])=false)(h4:(s.toList==[46,46])=false)(ha:∀ z∈iF s,gZ z=true) :
  Calls Tryz.prog 52 #[.string s] w fun e w'=>e=.returned (.int .i64 0)/\Below w.heap.size w w':=by
 obtain⟨v,u,hr,⟨a,c,rfl,hh,hby,_,_⟩,hg⟩:=jm w.heap.size s w (Nat.le_refl _) (by omega)
 have HA:=hide ha
 have HH:=hide hh
 have HG:=hide hg
 have HY:=hide hby
 have hl:=jd s
 have d1:decide ((s.size:Int)<1)=false:=by simp;omega
 have d2:decide ((s.size:Int) > 13)=false:=by simp;omega
 generalize hn:s.size=n at *
 clear ha hh hg hby
 go_enter Tryz.func52,Tryz.ntmps52
 go_wp2
 go_loop [24] (fun i=>∃ k:Nat,k<=n/\i=.int .i64 (k:Int)) (fun i=>n - (intOf i).toNat)
 case atStart=>exact⟨0,Nat.zero_le _,rfl⟩
 case round =>
  obtain⟨k,hk,rfl⟩:=hrel
  by_cases hlt:k<n
  ·obtain⟨b,off,rfl,hc⟩:=HH.out.2 (by omega)
   have hck:=hc k hlt
   have hmem:(iF s)[k]?.getD 0∈iF s:=by rw[List.getElem?_eq_getElem (by omega)];exact List.getElem_mem _
   have hz:=HY.out _ hmem
   have hin:=HA.out _ hmem
   generalize (iF s)[k]?.getD 0=z at *
   have KI:Hid (Calls Tryz.prog 85 #[.int .u8 z] u fun e w'=>e=.returned (.bool true)/\u=w'):=by
    have:=kC z u hz.1 hz.2
    rwa [hin] at this
   clear hc hmem hin
   go_wp2_with (go_at_call 85;refine(ah KI).mono ?_;rintro e w' ⟨rfl,rfl⟩)
   exact⟨⟨k+1,by omega,by go_num⟩,by simp[intOf];omega⟩
  ·obtain rfl:k=n:=by omega
   go_wp2
   go_ret
   exact⟨rfl,HG.out.1⟩
def nameB (s:ByteArray):Bool:=decide (1<=s.size)&&decide (s.size<=13)&&!(s.toList==[46])&&!(s.toList==[46,46])&&(iF s).all gZ
theorem iR (s:ByteArray)(w:World)(h:nameB s=true) :
  Calls Tryz.prog 52 #[.string s] w fun e w'=>e=.returned (.int .i64 0)/\Below w.heap.size w w':=by
 unfold nameB at h
 simp only[Bool.and_eq_true,decide_eq_true_eq,Bool.not_eq_true',List.all_eq_true] at h
 obtain⟨⟨⟨⟨h1,h2⟩,h3⟩,h4⟩,h5⟩:=h
 exact adw s w h1 h2 h3 h4 h5
theorem af8 (s:ByteArray)(w:World)(hm:s.size<=9223372036854775807)(h1:s.size<1) :
  Calls Tryz.prog 52 #[.string s] w fun e w'=>e=.returned (.int .i64 16)/\Below w.heap.size w w':=by
 have d1:decide ((s.size:Int)<1)=true:=by simp;omega
 generalize hn:s.size=n at *
 go_enter Tryz.func52,Tryz.ntmps52
 go_wp2
 go_ret
 exact⟨rfl,Below.refl _ _⟩
theorem adv (s:ByteArray)(w:World)(hm:s.size<=9223372036854775807)(h2:13<s.size) :
  Calls Tryz.prog 52 #[.string s] w fun e w'=>e=.returned (.int .i64 16)/\Below w.heap.size w w':=by
 have d1:decide ((s.size:Int)<1)=false:=by simp;omega
 have d2:decide ((s.size:Int) > 13)=true:=by simp;omega
 generalize hn:s.size=n at *
 go_enter Tryz.func52,Tryz.ntmps52
 go_wp2
 go_ret
 exact⟨rfl,Below.refl _ _⟩
theorem af9 (s:ByteArray)(w:World)(hm:s.size<=9223372036854775807)(h1:1<=s.size)(h2:s.size<=13)(h3:(s.toList==[46])=true) :
  Calls Tryz.prog 52 #[.string s] w fun e w'=>e=.returned (.int .i64 16)/\Below w.heap.size w w':=by
 have d1:decide ((s.size:Int)<1)=false:=by simp;omega
 have d2:decide ((s.size:Int) > 13)=false:=by simp;omega
 generalize hn:s.size=n at *
 go_enter Tryz.func52,Tryz.ntmps52
 go_wp2
 go_ret
 exact⟨rfl,Below.refl _ _⟩
theorem adx (s:ByteArray)(w:World)(hm:s.size<=9223372036854775807)(h1:1<=s.size)(h2:s.size<=13)(h3:(s.toList==[46])=false)(h4:(s.toList==[46,46])=true) :
  Calls Tryz.prog 52 #[.string s] w fun e w'=>e=.returned (.int .i64 16)/\Below w.heap.size w w':=by
 have d1:decide ((s.size:Int)<1)=false:=by simp;omega
 have d2:decide ((s.size:Int) > 13)=false:=by simp;omega
 generalize hn:s.size=n at *
 go_enter Tryz.func52,Tryz.ntmps52
 go_wp2
 go_ret
 exact⟨rfl,Below.refl _ _⟩
theorem ady (s:ByteArray)(w:World)(h1:1<=s.size)(h2:s.size<=13)(h3:(s.toList==[46])=false)(h4:(s.toList==[46,46])=false)(ha:(iF s).all gZ=false) :
  Calls Tryz.prog 52 #[.string s] w fun e w'=>e=.returned (.int .i64 16)/\Below w.heap.size w w':=by
 obtain⟨v,u,hr,⟨a,c,rfl,hh,hby,_,_⟩,hg⟩:=jm w.heap.size s w (Nat.le_refl _) (by omega)
 have HA:Hid (¬ ∀ z∈iF s,gZ z=true):=fun h=>by
  rw[List.all_eq_true.2 h] at ha
  cases ha
 have HH:=hide hh
 have HG:=hide hg
 have HY:=hide hby
 have hl:=jd s
 have d1:decide ((s.size:Int)<1)=false:=by simp;omega
 have d2:decide ((s.size:Int) > 13)=false:=by simp;omega
 generalize hn:s.size=n at *
 clear ha hh hg hby
 go_enter Tryz.func52,Tryz.ntmps52
 go_wp2
 go_loop [24] (fun i=>∃ k:Nat,k<=n/\i=.int .i64 (k:Int)/\Hid (∀ j,j<k->gZ ((iF s)[j]?.getD 0)=true)) (fun i=>n - (intOf i).toNat)
 case atStart=>exact⟨0,Nat.zero_le _,rfl,fun j hj=>by omega⟩
 case round =>
  obtain⟨k,hk,rfl,hj⟩:=hrel
  by_cases hlt:k<n
  ·obtain⟨b,off,rfl,hc⟩:=HH.out.2 (by omega)
   have hck:=hc k hlt
   have hmem:(iF s)[k]?.getD 0∈iF s:=by rw[List.getElem?_eq_getElem (by omega)];exact List.getElem_mem _
   have hz:=HY.out _ hmem
   have HJ:Hid (gZ ((iF s)[k]?.getD 0)=true->∀ j,j<k+1->gZ ((iF s)[j]?.getD 0)=true):=by
    intro h j hjk
    by_cases he:j=k
    ·subst he;exact h
    ·exact hj.out j (by omega)
   generalize (iF s)[k]?.getD 0=z at *
   clear hc hmem hj
   by_cases hin:gZ z=true
   ·have KI:Hid (Calls Tryz.prog 85 #[.int .u8 z] u fun e w'=>e=.returned (.bool true)/\u=w'):=by
     have:=kC z u hz.1 hz.2
     rwa [hin] at this
    have HJ':=hide (HJ.out hin)
    clear hin HJ
    go_wp2_with (go_at_call 85;refine(ah KI).mono ?_;rintro e w' ⟨rfl,rfl⟩)
    exact⟨⟨k+1,by omega,by go_num,HJ'⟩,by simp[intOf];omega⟩
   ·have KI:Hid (Calls Tryz.prog 85 #[.int .u8 z] u fun e w'=>e=.returned (.bool false)/\u=w'):=by
     have:=kC z u hz.1 hz.2
     rwa [show gZ z=false by simpa using hin] at this
    clear hin HJ
    go_wp2_with (go_at_call 85;refine(ah KI).mono ?_;rintro e w' ⟨rfl,rfl⟩)
    go_ret
    exact⟨rfl,HG.out.1⟩
  ·obtain rfl:k=n:=by omega
   refine absurd ?_ HA.out
   intro z hz
   obtain⟨j,hjl,rfl⟩:=List.getElem_of_mem hz
   have:=hj.out j (by omega)
   rwa [List.getElem?_eq_getElem hjl,Option.getD_some] at this
theorem ah0 (s:ByteArray)(w:World)(hm:s.size<=9223372036854775807)(h:nameB s=false) :
  Calls Tryz.prog 52 #[.string s] w fun e w'=>e=.returned (.int .i64 16)/\Below w.heap.size w w':=by
 by_cases h1:1<=s.size
 ·by_cases h2:s.size<=13
  ·by_cases h3:(s.toList==[46])=true
   ·exact af9 s w hm h1 h2 h3
   ·have h3:(s.toList==[46])=false:=by simpa using h3
    by_cases h4:(s.toList==[46,46])=true
    ·exact adx s w hm h1 h2 h3 h4
    ·have h4:(s.toList==[46,46])=false:=by simpa using h4
     refine ady s w h1 h2 h3 h4 ?_
     unfold nameB at h
     rw[h3,h4] at h
     simpa [h1,h2] using h
  ·exact adv s w hm (by omega)
 ·exact af8 s w hm (by omega)
theorem aad (i:Int)(s:ByteArray)(w:World)(hi:i=0)(hs:s.size<=13)(hs0:(s.toList==[])=true)(hf:iD 2 [i]=true) :
  Calls Tryz.prog 53 #[jO i s] w fun e w'=>∃ a c,e=.returned (.tuple #[.slice a 16 c,.int .i64 0])/\Hid (Has w' a 16 (aZ 16 (iZ i s))/\16<=c/\c<=9223372036854775807)/\Below w.heap.size w w':=by
 have HK:=hide (Bx.start w (Dc i s) 70)
 have F2:Hid (∀ (u:World) (g:Nat),g=u.heap.size->Calls Tryz.prog 80 #[.int .i64 2,.slice (some ⟨g,0,none⟩) 1 1] (u.alloc (zI i)) fun e w'=>e=.returned (.bool true)/\Below u.heap.size u w'):=fun u g hg=>by subst hg;exact zU 2 (.inl rfl) i u true hf
 have HF:=hide hf
 have HS:=hide hs
 have hi1:(i==0)=true:=by simpa using hi
 have hi2:(i != 0)=false:=by simpa using hi
 clear hf hi hs
 go_enter Tryz.func53,Tryz.ntmps53
 go_wp2_with fail
 go_at_call 80
 refine(ah F2 _ _ (by simp)).mono ?_
 rintro e w2 ⟨rfl,hb⟩
 replace HK:=hide ((ah HK).call hb)
 clear hb F2
 go_upto_region 7 with fail
 go_cut [2,3] (fun c q wx=>∃ a0 c0,c=.slice a0 16 c0/\q=.int .i64 0/\Hid (Has wx a0 16 (aZ 16 (iZ i s))/\16<=c0/\c0<=9223372036854775807)/\Hid (Bx w (Dc i s) wx))
 case first =>
  refine dU (by kernel_rfl) w.heap.size [bG (.pointer (some ⟨w.heap.size,0,none⟩)),bG (.int .i64 (i)),bC [i],aC 2 (aH 2 [i]),bG (.pointer (some ⟨w.heap.size,1,none⟩)),bG (.string s),aC s.size (iF s),dX 2 (iZ i s),aC 16 (aZ 16 (iZ i s)),aC 16 (aZ 16 (iZ i s)),bG (.int .i64 0)] ?_ (by kernel_rfl) (by kernel_rfl) ?_ ?_
  ·intro S hS
   simp only[List.mem_cons,List.not_mem_nil,or_false] at hS
   rcases hS with rfl | rfl | rfl | rfl | rfl | rfl | rfl | rfl | rfl | rfl | rfl<;>first | exact jK _ _ | exact gI _ _ _ | exact iT _ _ | exact iK _ _ | exact gG _ _ _
  ·intro i o a u hi hF hA hG
   have hB:=HK.out.drew.grw hG
   have hn:w.heap.size<=u.heap.size:=hB.2.1.size
   have tb:a.tmps[1]?.getD undef=.pointer (some ⟨w.heap.size,0,none⟩):=iq hF 1 (by kernel_rfl)
   have hlt:=(Array.getElem?_eq_some_iff.1 hi).1
   have hcs:i=0\/i=1\/i=2\/i=3\/i=4\/i=5\/i=6\/i=7\/i=8\/i=9\/i=10:=by simp at hlt;omega
   clear hlt
   rcases hcs with rfl | rfl | rfl | rfl | rfl | rfl | rfl | rfl | rfl | rfl | rfl
   ·have ho:=Option.some.inj hi;subst ho
    have h0:=tb
    refine aB (w':=u) rfl rfl (.pointer (some ⟨w.heap.size,0,none⟩)) ?_ rfl (Grw.refl _ _)
    simp[execOp,Act.eval,h0,go_sem]
   ·have ho:=Option.some.inj hi;subst ho
    have h0:a.tmps[26]?.getD undef=.pointer (some ⟨w.heap.size,0,none⟩):=aj hA 0 26 (by kernel_rfl) rfl
    have f0:=hB.1 0 _ rfl
    refine aB (w':=u) rfl rfl (.int .i64 (i)) ?_ rfl (Grw.refl _ _)
    simp[execOp,Act.eval,h0,f0,go_sem]
   ·have ho:=Option.some.inj hi;subst ho
    have h0:a.tmps[27]?.getD undef=.int .i64 (i):=aj hA 1 27 (by kernel_rfl) rfl
    refine aB (w':=u.alloc (.cells ([i].map (Value.int .i64)).toArray 3)) rfl rfl (.slice (some ⟨u.heap.size,0,none⟩) 1 1) ?_ ⟨_,_,rfl,aU u [i]⟩ (Grw.alloc _ _ _ hn)
    simp[execOp,Act.eval,h0,go_sem]
   ·have ho:=Option.some.inj hi;subst ho
    have h0:bC [i] (a.tmps[28]?.getD undef) u:=aj hA 2 28 (by kernel_rfl) rfl
    refine bK rfl rfl 82 #[.int .i64 (2:Nat),a.tmps[28]?.getD undef] ?_ hn (aT 2 (.inr (.inl rfl)) [i] _ u h0 (by simp) HF.out 2 rfl)
    simp[execOp,Act.eval,go_sem]
   ·have ho:=Option.some.inj hi;subst ho
    have h0:=tb
    refine aB (w':=u) rfl rfl (.pointer (some ⟨w.heap.size,1,none⟩)) ?_ rfl (Grw.refl _ _)
    simp[execOp,Act.eval,h0,go_sem]
   ·have ho:=Option.some.inj hi;subst ho
    have h0:a.tmps[30]?.getD undef=.pointer (some ⟨w.heap.size,1,none⟩):=aj hA 4 30 (by kernel_rfl) rfl
    have f0:=hB.1 1 _ rfl
    refine aB (w':=u) rfl rfl (.string s) ?_ rfl (Grw.refl _ _)
    simp[execOp,Act.eval,h0,f0,go_sem]
   ·have ho:=Option.some.inj hi;subst ho
    have h0:a.tmps[31]?.getD undef=.string s:=aj hA 5 31 (by kernel_rfl) rfl
    obtain⟨v,u',hr,hS,hg⟩:=jm w.heap.size s u hn (by have:=HS.out;omega)
    refine aB (w':=u') rfl rfl v ?_ hS hg
    simp[execOp,Act.eval,h0,hr,go_sem]
   ·have ho:=Option.some.inj hi;subst ho
    obtain⟨p0,c0,e0,b0,_,_⟩:aC 2 (aH 2 [i]) (a.tmps[29]?.getD undef) u:=aj hA 3 29 (by kernel_rfl) rfl
    obtain⟨p1,c1,e1,b1,_,_⟩:aC s.size (iF s) (a.tmps[32]?.getD undef) u:=aj hA 6 32 (by kernel_rfl) rfl
    have hp:=gV u [(p0,2,c0,(aH 2 [i])),(p1,s.size,c1,(iF s))] (by
     intro p hp
     simp only[List.mem_cons,List.not_mem_nil,or_false] at hp
     rcases hp with rfl | rfl
     ·exact b0
     ·exact b1)
    refine aB (w':=u.alloc (.cells ([(p0,2,c0,(aH 2 [i])),(p1,s.size,c1,(iF s))].map pv).toArray 71)) rfl rfl (.slice (some ⟨u.heap.size,0,none⟩) 2 2) ?_ ⟨_,_,_,rfl,hp,by simp[lK,iZ]⟩ (Grw.alloc _ _ _ hn)
    simp[execOp,Act.eval,e0,e1,go_sem]
    all_goals rfl
   ·have ho:=Option.some.inj hi;subst ho
    have h0:dX 2 (iZ i s) (a.tmps[33]?.getD undef) u:=aj hA 7 33 (by kernel_rfl) rfl
    refine bK rfl rfl 81 #[.int .i64 ((16:Nat):Int),a.tmps[33]?.getD undef] ?_ hn ((rG (16) 2 (iZ i s) _ u h0 (by omega) (by rw[iY];have:=HS.out;omega) (by omega) (qo i s)).mono fun e w' ⟨v,e1,h1,h2⟩=>⟨v,e1,h1.1,h2⟩)
    simp[execOp,Act.eval,go_sem]
   ·have ho:=Option.some.inj hi;subst ho
    have h0:aC 16 (aZ 16 (iZ i s)) (a.tmps[34]?.getD undef) u:=aj hA 8 34 (by kernel_rfl) rfl
    refine aB (w':=u) rfl rfl (a.tmps[34]?.getD undef) ?_ h0 (Grw.refl _ _)
    simp[execOp,Act.eval,go_sem]
   ·have ho:=Option.some.inj hi;subst ho
    refine aB (w':=u) rfl rfl (.int .i64 0) ?_ rfl (Grw.refl _ _)
    simp[execOp,Act.eval,go_sem]
  ·intro a u hF hR hG
   have q0:=iq hF 0 (by kernel_rfl)
   have q1:=iq hF 1 (by kernel_rfl)
   obtain⟨r0,r1,r2,r3,r4,r5⟩:aC 16 (aZ 16 (iZ i s)) (a.tmps[2]?.getD undef) u:=by have:=hR 9 _ 2 rfl rfl;rwa [Array.getD_eq_getD_getElem?] at this
   obtain p3:a.tmps[3]?.getD undef=(.int .i64 0):=by have:=hR 10 _ 3 rfl rfl;rwa [Array.getD_eq_getD_getElem?] at this
   have hB:=HK.out.drew.grw hG
   obtain⟨tm,df⟩:=a
   obtain⟨hs,hdf,_⟩:=hF
   have hs':tm.size=35:=hs
   have adN:df=[]:=hdf
   subst adN
   have he:tm=#[tm[0]?.getD undef,tm[1]?.getD undef,tm[2]?.getD undef,tm[3]?.getD undef,tm[4]?.getD undef,tm[5]?.getD undef,tm[6]?.getD undef,tm[7]?.getD undef,tm[8]?.getD undef,tm[9]?.getD undef,tm[10]?.getD undef,tm[11]?.getD undef,tm[12]?.getD undef,tm[13]?.getD undef,tm[14]?.getD undef,tm[15]?.getD undef,tm[16]?.getD undef,tm[17]?.getD undef,tm[18]?.getD undef,tm[19]?.getD undef,tm[20]?.getD undef,tm[21]?.getD undef,tm[22]?.getD undef,tm[23]?.getD undef,tm[24]?.getD undef,tm[25]?.getD undef,tm[26]?.getD undef,tm[27]?.getD undef,tm[28]?.getD undef,tm[29]?.getD undef,tm[30]?.getD undef,tm[31]?.getD undef,tm[32]?.getD undef,tm[33]?.getD undef,tm[34]?.getD undef]:=lT tm 35 hs'
   simp at q0
   simp at q1
   rw[he]
   simp only[q0,q1,r2,p3]
   clear he hR hG hs hs' hdf q0 q1 r2 p3
   go_wp2_with fail
   go_meet
   exact⟨r0,r1,rfl,rfl,⟨r3,r5.1,r5.2⟩,hB⟩
 case rest =>
  obtain⟨a0,c0,rfl,rfl,hh,hB⟩:=hcut
  clear HK
  go_wp2_with fail
  go_ret2
  exact⟨a0,c0,rfl,hh,hB.out.2.1⟩
def ajT (i:Int) (s:ByteArray):Int:=if i=0 then (if s.size=0 then 0 else 4) else if nameB s=true then (if iD 2 [i]=true then 0 else 3) else 16
theorem toList_nil (s:ByteArray):(s.toList==[])=decide (s.size=0):=by
 rw[ByteArray.toList_eq]
 have:s.size=s.data.toList.length:=by rw[Array.length_toList];rfl
 rw[this]
 cases s.data.toList with
 | nil=>rfl
 | cons a l=>rfl
theorem rC {s:ByteArray}(h:nameB s=true):s.size<=13:=by
 unfold nameB at h
 simp only[Bool.and_eq_true,decide_eq_true_eq] at h
 exact h.1.1.1.2
theorem aek (i:Int)(s:ByteArray)(w:World)(h:ajT i s=0) :
  Calls Tryz.prog 53 #[jO i s] w fun e w'=>∃ a c,e=.returned (.tuple #[.slice a 16 c,.int .i64 0])/\Hid (Has w' a 16 (aZ 16 (iZ i s))/\16<=c/\c<=9223372036854775807)/\Below w.heap.size w w':=by
 unfold ajT at h
 by_cases hi:i=0
 ·rw[if_pos hi] at h
  have hs:s.size=0:=by
   by_cases hs:s.size=0
   ·exact hs
   ·rw[if_neg hs] at h;omega
  exact aad i s w hi (by omega) (by rw[toList_nil];exact decide_eq_true hs) (by rw[hi];decide)
 ·rw[if_neg hi] at h
  by_cases hn:nameB s=true
  ·rw[if_pos hn] at h
   by_cases hf:iD 2 [i]=true
   ·exact xu i s w hi (rC hn) hf (fun u=>iR s u hn)
   ·rw[if_neg hf] at h;omega
  ·rw[if_neg hn] at h;omega
theorem sG (s:ByteArray)(i:Int)(w:World)(hm:s.size<=9223372036854775807)(h:nameB s=false) :
  Calls Tryz.prog 25 #[.string s,.int .i64 i] w fun e w'=>e=.returned (.tuple #[.slice none 0 0,.int .i64 16])/\Below w.heap.size w w':=by
 have K:=hide (ah0 s w hm h)
 clear h hm
 go_enter Tryz.func25,Tryz.ntmps25
 go_wp2_with fail
 refine(ah K).mono ?_
 rintro e w1 ⟨rfl,hb⟩
 have HB:=hide hb
 clear K hb
 go_wp2_with fail
 go_ret2
 exact⟨rfl,HB.out⟩
theorem qy (s:ByteArray)(i:Int)(w:World)(h:nameB s=true)(hi:i<1\/65535<i) :
  Calls Tryz.prog 25 #[.string s,.int .i64 i] w fun e w'=>e=.returned (.tuple #[.slice none 0 0,.int .i64 3])/\Below w.heap.size w w':=by
 have K:=hide (iR s w h)
 clear h
 by_cases h1:i<1
 ·have d1:decide (i<1)=true:=by simpa using h1
  go_enter Tryz.func25,Tryz.ntmps25
  go_wp2_with fail
  refine(ah K).mono ?_
  rintro e w1 ⟨rfl,hb⟩
  have HB:=hide hb
  clear K hb
  go_wp2_with fail
  go_ret2
  exact⟨rfl,HB.out⟩
 ·have d1:decide (i<1)=false:=by simpa using h1
  have d2:decide (i > 65535)=true:=by simp;omega
  go_enter Tryz.func25,Tryz.ntmps25
  go_wp2_with fail
  refine(ah K).mono ?_
  rintro e w1 ⟨rfl,hb⟩
  have HB:=hide hb
  clear K hb
  go_wp2_with fail
  go_ret2
  exact⟨rfl,HB.out⟩
theorem mP (s:ByteArray)(w:World) :
  Calls Tryz.prog 28 #[.string s] w fun e w'=>e=.returned (.func (.func 59) #[] #[.pointer (some ⟨w.heap.size,0,none⟩)])/\w'=w.alloc (.cells #[.string s] 9):=by
 go_enter Tryz.func28,Tryz.ntmps28
 go_wp2_with fail
 go_ret
 exact⟨rfl,rfl⟩
theorem aai (i:Int)(n s:ByteArray)(m:Nat)(u:World)(y:u.cell? ⟨m,0,none⟩=some (.string s)) :
  Calls Tryz.prog 59 #[.agg #[.int .i64 i,.string n],.pointer (some ⟨m,0,none⟩)] u fun e w'=>e=.returned (.bool (n.toList==s.toList))/\Below u.heap.size u w':=by
 have hlt:m<u.heap.size:=aO y
 have HB:=hide ((Below.refl u.heap.size u).alloc (Nat.le_refl _) (.cells #[.int .i64 i,.string n] 70))
 have y2:(u.alloc (.cells #[.int .i64 i,.string n] 70)).cell? ⟨m,0,none⟩=some (.string s):=(HB.out.cell (p:=⟨m,0,none⟩) hlt).trans y
 have y3:(u.alloc (.cells #[.int .i64 i,.string n] 70)).cell? ⟨u.heap.size,1,none⟩=some (.string n):=by
  simp only[World.cell?,World.alloc_heap_new]
  rfl
 clear y
 go_enter Tryz.func59,Tryz.ntmps59
 go_wp2_with fail
 go_ret
 exact⟨rfl,HB.out⟩
theorem zH (a:Option Addr)(c:Nat)(fv:Value)(u:World) :
  Calls Tryz.prog 58 #[.slice a 0 c,fv] u fun e v'=>e=.returned (.int .i64 (-1))/\v'=u:=by
 go_enter Tryz.func58,Tryz.ntmps58
 go_wp2_with fail
 go_loopw [8] (fun iv wr=>iv=.int .i64 0/\wr=u) (fun _ _=>0)
 case atStart=>exact⟨rfl,rfl⟩
 case round =>
  obtain⟨rfl,rfl⟩:=hrel
  go_wp2_with fail
  go_ret
  exact⟨rfl,rfl⟩
theorem abC (g c m:Nat)(i:Int)(s:ByteArray)(u:World)(y:u.cell? ⟨m,0,none⟩=some (.string s))(c0:u.cell? ⟨g,0,none⟩=some (.int .i64 i))(c1:u.cell? ⟨g,1,none⟩=some (.string s)) :
  Calls Tryz.prog 58 #[.slice (some ⟨g,0,none⟩) 1 c,.func (.func 59) #[] #[.pointer (some ⟨m,0,none⟩)]] u fun e v'=>e=.returned (.int .i64 0)/\Below u.heap.size u v':=by
 have K1:=aai i s s m u y
 rw[show (s.toList==s.toList)=true by simp] at K1
 have K1:=hide K1
 clear y
 go_enter Tryz.func58,Tryz.ntmps58
 go_wp2_with fail
 go_loopw [8] (fun iv wr=>iv=.int .i64 0/\wr=u) (fun _ _=>0)
 case atStart=>exact⟨rfl,rfl⟩
 case round =>
  obtain⟨rfl,rfl⟩:=hrel
  go_wp2_with fail
  refine(ah K1).mono ?_
  rintro e w1 ⟨rfl,hb⟩
  have HB:=hide hb
  clear K1 hb c0 c1
  go_wp2_with fail
  go_ret
  exact⟨rfl,HB.out⟩
theorem vM (f c:Nat)(a:Option Addr)(fv:Value)(u:World)(y:u.cell? ⟨f,16,none⟩=some (.slice a 0 c)) :
  Calls Tryz.prog 27 #[.pointer (some ⟨f,0,none⟩),fv] u fun e v'=>e=.returned (.int .i64 (-1))/\v'=u:=by
 have K:=hide (zH a c fv u)
 go_enter Tryz.func27,Tryz.ntmps27
 go_wp2_with fail
 refine(ah K).mono ?_
 rintro e w1 ⟨rfl,rfl⟩
 clear K
 go_wp2_with fail
 go_ret
 exact⟨rfl,rfl⟩
theorem afi (f g c m:Nat)(i:Int)(s:ByteArray)(u:World)(z:u.cell? ⟨f,16,none⟩=some (.slice (some ⟨g,0,none⟩) 1 c))(y:u.cell? ⟨m,0,none⟩=some (.string s))(c0:u.cell? ⟨g,0,none⟩=some (.int .i64 i))(c1:u.cell? ⟨g,1,none⟩=some (.string s)) :
  Calls Tryz.prog 27 #[.pointer (some ⟨f,0,none⟩),.func (.func 59) #[] #[.pointer (some ⟨m,0,none⟩)]] u fun e v'=>e=.returned (.int .i64 0)/\Below u.heap.size u v':=by
 have K:=hide (abC g c m i s u y c0 c1)
 clear y c0 c1
 go_enter Tryz.func27,Tryz.ntmps27
 go_wp2_with fail
 refine(ah K).mono ?_
 rintro e w1 ⟨rfl,hb⟩
 have HB:=hide hb
 clear K hb
 go_wp2_with fail
 go_ret
 exact⟨rfl,HB.out⟩
end Go.Proofs.YtefdkpbmeoakgaaGreatDoor
