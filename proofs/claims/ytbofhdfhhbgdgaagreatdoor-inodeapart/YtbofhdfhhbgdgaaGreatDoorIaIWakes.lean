/- The law's fixed run. -/
import Derived.Test.YtbofhdfhhbgdgaaGreatDoorIaJ42
import Derived.Test.YtbofhdfhhbgdgaaGreatDoorIaJ41
import Derived.Test.YtbofhdfhhbgdgaaGreatDoorIaJ41
namespace Go.Proofs.YtbofhdfhhbgdgaaGreatDoor
set_option maxRecDepth 100000
set_option maxHeartbeats 8000000
open Go.RowKit Go.Shelf Go.Maps
set_option linter.unusedVariables false
theorem uN {p q:Nat->Bool}:∀ {n f:Nat},(∀ j,f<=j->j<f+n->p j=q j)->skp p f n=skp q f n
 | 0,f,_=>rfl
 | n+1,f,h=>by
  unfold skp
  rw[h f (Nat.le_refl _) (by omega),uN (n:=n) (f:=f+1) (fun j a b=>h j (by omega) (by omega))]
theorem akV:fG (aV 33) (fun _=>false) 37 aG.n=37:=by
 unfold fG
 have:skp (cand (aV 33) (fun _=>false)) 37 (aG.n - 37)=skp (fun j=>!decide (j<37)) 37 (aG.n - 37):=uN (fun j h1 h2=>by
  unfold cand
  rw[show aV 33=fV 64 (upTo 37) from rfl,tY 64 37 (by omega) j]
  simp)
 rw[this]
 decide
def wV:Nat->List Int:=fun q=>if q=35 then put ((fun j=>if j=33 then setB (aV 33) 37 true else aV j) 35) 0 (bW 32 (dG (bU x1 (pof 0) ((37:Nat):Int)))) else (fun j=>if j=33 then setB (aV 33) 37 true else aV j) q
theorem ai8:aP 0 / 2=32:=by rw[gQ];decide
theorem aa7:mfb aP=1064:=by unfold mfb;rw[gQ];decide
theorem aeB:(bD aP=0)/\(¬ (0:Int)<0)/\¬ mfb aP<=0:=⟨aPG.chk,by omega,by rw[aa7];omega⟩
theorem wZ:bP (bU x1 (pof 0) ((37:Nat):Int)):=by unfold bP;decide
theorem abh (p:Nat->Int)(v:World):(Instr.field 25 (Pv p) 11).run Tryz.prog v=.ok (.int .i64 (p 11)) v:=by kernel_rfl
theorem ama:aV 35=tbZ x1 x1:=rfl
theorem adF:iQ (((aV 35).drop 0).take 32)/\Iv (bG (((aV 35).drop 0).take 32))=Iv x1:=by
 rw[ama,rG]
 exact⟨aaq ng,aap ng⟩
theorem al0:wV 35=tbZ (bU x1 (pof 0) ((37:Nat):Int)) x1:=by
 unfold wV
 rw[if_pos rfl]
 show put (aV 35) 0 _=_
 rw[ama,ah5]
theorem aiQ {w:World}{g o tb a:Nat}{rows:List (Nat×Obj)}(ht:(tb,tbO a aP)∈rows)(ha:(a,alO g aP)∈rows)(h0:0<w.heap.size):akv w aP aG g o 1 aV (fun _=>false) (fun _=>false) rows tb 2 0 aE aV ((37:Nat):Int) 0 true aE wV:=by
 intro v fg tg og jI hsub rt ro hwf hfg hv
 refine aaw (a:=a) (bk:=35) (at0:=0) (s0:=0) (X:=x1) (X1:=bU x1 (pof 0) ((37:Nat):Int)) hv (hsub _ ht) h0 hwf hfg abg.1 abg.2.1 abg.2.2 (by decide) (by decide) adF.1 adF.2 (by omega) (fun v=>nM aP 0 32 v aeB.1 aeB.2.1 aeB.2.2 ai8 (by omega)) ?_
 intro v2 xg fc m0 m1 m2 amN rf r0 r1 r2 hx hne hfx ane hsub2 hv2
 rw[show x1 (pof 0)=0 by decide]
 exact kE hv2 aA (hsub2 _ (hsub _ ht)) (hsub2 _ (hsub _ ha)) (hsub2 _ rt) (hsub2 _ ro) hwf h0 ane rf r0 r1 r2 hx hne abg.1 abg.2.1 abg.2.2 (by decide) (by decide) (by decide) hfx akV (by decide) wZ
theorem abx (w:World)(hT:Tab w):Calls Tryz.prog 9 #[] w fun e w'=>e=.returned (.bool true)/\Below w.heap.size w w':=by
 have h0:0<w.heap.size:=hT.lt
 have K1:Hid (∀ u,Calls Tryz.prog 10 #[] u fun e w'=>e=.returned (Pv aP)/\Below u.heap.size u w'):=fun u=>qW u
 obtain⟨X2,hX2⟩:∃ X2,X2=bU x1 (pof 0) ((37:Nat):Int):=⟨_,rfl⟩
 have K2:Hid (∀ u,Below w.heap.size w u->Calls Tryz.prog 11 #[Pv aP] u fun e w'=>∃ g a t,e=.returned (.tuple #[.pointer (some ⟨g,0,none⟩),.pointer (some ⟨a,0,none⟩),.pointer (some ⟨t,0,none⟩)]) /\
   Hid (Calls Tryz.prog 12 #[.pointer (some ⟨g,0,none⟩)] w' fun e u1=>∃ o,e=.returned (.tuple #[.pointer (some ⟨o,0,none⟩),.int .i64 0]) /\
    Hid (Calls Tryz.prog 14 #[.pointer (some ⟨t,0,none⟩),.pointer (some ⟨o,0,none⟩),.int .i64 2,.int .i64 0] u1 fun e u2=>e=.returned (.tuple #[.int .i64 37,.bool true,.int .i64 0]) /\
     Hid (Calls Tryz.prog 19 #[.pointer (some ⟨t,0,none⟩),.pointer (some ⟨o,0,none⟩),.int .i64 2] u2 fun e u3=>e=.returned (.tuple #[Iv X2,.int .i64 0])/\Hid (Below w.heap.size w u3))))):=fun u hu=>by
  have hTu:Tab u:=hT.kept (hu.block 0 h0)
  refine(qJ u hTu).mono ?_
  rintro e w' ⟨g,a,t,rfl,Y⟩
  refine⟨g,a,t,rfl,(yZ ((ah Y).acX hu)).mono ?_⟩
  rintro e u1 ⟨o,rfl,Y1⟩
  refine⟨o,rfl,?_⟩
  refine(qZ (ah Y1) h0 rfl (aiQ (a:=a) (by simp) (by simp) h0)).mono ?_
  rintro e u2 ⟨rfl,Y2⟩
  refine⟨rfl,?_⟩
  refine(dJ (a:=a) (ah Y2) X2 2 (by simp) h0 abg.1 abg.2.1 abg.2.2 (by decide) (by decide) ?_ ?_).mono ?_
  ·rw[al0,rG];exact aaq wZ
  ·rw[al0,rG,hX2];exact aap wZ
  ·rintro e u3 ⟨rfl,Y3⟩
   exact⟨rfl,(ah Y3).bel⟩
 have e11:((37:Int)==aP 11)=true:=by rw[gQ];decide
 have e3:(X2 3==(37:Int))=true:=by rw[hX2];decide
 have hfld:∀ (v:World),(Instr.field 25 (Pv aP) 11).run Tryz.prog v=.ok (.int .i64 (aP 11)) v:=fun v=>abh aP v
 clear hT h0 hX2
 generalize aP=p at *
 go_enter Tryz.func9,Tryz.ntmps9
 go_wp2_with fail
 go_at_call 10
 refine(ah K1 _).mono ?_
 rintro e w1 ⟨rfl,hb1⟩
 have K3:=hide (ah K2 w1 hb1)
 clear K2 hb1
 go_wp2_with fail
 go_at_call 11
 refine(ah K3).mono ?_
 rintro e w2 ⟨g,a,t,rfl,K4⟩
 clear K3
 go_wp2_with fail
 go_at_call 12
 refine(ah K4).mono ?_
 rintro e w3 ⟨o,rfl,K5⟩
 clear K4
 go_wp2_with fail
 go_at_call 14
 refine(ah K5).mono ?_
 rintro e w4 ⟨rfl,K6⟩
 clear K5
 go_wp2_with fail
 go_at_call 19
 refine(ah K6).mono ?_
 rintro e w5 ⟨rfl,Z⟩
 have HB:=hide ((ah Z).alloc (ah Z).size (.cells (Ic X2) 50))
 have BX:=Bl.new w5 (Ic X2) 50
 clear K6 Z
 go_upto_region 7 with fail
 change Code.wp _ _ _ _ (w5.alloc (.cells (Ic X2) 50))
 generalize w5.alloc (.cells (Ic X2) 50)=w6 at *
 generalize w5.heap.size=m5 at *
 have HBX:=hide BX
 clear BX
 go_wp2_with fail
 go_at_call 10
 refine(ah K1 _).mono ?_
 rintro e w7 ⟨rfl,hb7⟩
 have y3:=((ah HBX).call hb7).cell 3 _ rfl
 have HZ:=hide ((ah HB).trans (hb7.mono (ah HB).size))
 clear K1 HB HBX hb7
 go_wp2_with fail
 go_ret
 exact⟨rfl,ah HZ⟩
end Go.Proofs.YtbofhdfhhbgdgaaGreatDoor
