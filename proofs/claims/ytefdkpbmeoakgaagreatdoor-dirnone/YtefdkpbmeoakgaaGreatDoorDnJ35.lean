/- Joined: ILeaf, IFree, ITurn, ITake. -/
import Derived.Test.YtefdkpbmeoakgaaGreatDoorDnJ34
import Derived.Test.YtefdkpbmeoakgaaGreatDoorDnJ6
import Derived.Test.YtefdkpbmeoakgaaGreatDoorDnJ11
import Derived.BigRegion
import Derived.Test.YtefdkpbmeoakgaaGreatDoorDnJ2
/- The small functions of alloc. -/
namespace Go.Proofs.YtefdkpbmeoakgaaGreatDoor
set_option maxRecDepth 100000
set_option maxHeartbeats 8000000
open Go.RowKit Go.Shelf Go.Maps
set_option linter.unusedVariables false
abbrev Bv (q e f t:Int):Value:=.agg #[.int .i64 q,.int .i64 e,.int .i64 f,.int .i64 t]
abbrev Bc (q e f t:Int):Array Value:=#[.int .i64 q,.int .i64 e,.int .i64 f,.int .i64 t]
def alA (g:Nat) (P:Nat->Int):Array Value:=#[.pointer (some ⟨g,0,none⟩),.int .i64 (P 0),.int .i64 (P 1),.int .i64 (P 2),.int .i64 (P 3),.int .i64 (P 4),.int .i64 (P 5),.int .i64 (P 6),.int .i64 (P 7),.int .i64 (P 8),.int .i64 (P 9),.int .i64 (P 10),.int .i64 (P 11)]
def alO (g:Nat) (P:Nat->Int):Obj:=.cells (alA g P) 112 (0,0)
theorem sN (q e f t i:Int)(w:World)(h0:0<=i)(hi:i<e)(hq:0<=q/\q<=4096)(he:e<=65536) :
  Calls Tryz.prog 225 #[Bv q e f t,.int .i64 i] w fun e w'=>e=.returned (.int .i64 q)/\Below w.heap.size w w':=by
 have B0:Hid (Below w.heap.size w (w.alloc (.cells (Bc q e f t) 290))):=(Below.refl _ _).alloc (Nat.le_refl _) _
 have BX:=hide (Bl.new w (Bc q e f t) 290)
 have hne:e≠0:=by omega
 have hd:i.tdiv e=0:=Int.tdiv_eq_zero_of_lt h0 hi
 have hw0:IntKind.i64.wrap 0=0:=by decide
 have hw1:IntKind.i64.wrap (q+0)=q:=by rw[IntKind.wrap_i64];omega
 have hw2:IntKind.i64.wrap q=q:=by rw[IntKind.wrap_i64];omega
 have hed:i / e=0:=Int.ediv_eq_zero_of_lt h0 hi
 go_enter Tryz.func225,Tryz.ntmps225
 go_upto_region 1 with fail
 change Code.wp _ _ _ _ (w.alloc (.cells (Bc q e f t) 290))
 have x0:=(ah BX).cell 0 (.int .i64 q) rfl
 have x1:=(ah BX).cell 1 (.int .i64 e) rfl
 clear BX
 generalize w.alloc (.cells (Bc q e f t) 290)=w2 at *
 generalize hgb:w.heap.size=gb at *
 have HGB:=hide hgb
 clear hgb
 go_quiet (fail)
 go_wp2_with fail
 go_ret
 exact⟨rfl,by rw[ah HGB];exact below_drewN (ah B0) nq⟩
theorem aao {u:World}{a g:Nat}{P:Nat->Int}(ha:u.heap[a]?=some (alO g P))(hb:64<=P 0/\P 0<=4096) :
  Calls Tryz.prog 212 #[.pointer (some ⟨a,0,none⟩)] u fun e w'=>e=.returned (Bv (P 7) (8*P 0) (P 11) (P 1))/\Below u.heap.size u w':=by
 have B0:Hid (Below u.heap.size u (u.alloc (.cells (Bc 0 0 0 0) 290))):=(Below.refl _ _).alloc (Nat.le_refl _) _
 have BX:=hide (Bl.new u (Bc 0 0 0 0) 290)
 have HA:Bl (u.alloc (.cells (Bc 0 0 0 0) 290)) a (alA g P) 112:=Bl.alloc (u:=u) ha _
 have hw:IntKind.i64.wrap (8*P 0)=8*P 0:=by rw[IntKind.wrap_i64];omega
 clear ha
 have z0:=(ah BX).cell 0 (.int .i64 0) rfl
 have z1:=(ah BX).cell 1 (.int .i64 0) rfl
 have z2:=(ah BX).cell 2 (.int .i64 0) rfl
 have z3:=(ah BX).cell 3 (.int .i64 0) rfl
 have fz:=(ah BX).free
 have y0:=HA.cell 1 (.int .i64 (P 0)) rfl
 have y1:=HA.cell 2 (.int .i64 (P 1)) rfl
 have y7:=HA.cell 8 (.int .i64 (P 7)) rfl
 have y11:=HA.cell 12 (.int .i64 (P 11)) rfl
 go_enter Tryz.func212,Tryz.ntmps212
 go_upto_region 1 with fail
 change Code.wp _ _ _ _ (u.alloc (.cells (Bc 0 0 0 0) 290))
 clear HA
 generalize u.alloc (.cells (Bc 0 0 0 0) 290)=w2 at *
 generalize hgb:u.heap.size=gb at *
 have HGB:=hide hgb
 clear hgb
 go_region
 have hA:Bl (au w2 gb 0 [.int .i64 (P 7),.int .i64 (8*P 0),.int .i64 (P 11),.int .i64 (P 1)]).drew gb (Bc (P 7) (8*P 0) (P 11) (P 1)) 290:=(aI [.int .i64 (P 7),.int .i64 (8*P 0),.int .i64 (P 11),.int .i64 (P 1)] w2 _ (ah BX) rfl).drew
 have hW:Below gb u (au w2 gb 0 [.int .i64 (P 7),.int .i64 (8*P 0),.int .i64 (P 11),.int .i64 (P 1)]).drew:=(aN (Nat.le_refl _) _ _ _ _ (ah B0)).drew
 go_wp2_with fail
 change bodyPost _ _ _ _ _ (au w2 gb 0 [.int .i64 (P 7),.int .i64 (8*P 0),.int .i64 (P 11),.int .i64 (P 1)]).drew
 generalize (au w2 gb 0 [.int .i64 (P 7),.int .i64 (8*P 0),.int .i64 (P 11),.int .i64 (P 1)]).drew=wf at *
 refine bodyPost_ret (v:=Bv (P 7) (8*P 0) (P 11) (P 1)) ?_ rfl ⟨rfl,by rw[ah HGB];exact hW⟩
 simp[results,Tryz.results212,go_sem,hA.cell 0 _ rfl,hA.cell 1 _ rfl,hA.cell 2 _ rfl,hA.cell 3 _ rfl]
theorem iU {α:Type}{a b:α}{l:List α}:∀ x∈a::b::l,x∈b::a::l:=fun x hx=>by
 rcases List.mem_cons.1 hx with e | e
 ·rw[e];simp
 ·rcases List.mem_cons.1 e with e | e
  ·rw[e];simp
  ·exact List.mem_cons_of_mem _ (List.mem_cons_of_mem _ e)
theorem aa2 {α:Type}{a b:α}{l:List α}:∀ x∈a::l,x∈a::b::l:=fun x hx=>by
 rcases List.mem_cons.1 hx with e | e
 ·rw[e];simp
 ·exact List.mem_cons_of_mem _ (List.mem_cons_of_mem _ e)
theorem adz {α:Type}{a b c:α}{l:List α}:∀ x∈a::l,x∈a::b::c::l:=fun x hx=>by
 rcases List.mem_cons.1 hx with e | e
 ·rw[e];simp
 ·exact List.mem_cons_of_mem _ (List.mem_cons_of_mem _ (List.mem_cons_of_mem _ e))
def ob1 (z:Int):Obj:=.cells #[.int .i64 z] 3 (0,0)
theorem acF {w P G E g o}{rows:List (Nat×Obj)}{i V F V' K u}{c:Nat}{z:Int}(h:Lp w P G E g o ((c,ob1 z)::rows) i V F V' K u)(hc:w.heap.size<=c)(h0:1<w.heap.size)(hn:∀ x∈rows,x.1≠c)(x:Int) :
  Calls Tryz.prog 244 #[.int .i64 x,.pointer (some ⟨c,0,none⟩)] u fun e u'=>e=.returned (.bool false)/\Hid (Lp w P G E g o ((c,ob1 x)::rows) i V F V' K u'):=by
 have hr:Bl u c #[.int .i64 z] 3:=h.row (x:=(c,ob1 z)) (by simp)
 have c0:=hr.cell 0 (.int .i64 z) rfl
 have fz:=hr.free 0
 have Z:=hide (h.set hc h0 hn 0 (.int .i64 x) (ob':=ob1 x) (hr.set 0 _))
 clear h hr hn hc h0
 go_enter Tryz.func244,Tryz.ntmps244
 go_wp2
 go_ret
 exact⟨rfl,Z⟩
def FJ0 (w:World) (P:Nat->Int) (G:Geo) (E:Nat->Bool) (g o:Nat) (rows:List (Nat×Obj)) (i:Nat) (V:Nat->List Int) (F:Nat->Bool) (V':Nat->List Int) (K:Nat->Bool) (c b:Nat) (ei:Int) (f t:Nat) (kf mf:Value) (cv:Nat->Int) (iv:Nat->Prop) (mb:Nat) (a':Act) (w':World):Prop :=
 ∃ j:Nat,f<=j/\j<=t/\(j=f\/j=t)/\Hid (iv j)/\Hid (Lp w P G E g o ((c,ob1 (cv j))::(mb,.cells (Bc (b:Int) ei (f:Int) (t:Int)) 290)::rows) i V F V' K w')/\∃ fn:Nat->Value,a'={ tmps:=#[Bv (b:Int) ei (f:Int) (t:Int),.pointer (some ⟨o,0,none⟩),kf,mf,.pointer (some ⟨mb,0,none⟩),fn 5,fn 6,fn 7,fn 8,.int .i64 (j:Int),fn 10,fn 11,fn 12,fn 13,fn 14,fn 15,fn 16,fn 17,fn 18,fn 19,fn 20,fn 21,fn 22,fn 23,fn 24,fn 25,fn 26,fn 27,fn 28,fn 29,fn 30,fn 31,fn 32,fn 33,fn 34,fn 35,fn 36,fn 37,fn 38,fn 39,fn 40,fn 41,fn 42,fn 43,fn 44,fn 45,fn 46,fn 47,fn 48,fn 49,fn 50,fn 51,fn 52,fn 53,fn 54,fn 55,fn 56,fn 57,fn 58,fn 59,fn 60,fn 61,fn 62,fn 63,fn 64,fn 65,fn 66,fn 67,fn 68,fn 69,fn 70,fn 71,fn 72,fn 73,fn 74],defers:=[] }
def FJ1 (w:World) (P:Nat->Int) (G:Geo) (E:Nat->Bool) (g o:Nat) (rows:List (Nat×Obj)) (i:Nat) (V:Nat->List Int) (F:Nat->Bool) (V':Nat->List Int) (K:Nat->Bool) (c b:Nat) (ei:Int) (f t:Nat) (kf mf:Value) (cv:Nat->Int) (iv:Nat->Prop) (mb:Nat) (a':Act) (w':World):Prop :=
 ∃ j:Nat,f<=j/\j<=t/\Hid (iv j)/\∃ k cp:Nat,Hid (c≠k)/\Hid (∃ ob,Dr cp G.blk (V' b) ob/\Lp w P G E g o ((c,ob1 (cv j))::(k,ob)::(mb,.cells (Bc (b:Int) ei (f:Int) (t:Int)) 290)::rows) i V F V' K w')/\∃ fn:Nat->Value,a'={ tmps:=#[Bv (b:Int) ei (f:Int) (t:Int),.pointer (some ⟨o,0,none⟩),kf,mf,.pointer (some ⟨mb,0,none⟩),fn 5,fn 6,fn 7,fn 8,.int .i64 (j:Int),.int .i64 0,.int .i64 (t:Int),.slice (some ⟨k,0,none⟩) G.blk cp,fn 13,fn 14,fn 15,fn 16,fn 17,fn 18,fn 19,fn 20,fn 21,fn 22,fn 23,fn 24,fn 25,fn 26,fn 27,fn 28,fn 29,fn 30,fn 31,fn 32,fn 33,fn 34,fn 35,fn 36,fn 37,fn 38,fn 39,fn 40,fn 41,fn 42,fn 43,fn 44,fn 45,fn 46,fn 47,fn 48,fn 49,fn 50,fn 51,fn 52,fn 53,fn 54,fn 55,fn 56,fn 57,fn 58,fn 59,fn 60,fn 61,fn 62,fn 63,fn 64,fn 65,fn 66,fn 67,fn 68,fn 69,fn 70,fn 71,fn 72,fn 73,fn 74],defers:=[] }
theorem FJ0.mk {w:World}{P:Nat->Int}{G:Geo}{E:Nat->Bool}{g o:Nat}{rows:List (Nat×Obj)}{i:Nat}{V:Nat->List Int}{F:Nat->Bool}{V':Nat->List Int}{K:Nat->Bool}{c b:Nat}{ei:Int}{f t:Nat}{kf mf:Value}{cv:Nat->Int}{iv:Nat->Prop}{mb:Nat}{w':World}{ji:Int}{u5 u6 u7 u8 u10 u11 u12 u13 u14 u15 u16 u17 u18 u19 u20 u21 u22 u23 u24 u25 u26 u27 u28 u29 u30 u31 u32 u33 u34 u35 u36 u37 u38 u39 u40 u41 u42 u43 u44 u45 u46 u47 u48 u49 u50 u51 u52 u53 u54 u55 u56 u57 u58 u59 u60 u61 u62 u63 u64 u65 u66 u67 u68 u69 u70 u71 u72 u73 u74:Value}(j:Nat)(hj:ji=(j:Int))(h1:f<=j)(h2:j<=t)(h3:j=f\/j=t)(h4:Hid (iv j))(h5:Hid (Lp w P G E g o ((c,ob1 (cv j))::(mb,.cells (Bc (b:Int) ei (f:Int) (t:Int)) 290)::rows) i V F V' K w')) :
  FJ0 w P G E g o rows i V F V' K c b ei f t kf mf cv iv mb { tmps:=#[Bv (b:Int) ei (f:Int) (t:Int),.pointer (some ⟨o,0,none⟩),kf,mf,.pointer (some ⟨mb,0,none⟩),u5,u6,u7,u8,.int .i64 ji,u10,u11,u12,u13,u14,u15,u16,u17,u18,u19,u20,u21,u22,u23,u24,u25,u26,u27,u28,u29,u30,u31,u32,u33,u34,u35,u36,u37,u38,u39,u40,u41,u42,u43,u44,u45,u46,u47,u48,u49,u50,u51,u52,u53,u54,u55,u56,u57,u58,u59,u60,u61,u62,u63,u64,u65,u66,u67,u68,u69,u70,u71,u72,u73,u74],defers:=[] } w':=by
 subst hj
 exact⟨j,h1,h2,h3,h4,h5,fun k=>[undef,undef,undef,undef,undef,u5,u6,u7,u8,undef,u10,u11,u12,u13,u14,u15,u16,u17,u18,u19,u20,u21,u22,u23,u24,u25,u26,u27,u28,u29,u30,u31,u32,u33,u34,u35,u36,u37,u38,u39,u40,u41,u42,u43,u44,u45,u46,u47,u48,u49,u50,u51,u52,u53,u54,u55,u56,u57,u58,u59,u60,u61,u62,u63,u64,u65,u66,u67,u68,u69,u70,u71,u72,u73,u74].getD k undef,rfl⟩
theorem FJ1.mk {w:World}{P:Nat->Int}{G:Geo}{E:Nat->Bool}{g o:Nat}{rows:List (Nat×Obj)}{i:Nat}{V:Nat->List Int}{F:Nat->Bool}{V':Nat->List Int}{K:Nat->Bool}{c b:Nat}{ei:Int}{f t:Nat}{kf mf:Value}{cv:Nat->Int}{iv:Nat->Prop}{mb:Nat}{w':World}{ji:Int}{k cp:Nat}{u5 u6 u7 u8 u13 u14 u15 u16 u17 u18 u19 u20 u21 u22 u23 u24 u25 u26 u27 u28 u29 u30 u31 u32 u33 u34 u35 u36 u37 u38 u39 u40 u41 u42 u43 u44 u45 u46 u47 u48 u49 u50 u51 u52 u53 u54 u55 u56 u57 u58 u59 u60 u61 u62 u63 u64 u65 u66 u67 u68 u69 u70 u71 u72 u73 u74:Value}(j:Nat)(hj:ji=(j:Int))(h1:f<=j)(h2:j<=t)(h4:Hid (iv j))(h6:Hid (c≠k))(h5:Hid (∃ ob,Dr cp G.blk (V' b) ob/\Lp w P G E g o ((c,ob1 (cv j))::(k,ob)::(mb,.cells (Bc (b:Int) ei (f:Int) (t:Int)) 290)::rows) i V F V' K w')) :
  FJ1 w P G E g o rows i V F V' K c b ei f t kf mf cv iv mb { tmps:=#[Bv (b:Int) ei (f:Int) (t:Int),.pointer (some ⟨o,0,none⟩),kf,mf,.pointer (some ⟨mb,0,none⟩),u5,u6,u7,u8,.int .i64 ji,.int .i64 0,.int .i64 (t:Int),.slice (some ⟨k,0,none⟩) G.blk cp,u13,u14,u15,u16,u17,u18,u19,u20,u21,u22,u23,u24,u25,u26,u27,u28,u29,u30,u31,u32,u33,u34,u35,u36,u37,u38,u39,u40,u41,u42,u43,u44,u45,u46,u47,u48,u49,u50,u51,u52,u53,u54,u55,u56,u57,u58,u59,u60,u61,u62,u63,u64,u65,u66,u67,u68,u69,u70,u71,u72,u73,u74],defers:=[] } w':=by
 subst hj
 exact⟨j,h1,h2,h4,k,cp,h6,h5,fun k=>[undef,undef,undef,undef,undef,u5,u6,u7,u8,undef,undef,undef,undef,u13,u14,u15,u16,u17,u18,u19,u20,u21,u22,u23,u24,u25,u26,u27,u28,u29,u30,u31,u32,u33,u34,u35,u36,u37,u38,u39,u40,u41,u42,u43,u44,u45,u46,u47,u48,u49,u50,u51,u52,u53,u54,u55,u56,u57,u58,u59,u60,u61,u62,u63,u64,u65,u66,u67,u68,u69,u70,u71,u72,u73,u74].getD k undef,rfl⟩
def fm0 (t:Nat) (a':Act) (_:World):Nat:=3*(t - (intOf (a'.tmps.getD 9 undef)).toNat)
def fm1 (t:Nat) (a':Act) (_:World):Nat:=1+(t - (intOf (a'.tmps.getD 9 undef)).toNat)
theorem aic {w:World}{P:Nat->Int}{G:Geo}{E:Nat->Bool}{g o:Nat}{rows:List (Nat×Obj)}{i:Nat}{V:Nat->List Int}{F:Nat->Bool}{V':Nat->List Int}{K:Nat->Bool}{u:World}{c b:Nat}(f t:Nat)(h:Lp w P G E g o ((c,ob1 (t:Int))::rows) i V F V' K u)(hb:E b=true)(ei:Int)(hei:ei=8*(G.blk:Int))(hft:f<=t)(ht:t<=8*G.blk)(hb4:b<=4096)(hc:w.heap.size<=c)(h0:1<w.heap.size)(hn:∀ x∈rows,x.1≠c)(he:∀ j,f<=j->j<t->P 11<=(j:Int)/\j<G.n) :
  Calls Tryz.prog 243 #[Bv (b:Int) ei (f:Int) (t:Int),.pointer (some ⟨o,0,none⟩),.func (.func 223) #[.pointer (some ⟨g,0,none⟩)] #[],.func (.func 244) #[] #[.pointer (some ⟨c,0,none⟩)]] u fun e u'=>e=.returned (.int .i64 0)/\Hid (Lp w P G E g o ((c,ob1 ((skp (cand (V' b) K) f (t - f):Nat):Int))::rows) i V F V' K u'):=by
 obtain⟨hz1,hz2⟩:=h.vb hb
 have hG:=h.ok.ok
 have hbk:=hG.blk
 have hcu:=h.lt (x:=(c,ob1 (t:Int))) (by simp)
 have B0:Below u.heap.size u (u.alloc (.cells (Bc (b:Int) ei (f:Int) (t:Int)) 290)):=(Below.refl _ _).alloc (Nat.le_refl _) _
 have H0:Hid (Lp w P G E g o ((c,ob1 (t:Int))::(u.heap.size,.cells (Bc (b:Int) ei (f:Int) (t:Int)) 290)::rows) i V F V' K (u.alloc (.cells (Bc (b:Int) ei (f:Int) (t:Int)) 290))):=(h.new (.cells (Bc (b:Int) ei (f:Int) (t:Int)) 290)).sub iU
 have BX:=hide (Bl.new u (Bc (b:Int) ei (f:Int) (t:Int)) 290)
 have hn2:∀ x∈(u.heap.size,Obj.cells (Bc (b:Int) ei (f:Int) (t:Int)) 290)::rows,x.1≠c:=fun x hx=>by
  rcases List.mem_cons.1 hx with e | e
  ·subst e;show u.heap.size≠c;omega
  ·exact hn x e
 have HN2:=hide hn2
 have HC:=hide hc
 have HC0:=hide h0
 have HZ2:=hide hz2
 have HE:=hide hei
 have HKE:=hide he
 have HCu:Hid (c<u.heap.size):=hcu
 have KB:Hid (∀ v,f<t->Calls Tryz.prog 225 #[Bv (b:Int) ei (f:Int) (t:Int),.int .i64 (f:Int)] v fun e w'=>e=.returned (.int .i64 (b:Int))/\Below v.heap.size v w'):=fun v hlt=>sN (b:Int) ei (f:Int) (t:Int) (f:Int) v (by omega) (by omega) (by omega) (by omega)
 have KR:Hid (∀ v,Lp w P G E g o ((c,ob1 (t:Int))::(u.heap.size,.cells (Bc (b:Int) ei (f:Int) (t:Int)) 290)::rows) i V F V' K v->Calls Tryz.prog 83 #[.pointer (some ⟨o,0,none⟩),.int .i64 (b:Int)] v fun e u1=>∃ k cp,e=.returned (.tuple #[.slice (some ⟨k,0,none⟩) G.blk cp,.int .i64 0])/\Hid (c≠k)/\Hid (∃ ob,Dr cp G.blk (V' b) ob/\Lp w P G E g o ((c,ob1 (t:Int))::(k,ob)::(u.heap.size,.cells (Bc (b:Int) ei (f:Int) (t:Int)) 290)::rows) i V F V' K u1)):=fun v hv=>by
  refine(rP hv hb).mono ?_
  rintro e u1 ⟨k,cp,rfl,Y⟩
  obtain⟨ob,d1,hk1,l1⟩:=ah Y
  have hcv:=hv.lt (x:=(c,ob1 (t:Int))) (by simp)
  exact⟨k,cp,rfl,(by show c≠k;have:c<v.heap.size:=hcv;omega),ob,d1,l1.sub iU⟩
 clear h hn hc h0 hei hb hn2 hcu B0 hz2
 generalize hmb:u.heap.size=mb at *
 have HMB:=hide hmb
 clear hmb
 have hm1:f<t->(f:Int).tmod ei=(f:Int):=fun hlt=>Int.tmod_eq_of_lt (by omega) (by have:=ah HE;omega)
 go_enter Tryz.func243,Tryz.ntmps243
 go_wp2
 refine mV 0 1 (FJ0 w P G E g o rows i V F V' K c b ei f t (.func (.func 223) #[.pointer (some ⟨g,0,none⟩)] #[]) (.func (.func 244) #[] #[.pointer (some ⟨c,0,none⟩)]) (fun _=>(t:Int)) (fun j=>NoC (cand (V' b) K) f j) mb) (FJ1 w P G E g o rows i V F V' K c b ei f t (.func (.func 223) #[.pointer (some ⟨g,0,none⟩)] #[]) (.func (.func 244) #[] #[.pointer (some ⟨c,0,none⟩)]) (fun _=>(t:Int)) (fun j=>NoC (cand (V' b) K) f j) mb) (fm0 t) (fm1 t) rfl rfl ?_ ?_ ?_
 ·intro a' w' hJ
  clear KB KR H0 BX
  obtain⟨j,hj1,hj2,hiv,k,cp,CK,HL,fn,rfl⟩:=hJ
  have hin:inP G.blk (j:Int) (t:Int)=true:=ajw hj2 ht
  have KF:Calls Tryz.prog 251 #[.slice (some ⟨k,0,none⟩) G.blk cp,.int .i64 (j:Int),.int .i64 (t:Int)] w' fun e w1=>e=.returned (.tuple #[.int .i64 (bfv G.blk (V' b) (j:Int) (t:Int)),.int .i64 (bfe G.blk (V' b) (j:Int) (t:Int))])/\∃ m,w1=w'.drewN m:=by
   obtain⟨ob,d1,l1⟩:=ah HL
   exact first_any (some ⟨k,0,none⟩) G.blk cp (V' b) (j:Int) (t:Int) w' (d1.has (l1.row (x:=(k,ob)) (by simp))) (ah HZ2) (by omega)
  rw[ae1 _ hin,ae2 _ hin] at KF
  have hgl:=zN (V' b) j (t - j)
  by_cases hg:jR (V' b) j (t - j)<t - j
  ·rw[if_pos hg,if_pos hg] at KF
   obtain⟨x,hx⟩:∃ x,x=j+jR (V' b) j (t - j):=⟨_,rfl⟩
   have hbit:dQ (V' b) x=false:=by rw[hx];exact zO _ _ _ hg
   rw[← hx] at KF
   have hxt:x<t:=by omega
   have hxj:j<=x:=by omega
   have NX:Hid (NoC (cand (V' b) K) j x):=ahZ (V' b) K j (t - j) (by omega)
   have IX:Hid (NoC (cand (V' b) K) f x):=(ah hiv).gap (n:=t - j) (by omega)
   have KK:Hid (∀ v,Below w'.heap.size w' v->Calls Tryz.prog 223 #[.pointer (some ⟨g,0,none⟩),.int .i64 (x:Int)] v fun e u1=>e=.returned (.bool (K x))/\Hid (∃ ob,Dr cp G.blk (V' b) ob/\Lp w P G E g o ((c,ob1 (t:Int))::(k,ob)::(mb,.cells (Bc (b:Int) ei (f:Int) (t:Int)) 290)::rows) i V F V' K u1)):=fun v hv=>by
    obtain⟨ob,d1,l1⟩:=ah HL
    obtain⟨e1,e2⟩:=ah HKE x (by omega) hxt
    refine(aj0 (l1.later hv) e1 e2).mono ?_
    rintro e u1 ⟨rfl,Y⟩
    exact⟨rfl,ob,d1,ah Y⟩
   have KF':=hide KF
   clear KF hg hgl hin HL hx
   cases hKx:K x with
   | true =>
    have hcx:cand (V' b) K x=false:=by simp[cand,hKx]
    rw[hKx] at KK
    have IX1:Hid (NoC (cand (V' b) K) f (x+1)):=(ah IX).next hcx
    clear hKx hcx hbit
    go_wp2_with fail
    go_at_call 251
    refine(ah KF').mono ?_
    rintro e w1 ⟨rfl,q1,rfl⟩
    have K2:=hide (ah KK _ (below_drewN (Below.refl _ _) q1))
    clear KF' KK
    generalize w'.drewN q1=w1 at *
    go_wp2_with fail
    go_at_call 223
    refine(ah K2).mono ?_
    rintro e w2 ⟨rfl,Z2⟩
    clear K2
    go_wp2_with fail
    go_step3
    refine .inr ⟨rfl,FJ1.mk (x+1) (by go_num) (by omega) (by omega) IX1 CK (by exact Z2),by simp[fm1,intOf];omega⟩
   | false =>
    rw[hKx] at KK
    have hcx:cand (V' b) K x=true:=by simp[cand,hKx,hbit]
    clear hKx hbit
    have HS:Hid (skp (cand (V' b) K) f (t - f)=x):=acM (by omega) (by omega) (ah IX) (.inr hcx)
    have KM:Hid (∀ v,(∃ ob,Dr cp G.blk (V' b) ob/\Lp w P G E g o ((c,ob1 (t:Int))::(k,ob)::(mb,.cells (Bc (b:Int) ei (f:Int) (t:Int)) 290)::rows) i V F V' K v)->c≠k->Calls Tryz.prog 244 #[.int .i64 (x:Int),.pointer (some ⟨c,0,none⟩)] v fun e u'=>e=.returned (.bool false)/\Hid (Lp w P G E g o ((c,ob1 (x:Int))::rows) i V F V' K u')):=fun v hv hck=>by
     obtain⟨ob,d1,l1⟩:=hv
     refine(acF l1 (ah HC) (ah HC0) (fun y hy=>?_) (x:Int)).mono ?_
     ·rcases List.mem_cons.1 hy with e | e
      ·subst e;exact fun e=>hck e.symm
      ·exact ah HN2 y e
     ·rintro e u' ⟨rfl,Y⟩
      exact⟨rfl,(ah Y).sub adz⟩
    clear hcx
    go_wp2_with fail
    go_at_call 251
    refine(ah KF').mono ?_
    rintro e w1 ⟨rfl,q1,rfl⟩
    have K2:=hide (ah KK _ (below_drewN (Below.refl _ _) q1))
    clear KF' KK
    generalize w'.drewN q1=w1 at *
    go_wp2_with fail
    go_at_call 223
    refine(ah K2).mono ?_
    rintro e w2 ⟨rfl,Z2⟩
    clear K2
    have K3:=hide (ah KM _ (ah Z2) (ah CK))
    clear KM Z2
    go_wp2_with fail
    go_at_call 244
    refine(ah K3).mono ?_
    rintro e w3 ⟨rfl,Z3⟩
    clear K3
    go_wp2_with fail
    rw[l9]
    go_ret
    exact⟨rfl,by rw[ah HS];exact Z3⟩
  ·rw[if_neg hg,if_neg hg] at KF
   have IX:Hid (NoC (cand (V' b) K) f t):=(ah hiv).gap (n:=t - j) (by omega)
   have Z:Hid (∀ v,Below w'.heap.size w' v->Lp w P G E g o ((c,ob1 (t:Int))::(mb,.cells (Bc (b:Int) ei (f:Int) (t:Int)) 290)::rows) i V F V' K v):=fun v hv=>by
    obtain⟨ob,d1,l1⟩:=ah HL
    exact(l1.later hv).sub aa2
   have KF':=hide KF
   clear KF hg hgl hin HL
   go_wp2_with fail
   go_at_call 251
   refine(ah KF').mono ?_
   rintro e w1 ⟨rfl,q1,rfl⟩
   have Z1:=hide (ah Z _ (below_drewN (Below.refl _ _) q1))
   clear KF' Z
   generalize w'.drewN q1=w1 at *
   go_wp2_with fail
   go_step3
   refine .inl ⟨rfl,FJ0.mk t rfl hft (Nat.le_refl _) (.inr rfl) IX Z1,by first | (simp[fm0,fm1,intOf];done) | (simp[fm0,fm1,intOf];omega)⟩
 ·intro H1 a' w' hJ
  have N1:=hide H1
  clear H1 H0 BX
  obtain⟨j,hj1,hj2,hj3,hiv,HL,fn,rfl⟩:=hJ
  by_cases hlt:j<t
  ·have ejf:f=j:=by omega
   subst ejf
   have hm2:=hm1 hlt
   have hne:ei≠0:=by have:=ah HE;omega
   have hq0:0<ei/\ei<=65536:=by have:=ah HE;omega
   have htm:min (0+ei) (t:Int)=(t:Int):=by have:=ah HE;omega
   have anW:min ei (t:Int)=(t:Int):=by have:=ah HE;omega
   have bl0:Bl w' mb (Bc (b:Int) ei (f:Int) (t:Int)) 290:=(ah HL).row (x:=(mb,.cells (Bc (b:Int) ei (f:Int) (t:Int)) 290)) (by simp)
   have x0:=bl0.cell 0 (.int .i64 (b:Int)) rfl
   have x1:=bl0.cell 1 (.int .i64 ei) rfl
   have x2:=bl0.cell 2 (.int .i64 (f:Int)) rfl
   have x3:=bl0.cell 3 (.int .i64 (t:Int)) rfl
   clear bl0
   go_wp2_with fail
   go_at_call 225
   refine(ah KB _ hlt).mono ?_
   rintro e w1 ⟨rfl,hb1⟩
   have K2:=hide (ah KR _ ((ah HL).later hb1))
   clear x0 x1 x2 x3 hb1 KR
   go_wp2_with fail
   go_at_call 83
   refine(ah K2).mono ?_
   rintro e w2 ⟨k,cp,rfl,CK,Z2⟩
   clear K2
   go_wp2_with fail
   go_step3
   rename_i hK
   refine hK _ _ ?_
   refine ah N1 _ _ _ (FJ1.mk f rfl (Nat.le_refl _) hj2 hiv CK Z2) (by simp[fm0,fm1,intOf];omega)
  ·have ejt:t=j:=by omega
   subst ejt
   have bl0:Bl w' mb (Bc (b:Int) ei (f:Int) (t:Int)) 290:=(ah HL).row (x:=(mb,.cells (Bc (b:Int) ei (f:Int) (t:Int)) 290)) (by simp)
   have x3:=bl0.cell 3 (.int .i64 (t:Int)) rfl
   have Z:=hide ((ah HL).sub (rows':=(c,ob1 (t:Int))::rows) aa2)
   clear bl0 HL
   go_wp2_with fail
   rw[l9]
   go_ret
   exact⟨rfl,by rw[acM (x:=t) (by omega) (by omega) (ah hiv) (.inl (by omega))];exact Z⟩
 ·intro H
  have N0:=hide H
  clear H KB KR
  have bl0:Bl _ mb (Bc (b:Int) ei (f:Int) (t:Int)) 290:=(ah H0).row (x:=(mb,.cells (Bc (b:Int) ei (f:Int) (t:Int)) 290)) (by simp)
  have x2:=bl0.cell 2 (.int .i64 (f:Int)) rfl
  clear bl0
  go_wp2_with fail
  go_step3
  rename_i hK
  refine hK _ _ ?_
  rw[ah HMB]
  refine ah N0 _ _ (FJ0.mk f rfl (Nat.le_refl _) hft (.inl rfl) ?_ ?_)
  ·exact hide (NoC.start _ _)
  ·exact H0
theorem aeS {w P G E g o rows i V F V' K u}{b:Nat}(h:Lp w P G E g o rows i V F V' K u)(hb:E b=true)(ei:Int)(hei:ei=8*(G.blk:Int))(f t:Int)(x:Nat)(hx:x<8*G.blk)(hb4:b<=4096)(on:Bool) :
  Calls Tryz.prog 213 #[Bv (b:Int) ei f t,.pointer (some ⟨o,0,none⟩),.int .i64 (x:Int),.bool on] u fun e u'=>e=.returned (.int .i64 (if dQ (V' b) x=on then 11 else 0))/\Hid (Lp w P G E g o rows i V F (if dQ (V' b) x=on then V' else fun j=>if j=b then setB (V' b) x on else V' j) K u'):=by
 obtain⟨hz1,hz2⟩:=h.vb hb
 have hG:=h.ok.ok
 have hbk:=hG.blk
 have H0:=hide (h.new (.cells (Bc (b:Int) ei f t) 290))
 have KB:Hid (∀ v,Calls Tryz.prog 225 #[Bv (b:Int) ei f t,.int .i64 (x:Int)] v fun e w'=>e=.returned (.int .i64 (b:Int))/\Below v.heap.size v w'):=fun v=>sN (b:Int) ei f t (x:Int) v (by omega) (by omega) (by omega) (by omega)
 have KR:Hid (∀ v rows',Lp w P G E g o rows' i V F V' K v->Calls Tryz.prog 83 #[.pointer (some ⟨o,0,none⟩),.int .i64 (b:Int)] v fun e u1=>∃ k c,e=.returned (.tuple #[.slice (some ⟨k,0,none⟩) G.blk c,.int .i64 0])/\Hid (∃ ob,Dr c G.blk (V' b) ob/\Lp w P G E g o ((k,ob)::rows') i V F V' K u1)):=fun v rows' hv=>by
  refine(rP hv hb).mono ?_
  rintro e u1 ⟨k,c,rfl,Y⟩
  obtain⟨ob,d1,_,l1⟩:=ah Y
  exact⟨k,c,rfl,ob,d1,l1⟩
 have KG:Hid (∀ v k c rows' ob,Dr c G.blk (V' b) ob->Lp w P G E g o ((k,ob)::rows') i V F V' K v->Calls Tryz.prog 209 #[.slice (some ⟨k,0,none⟩) G.blk c,.int .i64 (x:Int)] v fun e w'=>e=.returned (.tuple #[.bool (dQ (V' b) x),.int .i64 0])/\∃ m,w'=v.drewN m):=fun v k c rows' ob d1 l1=>by
  have:=agq (some ⟨k,0,none⟩) G.blk c (V' b) (x:Int) v (d1.has (l1.row (x:=(k,ob)) (by simp))) hz2 (by omega)
  have e1:bgv G.blk (V' b) (x:Int)=dQ (V' b) x:=by rw[bgv,adJ hx,Int.toNat_natCast,Bool.true_and]
  have e2:bge G.blk (x:Int)=0:=by rw[bge,adJ hx];rfl
  rwa [e1,e2] at this
 have KS:Hid (∀ v k c rows' ob,Dr c G.blk (V' b) ob->Lp w P G E g o ((k,ob)::rows') i V F V' K v->Calls Tryz.prog 226 #[.slice (some ⟨k,0,none⟩) G.blk c,.int .i64 (x:Int),.bool on] v fun e w'=>e=.returned (.tuple #[.slice (some ⟨v.heap.size,0,none⟩) G.blk G.blk,.int .i64 0])/\Hid (Lp w P G E g o rows' i V F V' K w'/\Row w'.heap.size w' (some ⟨v.heap.size,0,none⟩) G.blk G.blk (setB (V' b) x on))):=fun v k c rows' ob d1 l1=>by
  refine(afh (some ⟨k,0,none⟩) G.blk c (V' b) x on v (d1.has (l1.row (x:=(k,ob)) (by simp))) hz2 (by omega) hx).mono ?_
  rintro e w' ⟨rfl,B1,b1⟩
  have hh:=(ah B1).has (len:=G.blk) (by rw[jU];exact hz1)
  refine⟨rfl,(l1.later b1).pop,by rw[jU];exact hz1,Nat.le_refl _,by omega,vK hz2 x on,fun hp=>?_⟩
  obtain⟨b',off',e',hc'⟩:=hh.2 hp
  exact⟨b',off',e',hh.lt hp e',hc'⟩
 have KW:Hid (∀ v rows' a c zs,Lp w P G E g o rows' i V F V' K v->Row v.heap.size v a G.blk c zs->Calls Tryz.prog 51 #[.pointer (some ⟨o,0,none⟩),.int .i64 (b:Int),.slice a G.blk c] v fun e u1=>e=.returned (.int .i64 0)/\Hid (Lp w P G E g o rows' i V F (fun j=>if j=b then zs else V' j) K u1)):=fun v rows' a c zs hv hr=>adS hv hb a c zs hr
 have hm1:(x:Int).tmod ei=(x:Int):=Int.tmod_eq_of_lt (by omega) (by omega)
 have hm2:(x:Int)%ei=(x:Int):=Int.emod_eq_of_lt (by omega) (by omega)
 have hne:ei≠0:=by omega
 have hx0:0<=(x:Int)/\(x:Int)<=65536:=by omega
 have hq0:0<ei/\ei<=65536:=by omega
 clear h hei hz1 hz2 hx hbk hb hb4
 generalize hqb:dQ (V' b) x=qb at *
 have HQ:=hide hqb
 clear hqb
 generalize (x:Int)=xi at *
 go_enter Tryz.func213,Tryz.ntmps213
 go_upto_region 1 with fail
 change Code.wp _ _ _ _ (u.alloc (.cells (Bc (b:Int) ei f t) 290))
 generalize u.alloc (.cells (Bc (b:Int) ei f t) 290)=w0 at *
 generalize u.heap.size=mb at *
 have bl0:Bl w0 mb (Bc (b:Int) ei f t) 290:=(ah H0).row (x:=(mb,.cells (Bc (b:Int) ei f t) 290)) (by simp)
 have x0:=bl0.cell 0 (.int .i64 (b:Int)) rfl
 have x1:=bl0.cell 1 (.int .i64 ei) rfl
 have x2:=bl0.cell 2 (.int .i64 f) rfl
 have x3:=bl0.cell 3 (.int .i64 t) rfl
 clear bl0
 go_wp2_with fail
 go_at_call 225
 refine(ah KB _).mono ?_
 rintro e w1 ⟨rfl,hb1⟩
 have H1:=hide ((ah H0).later hb1)
 clear H0 hb1 x0 x1 x2 x3
 go_wp2_with fail
 go_at_call 83
 refine(ah KR _ _ (ah H1)).mono ?_
 rintro e w2 ⟨k,c,rfl,Z2⟩
 obtain⟨ob,d2,l2⟩:=ah Z2
 have bl2:Bl w2 mb (Bc (b:Int) ei f t) 290:=l2.row (x:=(mb,.cells (Bc (b:Int) ei f t) 290)) (by simp)
 have x1:=bl2.cell 1 (.int .i64 ei) rfl
 have K3:=hide (ah KG w2 k c _ ob d2 l2)
 have D2:=hide d2
 have L2:=hide l2
 clear Z2 d2 l2 bl2 KG KR H1
 go_wp2_with fail
 go_at_call 209
 refine(ah K3).mono ?_
 rintro e w3 ⟨rfl,m3,rfl⟩
 have L3:=hide ((ah L2).later (below_drewN (Below.refl _ _) m3))
 clear L2 K3 x1
 generalize w2.drewN m3=w3 at *
 have bl3:Bl w3 mb (Bc (b:Int) ei f t) 290:=(ah L3).row (x:=(mb,.cells (Bc (b:Int) ei f t) 290)) (by simp)
 have x1:=bl3.cell 1 (.int .i64 ei) rfl
 clear bl3
 by_cases hq:qb=on
 ·subst hq
  have Z:=hide (ah L3).pop.pop
  clear L3 D2 KS KW KB
  go_wp2_with fail
  go_ret
  exact⟨rfl,Z⟩
 ·have hq':(qb==on)=false:=by simpa using hq
  have K4:=hide (ah KS w3 k c _ ob (ah D2) (ah L3))
  have HNQ:=hide hq
  clear hq KS L3 D2
  go_wp2_with fail
  go_at_call 226
  refine(ah K4).mono ?_
  rintro e w4 ⟨rfl,Z4⟩
  have L4:=hide (ah Z4).1
  have R4:=hide (ah Z4).2
  have bl4:Bl w4 mb (Bc (b:Int) ei f t) 290:=(ah L4).row (x:=(mb,.cells (Bc (b:Int) ei f t) 290)) (by simp)
  have x0:=bl4.cell 0 (.int .i64 (b:Int)) rfl
  have y1:=bl4.cell 1 (.int .i64 ei) rfl
  have x2:=bl4.cell 2 (.int .i64 f) rfl
  have x3:=bl4.cell 3 (.int .i64 t) rfl
  clear Z4 K4 bl4 x1
  generalize w3.heap.size=q4 at *
  go_wp2_with fail
  go_at_call 225
  refine(ah KB _).mono ?_
  rintro e w5 ⟨rfl,hb5⟩
  have K6:=hide (ah KW w5 _ _ _ _ ((ah L4).later hb5) ((ah R4).below hb5 hb5.size))
  clear KW L4 R4 hb5 x0 y1 x2 x3 KB
  go_wp2_with fail
  go_at_call 51
  refine(ah K6).mono ?_
  rintro e w6 ⟨rfl,Z6⟩
  clear K6
  go_wp2_with fail
  go_ret
  exact⟨rfl,hide (ah Z6).pop⟩
def ku (zs:List Int) (Q:Nat->Bool) (f t:Nat):Nat:=skp (cand zs Q) f (t - f)
def tkE (zs:List Int) (Q:Nat->Bool) (f t:Nat):Int:=if ku zs Q f t=t then 10 else 0
def tkN (zs:List Int) (Q:Nat->Bool) (f t:Nat):Int:=if ku zs Q f t=t then 0 else (ku zs Q f t:Nat)
def tkZ (zs:List Int) (Q:Nat->Bool) (f t:Nat):List Int:=if ku zs Q f t=t then zs else setB zs (ku zs Q f t) true
theorem ah7 (zs:List Int)(Q:Nat->Bool){f t:Nat}(h:f<=t):f<=ku zs Q f t/\ku zs Q f t<=t/\(ku zs Q f t≠t->dQ zs (ku zs Q f t)=false/\Q (ku zs Q f t)=false):=by
 obtain⟨h1,h2,h3,h4⟩:=ag1 (cand zs Q) (t - f) f
 refine⟨h1,by unfold ku;omega,fun hn=>?_⟩
 have:=h4 (by unfold ku at hn;omega)
 unfold ku
 simpa [cand] using this
theorem aiJ {w:World}{P:Nat->Int}{G:Geo}{E:Nat->Bool}{g o:Nat}{rows:List (Nat×Obj)}{i:Nat}{V:Nat->List Int}{F:Nat->Bool}{V':Nat->List Int}{K:Nat->Bool}{u:World}{b:Nat}(f t:Nat)(h:Lp w P G E g o rows i V F V' K u)(hb:E b=true)(ei:Int)(hei:ei=8*(G.blk:Int))(hft:f<=t)(ht:t<=8*G.blk)(hb4:b<=4096)(h0:1<w.heap.size)(he:∀ j,f<=j->j<t->P 11<=(j:Int)/\j<G.n) :
  Calls Tryz.prog 222 #[Bv (b:Int) ei (f:Int) (t:Int),.pointer (some ⟨o,0,none⟩),.func (.func 223) #[.pointer (some ⟨g,0,none⟩)] #[]] u fun e u'=>e=.returned (.tuple #[.int .i64 (tkN (V' b) K f t),.int .i64 (tkE (V' b) K f t)])/\Hid (Lp w P G E g o rows i V F (fun j=>if j=b then tkZ (V' b) K f t else V' j) K u'):=by
 obtain⟨l1,l2,l3⟩:=ah7 (V' b) K hft
 have hbk:=h.ok.ok.blk
 have hsz:=h.bel.size
 have B0:=h.new (.cells (Bc (b:Int) ei (f:Int) (t:Int)) 290)
 have hz0:(u.alloc (.cells (Bc (b:Int) ei (f:Int) (t:Int)) 290)).heap.size=u.heap.size+1:=by simp
 have B1:=B0.new (ob1 (t:Int))
 have H1:=hide B1
 unfold ob1 at H1
 have KF:Hid (Calls Tryz.prog 243 #[Bv (b:Int) ei (f:Int) (t:Int),.pointer (some ⟨o,0,none⟩),.func (.func 223) #[.pointer (some ⟨g,0,none⟩)] #[],.func (.func 244) #[] #[.pointer (some ⟨u.heap.size+1,0,none⟩)]] ((u.alloc (.cells (Bc (b:Int) ei (f:Int) (t:Int)) 290)).alloc (zI (t:Int))) fun e u'=>e=.returned (.int .i64 0)/\Hid (Lp w P G E g o ((u.heap.size+1,ob1 ((ku (V' b) K f t:Nat):Int))::(u.heap.size,.cells (Bc (b:Int) ei (f:Int) (t:Int)) 290)::rows) i V F V' K u')):=by
  rw[hz0] at B1
  exact aic f t B1 hb ei hei hft ht hb4 (by omega) h0 (fun x hx=>by
   have:x.1<(u.alloc (.cells (Bc (b:Int) ei (f:Int) (t:Int)) 290)).heap.size:=B0.lt hx
   omega) he
 have KT:Hid (∀ v rows',ku (V' b) K f t≠t->Lp w P G E g o rows' i V F V' K v->Calls Tryz.prog 213 #[Bv (b:Int) ei (f:Int) (t:Int),.pointer (some ⟨o,0,none⟩),.int .i64 ((ku (V' b) K f t:Nat):Int),.bool true] v fun e u'=>e=.returned (.int .i64 0)/\Hid (Lp w P G E g o rows' i V F (fun j=>if j=b then setB (V' b) (ku (V' b) K f t) true else V' j) K u')):=fun v rows' hne hv=>by
  have:=aeS hv hb ei hei (f:Int) (t:Int) (ku (V' b) K f t) (by omega) hb4 true
  rw[(l3 hne).1,if_neg (by simp),if_neg (by simp)] at this
  exact this
 have HX:Hid (ku (V' b) K f t<=t):=l2
 have ez:tkZ (V' b) K f t=if ku (V' b) K f t=t then V' b else setB (V' b) (ku (V' b) K f t) true:=rfl
 have en:tkN (V' b) K f t=if ku (V' b) K f t=t then 0 else ((ku (V' b) K f t:Nat):Int):=rfl
 have ee:tkE (V' b) K f t=if ku (V' b) K f t=t then 10 else 0:=rfl
 rw[ez,en,ee]
 clear ez en ee h B0 B1 hei hft hb4 h0 hb hz0 hsz l1 l2 l3
 generalize hx:ku (V' b) K f t=x at *
 clear hx
 go_enter Tryz.func222,Tryz.ntmps222
 go_upto_region 2 with fail
 change Code.wp _ _ _ _ ((u.alloc (.cells (Bc (b:Int) ei (f:Int) (t:Int)) 290)).alloc (zI (t:Int)))
 rw[show (u.alloc (.cells (Bc (b:Int) ei (f:Int) (t:Int)) 290)).heap.size=u.heap.size+1 by simp] at H1
 generalize (u.alloc (.cells (Bc (b:Int) ei (f:Int) (t:Int)) 290)).alloc (zI (t:Int))=w1 at *
 generalize u.heap.size=mb at *
 have bl0:Bl w1 mb (Bc (b:Int) ei (f:Int) (t:Int)) 290:=(ah H1).row (x:=(mb,.cells (Bc (b:Int) ei (f:Int) (t:Int)) 290)) (by simp)
 have x0:=bl0.cell 0 (.int .i64 (b:Int)) rfl
 have x1:=bl0.cell 1 (.int .i64 ei) rfl
 have x2:=bl0.cell 2 (.int .i64 (f:Int)) rfl
 have x3:=bl0.cell 3 (.int .i64 (t:Int)) rfl
 clear bl0 H1
 go_wp2_with fail
 go_at_call 243
 refine(ah KF).mono ?_
 rintro e w2 ⟨rfl,Z2⟩
 clear KF x0 x1 x2 x3
 have bl0:Bl w2 mb (Bc (b:Int) ei (f:Int) (t:Int)) 290:=(ah Z2).row (x:=(mb,.cells (Bc (b:Int) ei (f:Int) (t:Int)) 290)) (by simp)
 have bl1:Bl w2 (mb+1) #[.int .i64 (x:Int)] 3:=(ah Z2).row (x:=(mb+1,ob1 (x:Int))) (by simp)
 have x0:=bl0.cell 0 (.int .i64 (b:Int)) rfl
 have x1:=bl0.cell 1 (.int .i64 ei) rfl
 have x2:=bl0.cell 2 (.int .i64 (f:Int)) rfl
 have x3:=bl0.cell 3 (.int .i64 (t:Int)) rfl
 have y0:=bl1.cell 0 (.int .i64 (x:Int)) rfl
 clear bl0 bl1
 by_cases hx:x=t
 ·subst hx
  have Z:=hide (ah Z2).pop.pop
  clear Z2 KT
  go_wp2_with fail
  go_ret2
  refine⟨rfl,?_⟩
  have e:(fun j=>if j=b then V' b else V' j)=V':=by
   funext j
   by_cases ej:j=b<;>simp[ej]
  simpa [e] using Z
 ·have hx':((x:Int)==(t:Int))=false:=by simp;omega
  have K4:=hide (ah KT w2 _ hx (ah Z2))
  have HNX:=hide hx
  clear KT Z2 hx
  go_wp2_with fail
  go_at_call 213
  refine(ah K4).mono ?_
  rintro e w3 ⟨rfl,Z3⟩
  have bl1:Bl w3 (mb+1) #[.int .i64 (x:Int)] 3:=(ah Z3).row (x:=(mb+1,ob1 (x:Int))) (by simp)
  have y1:=bl1.cell 0 (.int .i64 (x:Int)) rfl
  have Z:=hide (ah Z3).pop.pop
  clear K4 x0 x1 x2 x3 y0 bl1 Z3
  go_wp2_with fail
  go_ret2
  refine⟨?_,?_⟩
  ·simp
  ·simpa [ah HNX] using Z
end Go.Proofs.YtefdkpbmeoakgaaGreatDoor
