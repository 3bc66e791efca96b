/- Joined: KRoom, KRoom2, KGet, KGet2, KPut. -/
import Derived.Test.YtefdkpbmeoakgaaGreatDoorDnJ16
import Derived.BigRegion
import Derived.Test.YtefdkpbmeoakgaaGreatDoorDnJ3
import Derived.Test.YtefdkpbmeoakgaaGreatDoorDnJ5
/- The contracts of Held, an8 and ajR. -/
namespace Go.Proofs.YtefdkpbmeoakgaaGreatDoor
set_option maxRecDepth 100000
set_option maxHeartbeats 8000000
open Go.RowKit Go.Shelf Go.Maps
set_option linter.unusedVariables false
theorem pK (C:Cac)(m:nS)(n:Nat):keysOf n (C.M m)=C.those n cZ:=by
 unfold keysOf Cac.those Cac.M
 refine List.filter_congr (fun k _=>?_)
 cases C.L k<;>simp[cZ]
def Cac.vic (C:Cac) (n:Nat):Nat:=(C.those n aQ)[min (max C.pick 0).toNat ((C.those n aQ).length - 1)]?.getD 0
theorem ac5 {C:Cac}{n:Nat}(h:C.those n aQ≠[]):C.vic n∈C.those n aQ:=by
 unfold Cac.vic
 have:0<(C.those n aQ).length:=List.length_pos_iff.2 h
 rw[List.getElem?_eq_getElem (by omega)]
 exact List.getElem_mem _
def Cac.rmE (C:Cac) (D:Dev):Int:=if (C.those D.n cZ).length<C.cap then 0 else if C.those D.n aQ=[] then 8 else C.next.wbE D (C.vic D.n)
def Cac.rmC (C:Cac) (D:Dev):Cac:=if (C.those D.n cZ).length<C.cap then C else if C.those D.n aQ=[] then C.next else if C.next.wbE D (C.vic D.n)=0 then (C.next.wbC D (C.vic D.n)).del (C.vic D.n) else C.next.wbC D (C.vic D.n)
def Cac.rmD (C:Cac) (D:Dev):Dev:=if (C.those D.n cZ).length<C.cap then D else if C.those D.n aQ=[] then D else C.next.wbD D (C.vic D.n)
theorem afm (C:Cac)(D:Dev):(C.rmD D).n=D.n/\(C.rmD D).blk=D.blk:=by
 unfold Cac.rmD
 split
 ·exact⟨rfl,rfl⟩
 ·split
  ·exact⟨rfl,rfl⟩
  ·exact aeO _ _ _
theorem acZ (g dg:Nat)(S Sc Sd:Nat->Prop)(C:Cac)(D:Dev)(m:nS)(w:World)(h:KvM w S Sc Sd g dg C D m)(hl:(C.those D.n cZ).length<C.cap) :
  Calls Tryz.prog 220 #[.pointer (some ⟨g,0,none⟩)] w fun e w'=>e=.returned (.int .i64 0)/\∃ k,w'=w.drewN k:=by
 obtain⟨_,c1,_,c3,_⟩:=h.cc.cells
 have hlen:∀ (k:Nat) ty,(Builtin.len_ #[104] ty #[.map (some m.mb)]).run Tryz.prog (w.drewN k)=.ok (.int .i64 ((C.those D.n cZ).length:Int)) (w.drewN k):=fun k ty=>by
  have:=(show bW (w.drewN k) m.mb D.n (C.M m) from h.cc.map).len ty
  rwa [pK] at this
 generalize (C.those D.n cZ).length=nh at *
 generalize C.cap=cp at *
 generalize m.mb=mb at *
 clear h
 go_enter Tryz.func220,Tryz.ntmps220
 go_wp2_with fail
 go_quiet (fail)
 go_wp2_with fail
 go_ret
 exact⟨rfl,_,rfl⟩
theorem KvM.drewN {u S Sc Sd g dg C D m}(h:KvM u S Sc Sd g dg C D m)(k:Nat):KvM (u.drewN k) S Sc Sd g dg C D m :=
 ⟨h.cc.kept (fun _ _=>rfl) (fun _ h=>h) h.cc.lt,h.dd.kept (fun _ _=>rfl) (Nat.le_refl _),h.dis,h.all⟩
theorem Nx.drewN (S:Nat->Prop)(w:World)(k:Nat):Nx S w S (w.drewN k):=⟨⟨rfl,rfl,rfl,Nat.le_refl _,fun _ _ _=>rfl⟩,fun _ _ h=>h⟩
theorem Gr.aky {B w v L}(h:Gr B w v L):∃ a c,v=.slice a L.length c/\jh w a L.length L/\L.length<=c/\c<=maxLen:=by
 obtain⟨a,c,e,ho⟩:=h.own
 refine⟨a,c,e,?_,ho.2.1,ho.2.2.1⟩
 refine⟨rfl,fun hp=>?_⟩
 obtain⟨g,ea,_,hc,_⟩:=ho.cell (j:=0) hp
 refine⟨g,0,ea,fun j hj=>?_⟩
 obtain⟨g',ea',_,hc',_⟩:=ho.cell hj
 rw[ea] at ea'
 cases ea'
 rw[Nat.zero_add]
 exact hc'
theorem vP (g dg:Nat)(S Sc Sd:Nat->Prop)(C:Cac)(D:Dev)(m:nS)(w:World)(h:KvM w S Sc Sd g dg C D m)(k:Nat) :
  Calls Tryz.prog 239 #[.pointer (some ⟨g,0,none⟩)] (w.drewN k) fun e w1=>e=.returned (.int .i64 C.pick) /\
   Hid (Calls Tryz.prog 240 #[.pointer (some ⟨g,0,none⟩),.func (.func 241) #[] #[]] w1 fun e w2=>∃ a c,e=.returned (.slice a (C.those D.n aQ).length c) /\
    Hid (jh w2 a (C.those D.n aQ).length (C.list D.n aQ)/\(C.those D.n aQ).length<=c/\Kv w2 S g dg C.next D/\Nx S w S w2)):=by
 have h1:=h.drewN k
 refine(wo g dg D.n D.blk Sc C m (w.drewN k) h1.cc).mono ?_
 rintro e w1 ⟨rfl,m',c1,x1⟩
 refine⟨rfl,?_⟩
 obtain⟨y1,y2,y3,y4⟩:=Kv.own h1.cc.lt h1.dd h1.dis h1.all c1 x1
 have hkv:Kv w1 S g dg C.next D:=⟨Sc,Sd,m',c1,y1,y2,h1.all⟩
 have hx:Nx S w S w1:=(Nx.drewN S w k).trans ⟨y4.fr,fun k hk hs=>y4.sub k hk ((h1.all k).1 hs)⟩
 refine(yB g dg D.n D.blk Sc C.next m' w1 c1 h.dd.ok.n2).mono ?_
 rintro e w2 ⟨v,rfl,g1,b1⟩
 obtain⟨a,c,rfl,i1,i2,i3⟩:=g1.aky
 have el:(C.next.list D.n aQ).length=(C.those D.n aQ).length:=by simp[Cac.list];rfl
 rw[el] at i1 i2 ⊢
 exact⟨a,c,rfl,i1,i2,hkv.below b1,hx.below' b1⟩
theorem acX (g dg:Nat)(S Sc Sd:Nat->Prop)(C:Cac)(D:Dev)(m:nS)(w:World)(h:KvM w S Sc Sd g dg C D m)(hl:¬ (C.those D.n cZ).length<C.cap)(h0:C.those D.n aQ=[]) :
  Calls Tryz.prog 220 #[.pointer (some ⟨g,0,none⟩)] w fun e w'=>e=.returned (.int .i64 8)/\Kv w' S g dg C.next D/\Nx S w S w':=by
 obtain⟨_,c1,_,c3,_⟩:=h.cc.cells
 have hlen:∀ (k:Nat) ty,(Builtin.len_ #[104] ty #[.map (some m.mb)]).run Tryz.prog (w.drewN k)=.ok (.int .i64 ((C.those D.n cZ).length:Int)) (w.drewN k):=fun k ty=>by
  have:=(show bW (w.drewN k) m.mb D.n (C.M m) from h.cc.map).len ty
  rwa [pK] at this
 have K:=hide (fun k=>vP g dg S Sc Sd C D m w h k)
 rw[h0,List.length_nil] at K
 generalize (C.those D.n cZ).length=nh at *
 generalize C.cap=cp at *
 generalize C.pick=pk at *
 generalize m.mb=mb at *
 clear h h0
 go_enter Tryz.func220,Tryz.ntmps220
 go_wp2_with fail
 go_quiet (fail)
 clear hlen
 go_wp2_with fail
 go_at_call 239
 refine(ah K _).mono ?_
 rintro e w1 ⟨rfl,K1⟩
 clear K
 go_wp2_with fail
 go_at_call 240
 refine(ah K1).mono ?_
 rintro e w2 ⟨a,c,rfl,K2⟩
 clear K1
 go_wp2_with fail
 go_ret
 exact⟨rfl,(ah K2).2.2⟩
theorem lQ {w w':World}{ops:Array Oper}{rest:List Oper}{o:Oper}{a:Act}{Q:Exit->Act->World->Prop}(t k:TypeId)(hgd:o.guard=none)(m x:Operand)
  (ho:o.op=.call { callee:=.builtin .delete,args:=#[m,x],argTypes:=#[t,k] }) (v y:Value) (hm:a.eval m=v) (hx:a.eval x=y)
  (hrun:∀ ty,(Builtin.delete_ #[t,k] ty #[v,y]).run Tryz.prog w=.ok (.tuple #[]) w')
  (h:wpList Tryz.prog ops Q rest (a.put o.dst (.tuple #[])) w'):wpList Tryz.prog ops Q (o::rest) a w:=by
 refine wpList_plain hgd fun K hK=>?_
 have hr:=hrun o.type
 unfold Oper.wp
 simp[execOp,ho,resolve,invoke,builtin,hm,hx,hr,Result.andThen]
 exact hK _ _ h
theorem aeQ {C:Cac}{n:Nat}{w a len}(h:jh w a len (C.list n aQ))(hl:len=(C.those n aQ).length)(hp:0<len){j:Nat}(hj:j=min (max C.pick 0).toNat (len - 1)) :
  ∃ b off,a=some ⟨b,off,none⟩/\w.cell? ⟨b,off+j,none⟩=some (.int .i64 ((C.vic n:Nat):Int)):=by
 obtain⟨b,off,e,hc⟩:=h.2 hp
 refine⟨b,off,e,?_⟩
 have hj':j<len:=by omega
 rw[hc j hj']
 subst hl
 unfold Cac.vic Cac.list
 rw[← hj,List.getElem?_map,List.getElem?_eq_getElem hj']
 rfl
theorem acY {w w2:World}{S g dg}{C:Cac}{D}(h:Kv w2 S g dg C.next D)(hx:Nx S w S w2)(hL:C.those D.n aQ≠[]) :
  Calls Tryz.prog 242 #[.pointer (some ⟨g,0,none⟩),.int .i64 ((C.vic D.n:Nat):Int)] w2 fun e w3=>e=.returned (.int .i64 (C.next.wbE D (C.vic D.n))) /\
   Hid (∃ S3,Kv w3 S3 g dg (C.next.wbC D (C.vic D.n)) (C.next.wbD D (C.vic D.n))/\Nx S w S3 w3) /\
   ∃ mb w4,w3.cell? ⟨g,3,none⟩=some (.map (some mb))/\Hid (∀ ty,(Builtin.delete_ #[104,3] ty #[.map (some mb),.int .i64 ((C.vic D.n:Nat):Int)]).run Tryz.prog w3=.ok (.tuple #[]) w4) /\
    Hid (∃ S4,Kv w4 S4 g dg ((C.next.wbC D (C.vic D.n)).del (C.vic D.n)) (C.next.wbD D (C.vic D.n))/\Nx S w S4 w4):=by
 have hv:=Cac.kW.1 (ac5 hL)
 refine(sU g dg (C.vic D.n) S C.next D w2 h hv.1).mono ?_
 rintro e w3 ⟨rfl,S3,k3,x3⟩
 refine⟨rfl,⟨S3,k3,hx.trans x3⟩,?_⟩
 obtain⟨Sc,Sd,m,km⟩:=k3.open
 have hn:=aeO C.next D (C.vic D.n)
 obtain⟨w4,r4,c4,x4⟩:=km.cc.drop (by rw[hn.1];exact h.ok.n2) (b:=C.vic D.n) (by rw[hn.1];exact hv.1)
 obtain⟨_,_,_,c3,_⟩:=km.cc.cells
 obtain⟨y1,y2,y3,y4⟩:=Kv.own km.cc.lt km.dd km.dis km.all c4 x4
 exact⟨m.mb,w4,c3,r4,_,y3,(hx.trans x3).trans y4⟩
theorem abk (g dg:Nat)(S Sc Sd:Nat->Prop)(C:Cac)(D:Dev)(m:nS)(w:World)(h:KvM w S Sc Sd g dg C D m)(hl:¬ (C.those D.n cZ).length<C.cap)(l1:Nat)(h0:(C.those D.n aQ).length=l1+1) :
  Calls Tryz.prog 220 #[.pointer (some ⟨g,0,none⟩)] w fun e w'=>e=.returned (.int .i64 (C.next.wbE D (C.vic D.n)))/\∃ S',Kv w' S' g dg (if C.next.wbE D (C.vic D.n)=0 then (C.next.wbC D (C.vic D.n)).del (C.vic D.n) else C.next.wbC D (C.vic D.n)) (C.next.wbD D (C.vic D.n))/\Nx S w S' w':=by
 obtain⟨_,c1,_,c3,_⟩:=h.cc.cells
 have hlen:∀ (k:Nat) ty,(Builtin.len_ #[104] ty #[.map (some m.mb)]).run Tryz.prog (w.drewN k)=.ok (.int .i64 ((C.those D.n cZ).length:Int)) (w.drewN k):=fun k ty=>by
  have:=(show bW (w.drewN k) m.mb D.n (C.M m) from h.cc.map).len ty
  rwa [pK] at this
 have K:=hide (fun k=>vP g dg S Sc Sd C D m w h k)
 have hn:=h.dd.ok.n2
 have hln:=C.ac8 D.n aQ
 have KJ:Hid (∀ w2 a len,len=(C.those D.n aQ).length->jh w2 a len (C.list D.n aQ)->∃ b off,a=some ⟨b,off,none⟩/\w2.cell? ⟨b,off+(min (max C.pick 0) (l1:Int)).toNat,none⟩=some (.int .i64 ((C.vic D.n:Nat):Int))):=by
  intro w2 a len e hi
  obtain⟨b,off,e1,e2⟩:=aeQ (j:=(min (max C.pick 0) (l1:Int)).toNat) hi e (by omega) (by omega)
  exact⟨b,off,e1,e2⟩
 have KG:Hid (∀ w2,Kv w2 S g dg C.next D->Nx S w S w2->_):=fun w2 a b=>acY (w:=w) (w2:=w2) a b (by intro e;rw[e] at h0;simp at h0)
 rw[h0] at K
 have hE:C.next.wbE D (C.vic D.n)=0\/C.next.wbE D (C.vic D.n)=7:=by
  unfold Cac.wbE Dev.wE
  split
  ·split
   ·split<;>simp
   ·simp
  ·simp
 have hsm:l1<=4096:=by omega
 have h0':Hid (l1+1=(C.those D.n aQ).length):=h0.symm
 generalize (C.those D.n cZ).length=nh at *
 generalize C.cap=cp at *
 generalize C.pick=pk at *
 generalize m.mb=mb at *
 generalize C.next.wbC D (C.vic D.n)=C3 at *
 generalize C.next.wbD D (C.vic D.n)=D3 at *
 generalize C.next.wbE D (C.vic D.n)=E3 at *
 generalize C.vic D.n=vc at *
 clear h h0 hn hln
 rcases hE with rfl | rfl
 ·rw[if_pos rfl]
  go_enter Tryz.func220,Tryz.ntmps220
  go_wp2_with fail
  go_quiet (fail)
  clear hlen
  go_wp2_with fail
  go_at_call 239
  refine(ah K _).mono ?_
  rintro e w1 ⟨rfl,K1⟩
  clear K
  go_wp2_with fail
  go_at_call 240
  refine(ah K1).mono ?_
  rintro e w2 ⟨a,c,rfl,K2⟩
  clear K1
  obtain⟨b,off,rfl,c9⟩:=ah KJ w2 a _ (ah h0') (ah K2).1
  have hcc:=(ah K2).2.1
  have K3:=hide (ah KG w2 (ah K2).2.2.1 (ah K2).2.2.2)
  clear K2 KJ KG h0'
  go_wp2_with fail
  go_at_call 242
  refine(ah K3).mono ?_
  rintro e w3 ⟨rfl,_,mb3,w4,c4,R4,X4⟩
  clear K3 c9 hcc
  go_wp2_with (at_delete;refine lQ 104 3 rfl _ _ rfl _ _ rfl rfl (ah R4) ?_;clear R4)
  go_ret
  exact⟨rfl,ah X4⟩
 ·rw[if_neg (by omega)]
  go_enter Tryz.func220,Tryz.ntmps220
  go_wp2_with fail
  go_quiet (fail)
  clear hlen
  go_wp2_with fail
  go_at_call 239
  refine(ah K _).mono ?_
  rintro e w1 ⟨rfl,K1⟩
  clear K
  go_wp2_with fail
  go_at_call 240
  refine(ah K1).mono ?_
  rintro e w2 ⟨a,c,rfl,K2⟩
  clear K1
  obtain⟨b,off,rfl,c9⟩:=ah KJ w2 a _ (ah h0') (ah K2).1
  have hcc:=(ah K2).2.1
  have K3:=hide (ah KG w2 (ah K2).2.2.1 (ah K2).2.2.2)
  clear K2 KJ KG h0'
  go_wp2_with fail
  go_at_call 242
  refine(ah K3).mono ?_
  rintro e w3 ⟨rfl,X3,_⟩
  clear K3 c9 hcc
  go_wp2_with fail
  go_ret
  exact⟨rfl,ah X3⟩
theorem adA (g dg:Nat)(S:Nat->Prop)(C:Cac)(D:Dev)(w:World)(h:Kv w S g dg C D) :
  Calls Tryz.prog 220 #[.pointer (some ⟨g,0,none⟩)] w fun e w'=>e=.returned (.int .i64 (C.rmE D))/\∃ S',Kv w' S' g dg (C.rmC D) (C.rmD D)/\Nx S w S' w':=by
 have hk:=h
 obtain⟨Sc,Sd,m,h⟩:=h.open
 by_cases hl:(C.those D.n cZ).length<C.cap
 ·have e1:C.rmE D=0:=if_pos hl
  have e2:C.rmC D=C:=if_pos hl
  have e3:C.rmD D=D:=if_pos hl
  rw[e1,e2,e3]
  refine(acZ g dg S Sc Sd C D m w h hl).mono ?_
  rintro e w' ⟨rfl,k,rfl⟩
  exact⟨rfl,S,(h.drewN k).kv,Nx.drewN S w k⟩
 ·by_cases h0:C.those D.n aQ=[]
  ·have e1:C.rmE D=8:=by unfold Cac.rmE;rw[if_neg hl,if_pos h0]
   have e2:C.rmC D=C.next:=by unfold Cac.rmC;rw[if_neg hl,if_pos h0]
   have e3:C.rmD D=D:=by unfold Cac.rmD;rw[if_neg hl,if_pos h0]
   rw[e1,e2,e3]
   refine(acX g dg S Sc Sd C D m w h hl h0).mono ?_
   rintro e w' ⟨rfl,h1,h2⟩
   exact⟨rfl,S,h1,h2⟩
  ·have e1:C.rmE D=C.next.wbE D (C.vic D.n):=by unfold Cac.rmE;rw[if_neg hl,if_neg h0]
   have e2:C.rmC D=if C.next.wbE D (C.vic D.n)=0 then (C.next.wbC D (C.vic D.n)).del (C.vic D.n) else C.next.wbC D (C.vic D.n):=by unfold Cac.rmC;rw[if_neg hl,if_neg h0]
   have e3:C.rmD D=C.next.wbD D (C.vic D.n):=by unfold Cac.rmD;rw[if_neg hl,if_neg h0]
   rw[e1,e2,e3]
   obtain⟨l1,hl1⟩:∃ l1,(C.those D.n aQ).length=l1+1:=⟨(C.those D.n aQ).length - 1,by have:=List.length_pos_iff.2 h0;omega⟩
   exact abk g dg S Sc Sd C D m w h hl l1 hl1
theorem KvM.holds {w w1:World}{S Sc Sd g dg C D m}(h:KvM w S Sc Sd g dg C D m){b:Nat}(hb:b<D.n)(hb1:Below w.heap.size w w1){q:Nat}{r:Nat×Nat}{l:Ln}(hq:w.heap.size<=q)(hl:w1.rowIs q 279 3 (zy D.blk r l))(hr:bP w1 (exS Sc w w1) D.blk r l.z) :
  w1.cell? ⟨g,3,none⟩=some (.map (some m.mb))/\∃ w2,(Instr.mapUpdate 104 (.map (some m.mb)) (.int .i64 (b:Int)) (.pointer (some ⟨q,0,none⟩))).run Tryz.prog w1=.ok () w2 /\
   ∃ S2 Sc2 m2,KvM w2 S2 Sc2 Sd g dg (C.set b l) D m2/\Nx S w S2 w2/\m2.q b=q:=by
 have h1:CcM w1 (exS Sc w w1) g dg D.n D.blk C m:=h.cc.kept (fun k hk=>hb1.block k (h.cc.lt k hk)) (fun k hk=>.inl hk) (fun k hk=>by
  rcases hk with hk | hk
  ·exact Nat.lt_of_lt_of_le (h.cc.lt k hk) hb1.size
  ·exact hk.2)
 obtain⟨_,_,_,c3,_⟩:=h1.cells
 obtain⟨w2,r2,c2,x2⟩:=h.cc.add h.dd.ok.n2 hb hb1 hq hl hr (fun k hk=>.inl hk) (fun k hk=>by
  rcases hk with hk | hk
  ·exact Nat.lt_of_lt_of_le (h.cc.lt k hk) hb1.size
  ·exact hk.2) (.inr ⟨hq,hl.lt⟩)
 obtain⟨y1,y2,y3,y4⟩:=Kv.own h.cc.lt h.dd h.dis h.all c2 ((Nx.grow hb1).trans x2)
 exact⟨c3,w2,r2,_,_,_,⟨c2,y1,y2,fun k=>Iff.rfl⟩,y4,by simp⟩
theorem zW {w w1:World}{S S1:Nat->Prop}{g dg b:Nat}{C D}(h:Kv w1 S1 g dg C D)(hx:Nx S w S1 w1)(hb:b<D.n)(hd:D.dead=false) :
  Calls Tryz.prog 73 #[.pointer (some ⟨dg,0,none⟩),.int .i64 b] w1 fun e w2=>∃ r,e=.returned (.tuple #[.slice (some ⟨r,0,none⟩) D.blk D.blk,.int .i64 0]) /\
   ∃ mb w4,(w2.alloc (.cells #[.slice (some ⟨r,0,none⟩) D.blk D.blk,.bool false,.int .i64 0] 279)).cell? ⟨g,3,none⟩=some (.map (some mb)) /\
    Hid ((Instr.mapUpdate 104 (.map (some mb)) (.int .i64 (b:Int)) (.pointer (some ⟨w2.heap.size,0,none⟩))).run Tryz.prog (w2.alloc (.cells #[.slice (some ⟨r,0,none⟩) D.blk D.blk,.bool false,.int .i64 0] 279))=.ok () w4) /\
    Hid (∃ S4 Sc4 Sd4 m4,KvM w4 S4 Sc4 Sd4 g dg (C.set b ⟨D.rd b,false,0⟩) D m4/\Nx S w S4 w4/\m4.q b=w2.heap.size):=by
 obtain⟨Sc,Sd,m,km⟩:=h.open
 obtain⟨e1,e2⟩:=km.dd.ag6 hb
 refine(adf dg b Sd D w1 km.dd hd hb).mono ?_
 rintro e w2 ⟨rfl,B2,b2⟩
 refine⟨w1.heap.size,rfl,?_⟩
 have b3:Below w1.heap.size w1 (w2.alloc (.cells #[.slice (some ⟨w1.heap.size,0,none⟩) D.blk D.blk,.bool false,.int .i64 0] 279)):=b2.alloc b2.size _
 have hr:(w2.alloc (.cells #[.slice (some ⟨w1.heap.size,0,none⟩) D.blk D.blk,.bool false,.int .i64 0] 279)).rowIs w2.heap.size 279 3 (zy D.blk (w1.heap.size,D.blk) ⟨D.rd b,false,0⟩) :=
  World.rowIs_alloc w2 #[.slice (some ⟨w1.heap.size,0,none⟩) D.blk D.blk,.bool false,.int .i64 0] _ _ (fun i hi=>by
   have:i=0\/i=1\/i=2:=by simp at hi;omega
   rcases this with rfl | rfl | rfl<;>rfl)
 have hB3:Block (w2.alloc (.cells #[.slice (some ⟨w1.heap.size,0,none⟩) D.blk D.blk,.bool false,.int .i64 0] 279)) w1.heap.size (D.rd b):=B2.below (n:=w2.heap.size) ((Below.refl _ w2).alloc (Nat.le_refl _) _) B2.lt
 obtain⟨c3,w4,r4,S4,Sc4,m4,k4,x4,q4⟩:=km.holds hb b3 b2.size hr (bP.new hB3 e1 km.dd.ok.b2 e2)
 exact⟨m.mb,w4,c3,r4,S4,Sc4,Sd,m4,k4,hx.trans x4,q4⟩
def Cac.ftE (C:Cac) (D:Dev):Int:=if C.rmE D≠0 then C.rmE D else if (C.rmD D).dead=true then 7 else 0
def Cac.ftC (C:Cac) (D:Dev) (b:Nat):Cac:=if C.ftE D=0 then (C.rmC D).set b ⟨(C.rmD D).rd b,false,0⟩ else C.rmC D
theorem Kv.cell0 {w S g dg C D}(h:Kv w S g dg C D):w.cell? ⟨g,0,none⟩=some (.pointer (some ⟨dg,0,none⟩)):=by
 obtain⟨Sc,Sd,m,h1⟩:=h.open
 exact h1.cc.cells.1
theorem agh (g dg b:Nat)(S:Nat->Prop)(C:Cac)(D:Dev)(w:World)(h:Kv w S g dg C D)(hb:b<D.n)(he:C.rmE D=0)(hd:(C.rmD D).dead=false) :
  Calls Tryz.prog 201 #[.pointer (some ⟨g,0,none⟩),.int .i64 b] w fun e w'=>∃ q,e=.returned (.tuple #[.pointer (some ⟨q,0,none⟩),.int .i64 0])/\Hid (∃ S' Sc Sd m,KvM w' S' Sc Sd g dg ((C.rmC D).set b ⟨(C.rmD D).rd b,false,0⟩) (C.rmD D) m/\Nx S w S' w'/\m.q b=q):=by
 have K:=adA g dg S C D w h
 rw[he] at K
 replace K:=hide K
 have hb1:b<(C.rmD D).n:=by rw[(afm C D).1];exact hb
 have KR:Hid (∀ w1 S1,Kv w1 S1 g dg (C.rmC D) (C.rmD D)->Nx S w S1 w1->w1.cell? ⟨g,0,none⟩=some (.pointer (some ⟨dg,0,none⟩))/\_):=fun w1 S1 k1 x1=>⟨k1.cell0,zW k1 x1 hb1 hd⟩
 clear h he hd hb hb1
 generalize C.rmC D=C1 at *
 generalize D1e:C.rmD D=D1 at *
 clear D1e
 generalize D1.blk=bb at *
 go_enter Tryz.func201,Tryz.ntmps201
 go_wp2_with fail
 go_at_call 220
 refine(ah K).mono ?_
 rintro e w1 ⟨rfl,S1,k1,x1⟩
 obtain⟨c0,R1⟩:=ah KR w1 S1 k1 x1
 have KR1:=hide R1
 clear K KR k1 x1 R1
 go_wp2_with fail
 go_at_call 73
 refine(ah KR1).mono ?_
 rintro e w2 ⟨r,rfl,mb,w4,c3,R4,X4⟩
 clear KR1 c0
 go_wp2_with (at_mapUpdate;refine jM 104 rfl _ _ _ rfl _ _ _ rfl rfl rfl (ah R4) ?_;clear R4 c3)
 go_ret2
 exact⟨_,rfl,X4⟩
theorem KvM.clone {w S Sc Sd g dg C D m}(h:KvM w S Sc Sd g dg C D m){b:Nat}{l:Ln}(hb:b<D.n)(e:C.L b=some l) :
  Calls Tryz.prog 125 #[.slice (some ⟨(m.A b).1,0,none⟩) D.blk (m.A b).2] w fun e w'=>∃ a c,e=.returned (.slice a D.blk c)/\Hid (Own w.heap.size w' a D.blk c l.z/\Below w.heap.size w w'/\Kv w' S g dg C D/\∀ k,a=some ⟨k,0,none⟩->¬ S k):=by
 have hb2:=h.dd.ok.b2
 refine(iO ⟨(m.A b).1,0,none⟩ D.blk (m.A b).2 l.z w (h.cc.row b l hb e).own.has (by omega)).mono ?_
 rintro e w' ⟨a,c,rfl,h1,h2⟩
 refine⟨a,c,rfl,h1,h2,h.kv.below h2,fun k ek hs=>?_⟩
 have:=h.kv.lt hs
 have:=(h1.lt ek).2.1
 omega
theorem afU (g dg b:Nat)(l:Ln)(S:Nat->Prop)(C:Cac)(D:Dev)(w:World)(h:Kv w S g dg C D)(hb:b<D.n)(hl:C.L b=some l) :
  Calls Tryz.prog 169 #[.pointer (some ⟨g,0,none⟩),.int .i64 b] w fun e w'=>∃ a c,e=.returned (.tuple #[.slice a D.blk c,.int .i64 0])/\Hid (Own w.heap.size w' a D.blk c l.z/\Below w.heap.size w w'/\Kv w' S g dg C D/\∀ k,a=some ⟨k,0,none⟩->¬ S k):=by
 obtain⟨Sc,Sd,m,km⟩:=h.open
 have K:=hide (aeb g dg b l Sc Sd C D m w km.cc km.dd hb hl)
 obtain⟨l0,_⟩:=km.cc.line hb hl
 have KC:=hide (km.clone hb hl)
 clear h km hb hl
 generalize m.A b=r at *
 obtain⟨r1,r2⟩:=r
 generalize D.blk=bb at *
 generalize m.q b=q at *
 go_enter Tryz.func169,Tryz.ntmps169
 go_wp2_with fail
 go_at_call 200
 refine(ah K).mono ?_
 rintro e w' ⟨rfl,rfl⟩
 clear K
 go_wp2_with fail
 go_at_call 125
 refine(ah KC).mono ?_
 rintro e w1 ⟨a,c,rfl,X⟩
 clear KC
 go_wp2_with fail
 go_ret2
 exact⟨_,_,rfl,X⟩
theorem ahY (g dg b:Nat)(S:Nat->Prop)(C:Cac)(D:Dev)(w:World)(h:Kv w S g dg C D)(hb:b<D.n)(hl:C.L b=none)(he:C.ftE D=0) :
  Calls Tryz.prog 169 #[.pointer (some ⟨g,0,none⟩),.int .i64 b] w fun e w'=>∃ a c,e=.returned (.tuple #[.slice a D.blk c,.int .i64 0])/\Hid (∃ S',Own w.heap.size w' a D.blk c ((C.rmD D).rd b)/\Kv w' S' g dg ((C.rmC D).set b ⟨(C.rmD D).rd b,false,0⟩) (C.rmD D)/\Nx S w S' w'/\∀ k,a=some ⟨k,0,none⟩->¬ S' k):=by
 obtain⟨Sc,Sd,m,km⟩:=h.open
 have K:=hide (aie g dg b Sc Sd C D m w km.cc km.dd hb hl)
 have h1:C.rmE D=0/\(C.rmD D).dead=false:=by
  unfold Cac.ftE at he
  by_cases h1:C.rmE D=0
  ·rw[if_neg (by simpa using h1)] at he
   refine⟨h1,?_⟩
   cases h2:(C.rmD D).dead
   ·rfl
   ·rw[if_pos h2] at he
    omega
  ·rw[if_pos h1] at he
   exact absurd he h1
 have hn:=afm C D
 have KF:=hide (agh g dg b S C D w h hb h1.1 h1.2)
 have KC:Hid (∀ w1 S1 Sc1 Sd1 m1 q,KvM w1 S1 Sc1 Sd1 g dg ((C.rmC D).set b ⟨(C.rmD D).rd b,false,0⟩) (C.rmD D) m1->Nx S w S1 w1->m1.q b=q->∃ r1 r2,w1.cell? ⟨q,0,none⟩=some (.slice (some ⟨r1,0,none⟩) D.blk r2) /\
   Hid (Calls Tryz.prog 125 #[.slice (some ⟨r1,0,none⟩) D.blk r2] w1 fun e w'=>∃ a c,e=.returned (.slice a D.blk c)/\Hid (∃ S',Own w.heap.size w' a D.blk c ((C.rmD D).rd b)/\Kv w' S' g dg ((C.rmC D).set b ⟨(C.rmD D).rd b,false,0⟩) (C.rmD D)/\Nx S w S' w'/\∀ k,a=some ⟨k,0,none⟩->¬ S' k))):=by
  intro w1 S1 Sc1 Sd1 m1 q k1 x1 eq
  subst eq
  have hb1:b<(C.rmD D).n:=by rw[hn.1];exact hb
  have el:((C.rmC D).set b ⟨(C.rmD D).rd b,false,0⟩).L b=some ⟨(C.rmD D).rd b,false,0⟩:=by simp[Cac.set]
  obtain⟨l0,_⟩:=k1.cc.line hb1 el
  have kc:=k1.clone hb1 el
  rw[hn.2] at l0 kc
  refine⟨_,_,l0,kc.mono ?_⟩
  rintro e w' ⟨a,c,rfl,o1,b1,k2,n2⟩
  exact⟨a,c,rfl,S1,o1.base x1.fr.size,k2,x1.below' b1,n2⟩
 clear h km hb hl he h1 hn
 generalize C.rmC D=C1 at *
 generalize C.rmD D=D1 at *
 generalize D.blk=bb at *
 go_enter Tryz.func169,Tryz.ntmps169
 go_wp2_with fail
 go_at_call 200
 refine(ah K).mono ?_
 rintro e w' ⟨rfl,rfl⟩
 clear K
 go_wp2_with fail
 go_at_call 201
 refine(ah KF).mono ?_
 rintro e w1 ⟨q,rfl,X⟩
 clear KF
 obtain⟨S1,Sc1,Sd1,m1,x1,x2,x3⟩:=ah X
 obtain⟨r1,r2,c0,KB⟩:=ah KC w1 S1 Sc1 Sd1 m1 q x1 x2 x3
 clear X KC x1 x2 x3
 go_wp2_with fail
 go_at_call 125
 refine(ah KB).mono ?_
 rintro e w2 ⟨a,c,rfl,X⟩
 clear KB
 go_wp2_with fail
 go_ret2
 exact⟨_,_,rfl,X⟩
def Cac.gtE (C:Cac) (D:Dev) (b:Nat):Int:=match C.L b with | some _=>0 | none=>C.ftE D
def Cac.gtC (C:Cac) (D:Dev) (b:Nat):Cac:=match C.L b with | some _=>C | none=>C.ftC D b
def Cac.gtD (C:Cac) (D:Dev) (b:Nat):Dev:=match C.L b with | some _=>D | none=>C.rmD D
def Cac.gtZ (C:Cac) (D:Dev) (b:Nat):List Int:=match C.L b with | some l=>l.z | none=>(C.rmD D).rd b
theorem ah9 (g dg b:Nat)(S:Nat->Prop)(C:Cac)(D:Dev)(w:World)(h:Kv w S g dg C D)(hb:b<D.n)(he:C.gtE D b=0) :
  Calls Tryz.prog 169 #[.pointer (some ⟨g,0,none⟩),.int .i64 b] w fun e w'=>∃ a c,e=.returned (.tuple #[.slice a D.blk c,.int .i64 0])/\Hid (∃ S',Own w.heap.size w' a D.blk c (C.gtZ D b)/\Kv w' S' g dg (C.gtC D b) (C.gtD D b)/\Nx S w S' w'/\∀ k,a=some ⟨k,0,none⟩->¬ S' k):=by
 unfold Cac.gtE at he
 unfold Cac.gtZ Cac.gtC Cac.gtD
 cases hl:C.L b with
 | some l =>
  simp only
  refine(afU g dg b l S C D w h hb hl).mono ?_
  rintro e w' ⟨a,c,rfl,o1,b1,k1,n1⟩
  exact⟨a,c,rfl,S,o1,k1,(Nx.refl S w).below' b1,n1⟩
 | none =>
  rw[hl] at he
  simp only at he ⊢
  unfold Cac.ftC
  rw[if_pos he]
  exact ahY g dg b S C D w h hb hl he
theorem Own.rowAt {B w a n c zs}(h:Own B w a n c zs)(hp:0<n)(hz:∀ z∈zs,0<=z/\z<=255){S:Nat->Prop}(hS:∀ k,B<=k->k<w.heap.size->S k):∃ k,a=some ⟨k,0,none⟩/\bP w S n (k,c) zs/\B<=k/\k<w.heap.size:=by
 obtain⟨h1,h2,h3,h4⟩:=h
 rcases h4 with ⟨_,h4,_⟩ | ⟨k,cur,rfl,hB,hh,hs,ht⟩
 ·omega
 ·have hl:k<w.heap.size:=(Array.getElem?_eq_some_iff.1 hh).1
  exact⟨k,rfl,⟨⟨h1,cur,hh,ht⟩,hS k hB hl,h2,h3,hz⟩,hB,hl⟩
end Go.Proofs.YtefdkpbmeoakgaaGreatDoor
