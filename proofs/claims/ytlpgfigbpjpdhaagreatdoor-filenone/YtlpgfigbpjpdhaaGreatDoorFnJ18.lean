/- Joined: KRoom, KRoom2, KGet, KGet2, KPut, KPin. -/
import Derived.Test.YtlpgfigbpjpdhaaGreatDoorFnJ17
import Derived.BigRegion
import Derived.Test.YtlpgfigbpjpdhaaGreatDoorFnJ3
import Derived.Test.YtlpgfigbpjpdhaaGreatDoorFnJ4
/- The contracts of Held, anB and ajI. -/
namespace Go.Proofs.YtlpgfigbpjpdhaaGreatDoor
set_option maxRecDepth 100000
set_option maxHeartbeats 8000000
open Go.RowKit Go.Shelf Go.Maps
set_option linter.unusedVariables false
theorem pW (C:Cac)(m:nR)(n:Nat):keysOf n (C.M m)=C.those n bT:=by
 unfold keysOf Cac.those Cac.M
 refine List.filter_congr (fun k _=>?_)
 cases C.L k<;>simp[bT]
theorem aef (w:World):Calls Tryz.prog 188 #[.pointer none] w fun e w'=>e=.returned (.slice none 0 0)/\w=w':=by
 go_enter Tryz.func188,Tryz.ntmps188
 go_wp2_with (go_at_call 198;refine(acv _ w).mono ?_;rintro e w' ⟨rfl,rfl⟩)
 go_ret
 exact⟨rfl,rfl⟩
def Cac.vic (C:Cac) (n:Nat):Nat:=(C.those n aK)[min (max C.pick 0).toNat ((C.those n aK).length - 1)]?.getD 0
theorem acr {C:Cac}{n:Nat}(h:C.those n aK≠[]):C.vic n∈C.those n aK:=by
 unfold Cac.vic
 have:0<(C.those n aK).length:=List.length_pos_iff.2 h
 rw[List.getElem?_eq_getElem (by omega)]
 exact List.getElem_mem _
def Cac.rmE (C:Cac) (D:Dev):Int:=if (C.those D.n bT).length<C.cap then 0 else if C.those D.n aK=[] then 8 else C.next.wbE D (C.vic D.n)
def Cac.rmC (C:Cac) (D:Dev):Cac:=if (C.those D.n bT).length<C.cap then C else if C.those D.n aK=[] then C.next else if C.next.wbE D (C.vic D.n)=0 then (C.next.wbC D (C.vic D.n)).del (C.vic D.n) else C.next.wbC D (C.vic D.n)
def Cac.rmD (C:Cac) (D:Dev):Dev:=if (C.those D.n bT).length<C.cap then D else if C.those D.n aK=[] then D else C.next.wbD D (C.vic D.n)
theorem aaY (C:Cac)(D:Dev):(C.rmD D).n=D.n/\(C.rmD D).blk=D.blk:=by
 unfold Cac.rmD
 split
 ·exact⟨rfl,rfl⟩
 ·split
  ·exact⟨rfl,rfl⟩
  ·exact aeI _ _ _
theorem acM (g dg:Nat)(S Sc Sd:Nat->Prop)(C:Cac)(D:Dev)(m:nR)(w:World)(h:KvM w S Sc Sd g dg C D m)(hl:(C.those D.n bT).length<C.cap) :
  Calls Tryz.prog 127 #[.pointer (some ⟨g,0,none⟩)] w fun e w'=>e=.returned (.int .i64 0)/\∃ k,w'=w.drewN k:=by
 obtain⟨_,c1,_,c3,_⟩:=h.cc.cells
 have hlen:∀ (k:Nat) ty,(Builtin.len_ #[122] ty #[.map (some m.mb)]).run Tryz.prog (w.drewN k)=.ok (.int .i64 ((C.those D.n bT).length:Int)) (w.drewN k):=fun k ty=>by
  have:=(show bP (w.drewN k) m.mb D.n (C.M m) from h.cc.map).len ty
  rwa [pW] at this
 generalize (C.those D.n bT).length=nh at *
 generalize C.cap=cp at *
 generalize m.mb=mb at *
 clear h
 go_enter Tryz.func127,Tryz.ntmps127
 go_wp2_with fail
 go_quiet (fail)
 go_wp2_with fail
 go_ret
 exact⟨rfl,_,rfl⟩
theorem KvM.drewN {u S Sc Sd g dg C D m}(h:KvM u S Sc Sd g dg C D m)(k:Nat):KvM (u.drewN k) S Sc Sd g dg C D m :=
 ⟨h.cc.kept (fun _ _=>rfl) (fun _ h=>h) h.cc.lt,h.dd.kept (fun _ _=>rfl) (Nat.le_refl _),h.dis,h.all⟩
theorem Nx.drewN (S:Nat->Prop)(w:World)(k:Nat):Nx S w S (w.drewN k):=⟨⟨rfl,rfl,rfl,Nat.le_refl _,fun _ _ _=>rfl⟩,fun _ _ h=>h⟩
theorem Gr.akv {B w v L}(h:Gr B w v L):∃ a c,v=.slice a L.length c/\iK w a L.length L/\L.length<=c/\c<=maxLen:=by
 obtain⟨a,c,e,ho⟩:=h.own
 refine⟨a,c,e,?_,ho.2.1,ho.2.2.1⟩
 refine⟨rfl,fun hp=>?_⟩
 obtain⟨g,ea,_,hc,_⟩:=ho.cell (j:=0) hp
 refine⟨g,0,ea,fun j hj=>?_⟩
 obtain⟨g',ea',_,hc',_⟩:=ho.cell hj
 rw[ea] at ea'
 cases ea'
 rw[Nat.zero_add]
 exact hc'
theorem vN (g dg:Nat)(S Sc Sd:Nat->Prop)(C:Cac)(D:Dev)(m:nR)(w:World)(h:KvM w S Sc Sd g dg C D m)(k:Nat) :
  Calls Tryz.prog 197 #[.pointer (some ⟨g,0,none⟩)] (w.drewN k) fun e w1=>e=.returned (.int .i64 C.pick) /\
   Hid (Calls Tryz.prog 198 #[.pointer (some ⟨g,0,none⟩),.func (.func 199) #[] #[]] w1 fun e w2=>∃ a c,e=.returned (.slice a (C.those D.n aK).length c) /\
    Hid (iK w2 a (C.those D.n aK).length (C.list D.n aK)/\(C.those D.n aK).length<=c/\Kv w2 S g dg C.next D/\Nx S w S w2)):=by
 have h1:=h.drewN k
 refine(vZ g dg D.n D.blk Sc C m (w.drewN k) h1.cc).mono ?_
 rintro e w1 ⟨rfl,m',c1,x1⟩
 refine⟨rfl,?_⟩
 obtain⟨y1,y2,y3,y4⟩:=Kv.own h1.cc.lt h1.dd h1.dis h1.all c1 x1
 have hkv:Kv w1 S g dg C.next D:=⟨Sc,Sd,m',c1,y1,y2,h1.all⟩
 have hx:Nx S w S w1:=(Nx.drewN S w k).trans ⟨y4.fr,fun k hk hs=>y4.sub k hk ((h1.all k).1 hs)⟩
 refine(xY g dg D.n D.blk Sc C.next m' w1 c1 h.dd.ok.n2).mono ?_
 rintro e w2 ⟨v,rfl,g1,b1⟩
 obtain⟨a,c,rfl,i1,i2,i3⟩:=g1.akv
 have el:(C.next.list D.n aK).length=(C.those D.n aK).length:=by simp[Cac.list];rfl
 rw[el] at i1 i2 ⊢
 exact⟨a,c,rfl,i1,i2,hkv.below b1,hx.below' b1⟩
theorem acK (g dg:Nat)(S Sc Sd:Nat->Prop)(C:Cac)(D:Dev)(m:nR)(w:World)(h:KvM w S Sc Sd g dg C D m)(hl:¬ (C.those D.n bT).length<C.cap)(h0:C.those D.n aK=[]) :
  Calls Tryz.prog 127 #[.pointer (some ⟨g,0,none⟩)] w fun e w'=>e=.returned (.int .i64 8)/\Kv w' S g dg C.next D/\Nx S w S w':=by
 obtain⟨_,c1,_,c3,_⟩:=h.cc.cells
 have hlen:∀ (k:Nat) ty,(Builtin.len_ #[122] ty #[.map (some m.mb)]).run Tryz.prog (w.drewN k)=.ok (.int .i64 ((C.those D.n bT).length:Int)) (w.drewN k):=fun k ty=>by
  have:=(show bP (w.drewN k) m.mb D.n (C.M m) from h.cc.map).len ty
  rwa [pW] at this
 have K:=hide (fun k=>vN g dg S Sc Sd C D m w h k)
 rw[h0,List.length_nil] at K
 generalize (C.those D.n bT).length=nh at *
 generalize C.cap=cp at *
 generalize C.pick=pk at *
 generalize m.mb=mb at *
 clear h h0
 go_enter Tryz.func127,Tryz.ntmps127
 go_wp2_with fail
 go_quiet (fail)
 clear hlen
 go_wp2_with fail
 go_at_call 197
 refine(ah K _).mono ?_
 rintro e w1 ⟨rfl,K1⟩
 clear K
 go_wp2_with fail
 go_at_call 198
 refine(ah K1).mono ?_
 rintro e w2 ⟨a,c,rfl,K2⟩
 clear K1
 go_wp2_with fail
 go_ret
 exact⟨rfl,(ah K2).2.2⟩
theorem fA {w w':World}{ops:Array Oper}{rest:List Oper}{o:Oper}{a:Act}{Q:Exit->Act->World->Prop}(t k:TypeId)(hgd:o.guard=none)(m x:Operand)
  (ho:o.op=.call { callee:=.builtin .delete,args:=#[m,x],argTypes:=#[t,k] }) (v y:Value) (hm:a.eval m=v) (hx:a.eval x=y)
  (hrun:∀ ty,(Builtin.delete_ #[t,k] ty #[v,y]).run Tryz.prog w=.ok (.tuple #[]) w')
  (h:wpList Tryz.prog ops Q rest (a.put o.dst (.tuple #[])) w'):wpList Tryz.prog ops Q (o::rest) a w:=by
 refine wpList_plain hgd fun K hK=>?_
 have hr:=hrun o.type
 unfold Oper.wp
 simp[execOp,ho,resolve,invoke,builtin,hm,hx,hr,Result.andThen]
 exact hK _ _ h
theorem aeK {C:Cac}{n:Nat}{w a len}(h:iK w a len (C.list n aK))(hl:len=(C.those n aK).length)(hp:0<len){j:Nat}(hj:j=min (max C.pick 0).toNat (len - 1)) :
  ∃ b off,a=some ⟨b,off,none⟩/\w.cell? ⟨b,off+j,none⟩=some (.int .i64 ((C.vic n:Nat):Int)):=by
 obtain⟨b,off,e,hc⟩:=h.2 hp
 refine⟨b,off,e,?_⟩
 have hj':j<len:=by omega
 rw[hc j hj']
 subst hl
 unfold Cac.vic Cac.list
 rw[← hj,List.getElem?_map,List.getElem?_eq_getElem hj']
 rfl
theorem acL {w w2:World}{S g dg}{C:Cac}{D}(h:Kv w2 S g dg C.next D)(hx:Nx S w S w2)(hL:C.those D.n aK≠[]) :
  Calls Tryz.prog 200 #[.pointer (some ⟨g,0,none⟩),.int .i64 ((C.vic D.n:Nat):Int)] w2 fun e w3=>e=.returned (.int .i64 (C.next.wbE D (C.vic D.n))) /\
   Hid (∃ S3,Kv w3 S3 g dg (C.next.wbC D (C.vic D.n)) (C.next.wbD D (C.vic D.n))/\Nx S w S3 w3) /\
   ∃ mb w4,w3.cell? ⟨g,3,none⟩=some (.map (some mb))/\Hid (∀ ty,(Builtin.delete_ #[122,3] ty #[.map (some mb),.int .i64 ((C.vic D.n:Nat):Int)]).run Tryz.prog w3=.ok (.tuple #[]) w4) /\
    Hid (∃ S4,Kv w4 S4 g dg ((C.next.wbC D (C.vic D.n)).del (C.vic D.n)) (C.next.wbD D (C.vic D.n))/\Nx S w S4 w4):=by
 have hv:=Cac.kP.1 (acr hL)
 refine(sO g dg (C.vic D.n) S C.next D w2 h hv.1).mono ?_
 rintro e w3 ⟨rfl,S3,k3,x3⟩
 refine⟨rfl,⟨S3,k3,hx.trans x3⟩,?_⟩
 obtain⟨Sc,Sd,m,km⟩:=k3.open
 have hn:=aeI C.next D (C.vic D.n)
 obtain⟨w4,r4,c4,x4⟩:=km.cc.drop (by rw[hn.1];exact h.ok.n2) (b:=C.vic D.n) (by rw[hn.1];exact hv.1)
 obtain⟨_,_,_,c3,_⟩:=km.cc.cells
 obtain⟨y1,y2,y3,y4⟩:=Kv.own km.cc.lt km.dd km.dis km.all c4 x4
 exact⟨m.mb,w4,c3,r4,_,y3,(hx.trans x3).trans y4⟩
theorem aaX (g dg:Nat)(S Sc Sd:Nat->Prop)(C:Cac)(D:Dev)(m:nR)(w:World)(h:KvM w S Sc Sd g dg C D m)(hl:¬ (C.those D.n bT).length<C.cap)(l1:Nat)(h0:(C.those D.n aK).length=l1+1) :
  Calls Tryz.prog 127 #[.pointer (some ⟨g,0,none⟩)] w fun e w'=>e=.returned (.int .i64 (C.next.wbE D (C.vic D.n)))/\∃ S',Kv w' S' g dg (if C.next.wbE D (C.vic D.n)=0 then (C.next.wbC D (C.vic D.n)).del (C.vic D.n) else C.next.wbC D (C.vic D.n)) (C.next.wbD D (C.vic D.n))/\Nx S w S' w':=by
 obtain⟨_,c1,_,c3,_⟩:=h.cc.cells
 have hlen:∀ (k:Nat) ty,(Builtin.len_ #[122] ty #[.map (some m.mb)]).run Tryz.prog (w.drewN k)=.ok (.int .i64 ((C.those D.n bT).length:Int)) (w.drewN k):=fun k ty=>by
  have:=(show bP (w.drewN k) m.mb D.n (C.M m) from h.cc.map).len ty
  rwa [pW] at this
 have K:=hide (fun k=>vN g dg S Sc Sd C D m w h k)
 have hn:=h.dd.ok.n2
 have hln:=C.acw D.n aK
 have KJ:Hid (∀ w2 a len,len=(C.those D.n aK).length->iK w2 a len (C.list D.n aK)->∃ b off,a=some ⟨b,off,none⟩/\w2.cell? ⟨b,off+(min (max C.pick 0) (l1:Int)).toNat,none⟩=some (.int .i64 ((C.vic D.n:Nat):Int))):=by
  intro w2 a len e hi
  obtain⟨b,off,e1,e2⟩:=aeK (j:=(min (max C.pick 0) (l1:Int)).toNat) hi e (by omega) (by omega)
  exact⟨b,off,e1,e2⟩
 have KG:Hid (∀ w2,Kv w2 S g dg C.next D->Nx S w S w2->_):=fun w2 a b=>acL (w:=w) (w2:=w2) a b (by intro e;rw[e] at h0;simp at h0)
 rw[h0] at K
 have hE:C.next.wbE D (C.vic D.n)=0\/C.next.wbE D (C.vic D.n)=7:=by
  unfold Cac.wbE Dev.wE
  split
  ·split
   ·split<;>simp
   ·simp
  ·simp
 have hsm:l1<=4096:=by omega
 have h0':Hid (l1+1=(C.those D.n aK).length):=h0.symm
 generalize (C.those D.n bT).length=nh at *
 generalize C.cap=cp at *
 generalize C.pick=pk at *
 generalize m.mb=mb at *
 generalize C.next.wbC D (C.vic D.n)=C3 at *
 generalize C.next.wbD D (C.vic D.n)=D3 at *
 generalize C.next.wbE D (C.vic D.n)=E3 at *
 generalize C.vic D.n=vc at *
 clear h h0 hn hln
 rcases hE with rfl | rfl
 ·rw[if_pos rfl]
  go_enter Tryz.func127,Tryz.ntmps127
  go_wp2_with fail
  go_quiet (fail)
  clear hlen
  go_wp2_with fail
  go_at_call 197
  refine(ah K _).mono ?_
  rintro e w1 ⟨rfl,K1⟩
  clear K
  go_wp2_with fail
  go_at_call 198
  refine(ah K1).mono ?_
  rintro e w2 ⟨a,c,rfl,K2⟩
  clear K1
  obtain⟨b,off,rfl,c9⟩:=ah KJ w2 a _ (ah h0') (ah K2).1
  have hcc:=(ah K2).2.1
  have K3:=hide (ah KG w2 (ah K2).2.2.1 (ah K2).2.2.2)
  clear K2 KJ KG h0'
  go_wp2_with fail
  go_at_call 200
  refine(ah K3).mono ?_
  rintro e w3 ⟨rfl,_,mb3,w4,c4,R4,X4⟩
  clear K3 c9 hcc
  go_wp2_with (at_delete;refine fA 122 3 rfl _ _ rfl _ _ rfl rfl (ah R4) ?_;clear R4)
  go_ret
  exact⟨rfl,ah X4⟩
 ·rw[if_neg (by omega)]
  go_enter Tryz.func127,Tryz.ntmps127
  go_wp2_with fail
  go_quiet (fail)
  clear hlen
  go_wp2_with fail
  go_at_call 197
  refine(ah K _).mono ?_
  rintro e w1 ⟨rfl,K1⟩
  clear K
  go_wp2_with fail
  go_at_call 198
  refine(ah K1).mono ?_
  rintro e w2 ⟨a,c,rfl,K2⟩
  clear K1
  obtain⟨b,off,rfl,c9⟩:=ah KJ w2 a _ (ah h0') (ah K2).1
  have hcc:=(ah K2).2.1
  have K3:=hide (ah KG w2 (ah K2).2.2.1 (ah K2).2.2.2)
  clear K2 KJ KG h0'
  go_wp2_with fail
  go_at_call 200
  refine(ah K3).mono ?_
  rintro e w3 ⟨rfl,X3,_⟩
  clear K3 c9 hcc
  go_wp2_with fail
  go_ret
  exact⟨rfl,ah X3⟩
theorem pV (g dg:Nat)(S:Nat->Prop)(C:Cac)(D:Dev)(w:World)(h:Kv w S g dg C D) :
  Calls Tryz.prog 127 #[.pointer (some ⟨g,0,none⟩)] w fun e w'=>e=.returned (.int .i64 (C.rmE D))/\∃ S',Kv w' S' g dg (C.rmC D) (C.rmD D)/\Nx S w S' w':=by
 have hk:=h
 obtain⟨Sc,Sd,m,h⟩:=h.open
 by_cases hl:(C.those D.n bT).length<C.cap
 ·have e1:C.rmE D=0:=if_pos hl
  have e2:C.rmC D=C:=if_pos hl
  have e3:C.rmD D=D:=if_pos hl
  rw[e1,e2,e3]
  refine(acM g dg S Sc Sd C D m w h hl).mono ?_
  rintro e w' ⟨rfl,k,rfl⟩
  exact⟨rfl,S,(h.drewN k).kv,Nx.drewN S w k⟩
 ·by_cases h0:C.those D.n aK=[]
  ·have e1:C.rmE D=8:=by unfold Cac.rmE;rw[if_neg hl,if_pos h0]
   have e2:C.rmC D=C.next:=by unfold Cac.rmC;rw[if_neg hl,if_pos h0]
   have e3:C.rmD D=D:=by unfold Cac.rmD;rw[if_neg hl,if_pos h0]
   rw[e1,e2,e3]
   refine(acK g dg S Sc Sd C D m w h hl h0).mono ?_
   rintro e w' ⟨rfl,h1,h2⟩
   exact⟨rfl,S,h1,h2⟩
  ·have e1:C.rmE D=C.next.wbE D (C.vic D.n):=by unfold Cac.rmE;rw[if_neg hl,if_neg h0]
   have e2:C.rmC D=if C.next.wbE D (C.vic D.n)=0 then (C.next.wbC D (C.vic D.n)).del (C.vic D.n) else C.next.wbC D (C.vic D.n):=by unfold Cac.rmC;rw[if_neg hl,if_neg h0]
   have e3:C.rmD D=C.next.wbD D (C.vic D.n):=by unfold Cac.rmD;rw[if_neg hl,if_neg h0]
   rw[e1,e2,e3]
   obtain⟨l1,hl1⟩:∃ l1,(C.those D.n aK).length=l1+1:=⟨(C.those D.n aK).length - 1,by have:=List.length_pos_iff.2 h0;omega⟩
   exact aaX g dg S Sc Sd C D m w h hl l1 hl1
theorem KvM.holds {w w1:World}{S Sc Sd g dg C D m}(h:KvM w S Sc Sd g dg C D m){b:Nat}(hb:b<D.n)(hb1:Below w.heap.size w w1){q:Nat}{r:Nat×Nat}{l:Ln}(hq:w.heap.size<=q)(hl:w1.rowIs q 195 3 (pR D.blk r l))(hr:bG w1 (exS Sc w w1) D.blk r l.z) :
  w1.cell? ⟨g,3,none⟩=some (.map (some m.mb))/\∃ w2,(Instr.mapUpdate 122 (.map (some m.mb)) (.int .i64 (b:Int)) (.pointer (some ⟨q,0,none⟩))).run Tryz.prog w1=.ok () w2 /\
   ∃ S2 Sc2 m2,KvM w2 S2 Sc2 Sd g dg (C.set b l) D m2/\Nx S w S2 w2/\m2.q b=q:=by
 have h1:CcM w1 (exS Sc w w1) g dg D.n D.blk C m:=h.cc.kept (fun k hk=>hb1.block k (h.cc.lt k hk)) (fun k hk=>.inl hk) (fun k hk=>by
  rcases hk with hk | hk
  ·exact Nat.lt_of_lt_of_le (h.cc.lt k hk) hb1.size
  ·exact hk.2)
 obtain⟨_,_,_,c3,_⟩:=h1.cells
 obtain⟨w2,r2,c2,x2⟩:=h.cc.add h.dd.ok.n2 hb hb1 hq hl hr (fun k hk=>.inl hk) (fun k hk=>by
  rcases hk with hk | hk
  ·exact Nat.lt_of_lt_of_le (h.cc.lt k hk) hb1.size
  ·exact hk.2) (.inr ⟨hq,hl.lt⟩)
 obtain⟨y1,y2,y3,y4⟩:=Kv.own h.cc.lt h.dd h.dis h.all c2 ((Nx.grow hb1).trans x2)
 exact⟨c3,w2,r2,_,_,_,⟨c2,y1,y2,fun k=>Iff.rfl⟩,y4,by simp⟩
theorem zO {w w1:World}{S S1:Nat->Prop}{g dg b:Nat}{C D}(h:Kv w1 S1 g dg C D)(hx:Nx S w S1 w1)(hb:b<D.n)(hd:D.dead=false) :
  Calls Tryz.prog 109 #[.pointer (some ⟨dg,0,none⟩),.int .i64 b] w1 fun e w2=>∃ r,e=.returned (.tuple #[.slice (some ⟨r,0,none⟩) D.blk D.blk,.int .i64 0]) /\
   ∃ mb w4,(w2.alloc (.cells #[.slice (some ⟨r,0,none⟩) D.blk D.blk,.bool false,.int .i64 0] 195)).cell? ⟨g,3,none⟩=some (.map (some mb)) /\
    Hid ((Instr.mapUpdate 122 (.map (some mb)) (.int .i64 (b:Int)) (.pointer (some ⟨w2.heap.size,0,none⟩))).run Tryz.prog (w2.alloc (.cells #[.slice (some ⟨r,0,none⟩) D.blk D.blk,.bool false,.int .i64 0] 195))=.ok () w4) /\
    Hid (∃ S4 Sc4 Sd4 m4,KvM w4 S4 Sc4 Sd4 g dg (C.set b ⟨D.rd b,false,0⟩) D m4/\Nx S w S4 w4/\m4.q b=w2.heap.size):=by
 obtain⟨Sc,Sd,m,km⟩:=h.open
 obtain⟨e1,e2⟩:=km.dd.ag4 hb
 refine(acR dg b Sd D w1 km.dd hd hb).mono ?_
 rintro e w2 ⟨rfl,B2,b2⟩
 refine⟨w1.heap.size,rfl,?_⟩
 have b3:Below w1.heap.size w1 (w2.alloc (.cells #[.slice (some ⟨w1.heap.size,0,none⟩) D.blk D.blk,.bool false,.int .i64 0] 195)):=b2.alloc b2.size _
 have hr:(w2.alloc (.cells #[.slice (some ⟨w1.heap.size,0,none⟩) D.blk D.blk,.bool false,.int .i64 0] 195)).rowIs w2.heap.size 195 3 (pR D.blk (w1.heap.size,D.blk) ⟨D.rd b,false,0⟩) :=
  World.rowIs_alloc w2 #[.slice (some ⟨w1.heap.size,0,none⟩) D.blk D.blk,.bool false,.int .i64 0] _ _ (fun i hi=>by
   have:i=0\/i=1\/i=2:=by simp at hi;omega
   rcases this with rfl | rfl | rfl<;>rfl)
 have hB3:Block (w2.alloc (.cells #[.slice (some ⟨w1.heap.size,0,none⟩) D.blk D.blk,.bool false,.int .i64 0] 195)) w1.heap.size (D.rd b):=B2.below (n:=w2.heap.size) ((Below.refl _ w2).alloc (Nat.le_refl _) _) B2.lt
 obtain⟨c3,w4,r4,S4,Sc4,m4,k4,x4,q4⟩:=km.holds hb b3 b2.size hr (bG.new hB3 e1 km.dd.ok.b2 e2)
 exact⟨m.mb,w4,c3,r4,S4,Sc4,Sd,m4,k4,hx.trans x4,q4⟩
def Cac.ftE (C:Cac) (D:Dev):Int:=if C.rmE D≠0 then C.rmE D else if (C.rmD D).dead=true then 7 else 0
def Cac.ftC (C:Cac) (D:Dev) (b:Nat):Cac:=if C.ftE D=0 then (C.rmC D).set b ⟨(C.rmD D).rd b,false,0⟩ else C.rmC D
theorem Kv.cell0 {w S g dg C D}(h:Kv w S g dg C D):w.cell? ⟨g,0,none⟩=some (.pointer (some ⟨dg,0,none⟩)):=by
 obtain⟨Sc,Sd,m,h1⟩:=h.open
 exact h1.cc.cells.1
theorem afZ (g dg b:Nat)(S:Nat->Prop)(C:Cac)(D:Dev)(w:World)(h:Kv w S g dg C D)(hb:b<D.n)(he:C.rmE D=0)(hd:(C.rmD D).dead=false) :
  Calls Tryz.prog 247 #[.pointer (some ⟨g,0,none⟩),.int .i64 b] w fun e w'=>∃ q,e=.returned (.tuple #[.pointer (some ⟨q,0,none⟩),.int .i64 0])/\Hid (∃ S' Sc Sd m,KvM w' S' Sc Sd g dg ((C.rmC D).set b ⟨(C.rmD D).rd b,false,0⟩) (C.rmD D) m/\Nx S w S' w'/\m.q b=q):=by
 have K:=pV g dg S C D w h
 rw[he] at K
 replace K:=hide K
 have hb1:b<(C.rmD D).n:=by rw[(aaY C D).1];exact hb
 have KR:Hid (∀ w1 S1,Kv w1 S1 g dg (C.rmC D) (C.rmD D)->Nx S w S1 w1->w1.cell? ⟨g,0,none⟩=some (.pointer (some ⟨dg,0,none⟩))/\_):=fun w1 S1 k1 x1=>⟨k1.cell0,zO k1 x1 hb1 hd⟩
 clear h he hd hb hb1
 generalize C.rmC D=C1 at *
 generalize D1e:C.rmD D=D1 at *
 clear D1e
 generalize D1.blk=bb at *
 go_enter Tryz.func247,Tryz.ntmps247
 go_wp2_with fail
 go_at_call 127
 refine(ah K).mono ?_
 rintro e w1 ⟨rfl,S1,k1,x1⟩
 obtain⟨c0,R1⟩:=ah KR w1 S1 k1 x1
 have KR1:=hide R1
 clear K KR k1 x1 R1
 go_wp2_with fail
 go_at_call 109
 refine(ah KR1).mono ?_
 rintro e w2 ⟨r,rfl,mb,w4,c3,R4,X4⟩
 clear KR1 c0
 go_wp2_with (at_mapUpdate;refine dJ 122 rfl _ _ _ rfl _ _ _ rfl rfl rfl (ah R4) ?_;clear R4 c3)
 go_ret2
 exact⟨_,rfl,X4⟩
theorem KvM.clone {w S Sc Sd g dg C D m}(h:KvM w S Sc Sd g dg C D m){b:Nat}{l:Ln}(hb:b<D.n)(e:C.L b=some l) :
  Calls Tryz.prog 128 #[.slice (some ⟨(m.A b).1,0,none⟩) D.blk (m.A b).2] w fun e w'=>∃ a c,e=.returned (.slice a D.blk c)/\Hid (Own w.heap.size w' a D.blk c l.z/\Below w.heap.size w w'/\Kv w' S g dg C D/\∀ k,a=some ⟨k,0,none⟩->¬ S k):=by
 have hb2:=h.dd.ok.b2
 refine(fF ⟨(m.A b).1,0,none⟩ D.blk (m.A b).2 l.z w (h.cc.row b l hb e).own.has (by omega)).mono ?_
 rintro e w' ⟨a,c,rfl,h1,h2⟩
 refine⟨a,c,rfl,h1,h2,h.kv.below h2,fun k ek hs=>?_⟩
 have:=h.kv.lt hs
 have:=(h1.lt ek).2.1
 omega
theorem afN (g dg b:Nat)(l:Ln)(S:Nat->Prop)(C:Cac)(D:Dev)(w:World)(h:Kv w S g dg C D)(hb:b<D.n)(hl:C.L b=some l) :
  Calls Tryz.prog 210 #[.pointer (some ⟨g,0,none⟩),.int .i64 b] w fun e w'=>∃ a c,e=.returned (.tuple #[.slice a D.blk c,.int .i64 0])/\Hid (Own w.heap.size w' a D.blk c l.z/\Below w.heap.size w w'/\Kv w' S g dg C D/\∀ k,a=some ⟨k,0,none⟩->¬ S k):=by
 obtain⟨Sc,Sd,m,km⟩:=h.open
 have K:=hide (qj g dg b l Sc Sd C D m w km.cc km.dd hb hl)
 obtain⟨l0,_⟩:=km.cc.line hb hl
 have KC:=hide (km.clone hb hl)
 clear h km hb hl
 generalize m.A b=r at *
 obtain⟨r1,r2⟩:=r
 generalize D.blk=bb at *
 generalize m.q b=q at *
 go_enter Tryz.func210,Tryz.ntmps210
 go_wp2_with fail
 go_at_call 201
 refine(ah K).mono ?_
 rintro e w' ⟨rfl,rfl⟩
 clear K
 go_wp2_with fail
 go_at_call 128
 refine(ah KC).mono ?_
 rintro e w1 ⟨a,c,rfl,X⟩
 clear KC
 go_wp2_with fail
 go_ret2
 exact⟨_,_,rfl,X⟩
theorem ahL (g dg b:Nat)(S:Nat->Prop)(C:Cac)(D:Dev)(w:World)(h:Kv w S g dg C D)(hb:b<D.n)(hl:C.L b=none)(he:C.ftE D=0) :
  Calls Tryz.prog 210 #[.pointer (some ⟨g,0,none⟩),.int .i64 b] w fun e w'=>∃ a c,e=.returned (.tuple #[.slice a D.blk c,.int .i64 0])/\Hid (∃ S',Own w.heap.size w' a D.blk c ((C.rmD D).rd b)/\Kv w' S' g dg ((C.rmC D).set b ⟨(C.rmD D).rd b,false,0⟩) (C.rmD D)/\Nx S w S' w'/\∀ k,a=some ⟨k,0,none⟩->¬ S' k):=by
 obtain⟨Sc,Sd,m,km⟩:=h.open
 have K:=hide (adX g dg b Sc Sd C D m w km.cc km.dd hb hl)
 have h1:C.rmE D=0/\(C.rmD D).dead=false:=by
  unfold Cac.ftE at he
  by_cases h1:C.rmE D=0
  ·rw[if_neg (by simpa using h1)] at he
   refine⟨h1,?_⟩
   cases h2:(C.rmD D).dead
   ·rfl
   ·rw[if_pos h2] at he
    omega
  ·rw[if_pos h1] at he
   exact absurd he h1
 have hn:=aaY C D
 have KF:=hide (afZ g dg b S C D w h hb h1.1 h1.2)
 have KC:Hid (∀ w1 S1 Sc1 Sd1 m1 q,KvM w1 S1 Sc1 Sd1 g dg ((C.rmC D).set b ⟨(C.rmD D).rd b,false,0⟩) (C.rmD D) m1->Nx S w S1 w1->m1.q b=q->∃ r1 r2,w1.cell? ⟨q,0,none⟩=some (.slice (some ⟨r1,0,none⟩) D.blk r2) /\
   Hid (Calls Tryz.prog 128 #[.slice (some ⟨r1,0,none⟩) D.blk r2] w1 fun e w'=>∃ a c,e=.returned (.slice a D.blk c)/\Hid (∃ S',Own w.heap.size w' a D.blk c ((C.rmD D).rd b)/\Kv w' S' g dg ((C.rmC D).set b ⟨(C.rmD D).rd b,false,0⟩) (C.rmD D)/\Nx S w S' w'/\∀ k,a=some ⟨k,0,none⟩->¬ S' k))):=by
  intro w1 S1 Sc1 Sd1 m1 q k1 x1 eq
  subst eq
  have hb1:b<(C.rmD D).n:=by rw[hn.1];exact hb
  have el:((C.rmC D).set b ⟨(C.rmD D).rd b,false,0⟩).L b=some ⟨(C.rmD D).rd b,false,0⟩:=by simp[Cac.set]
  obtain⟨l0,_⟩:=k1.cc.line hb1 el
  have kc:=k1.clone hb1 el
  rw[hn.2] at l0 kc
  refine⟨_,_,l0,kc.mono ?_⟩
  rintro e w' ⟨a,c,rfl,o1,b1,k2,n2⟩
  exact⟨a,c,rfl,S1,o1.base x1.fr.size,k2,x1.below' b1,n2⟩
 clear h km hb hl he h1 hn
 generalize C.rmC D=C1 at *
 generalize C.rmD D=D1 at *
 generalize D.blk=bb at *
 go_enter Tryz.func210,Tryz.ntmps210
 go_wp2_with fail
 go_at_call 201
 refine(ah K).mono ?_
 rintro e w' ⟨rfl,rfl⟩
 clear K
 go_wp2_with fail
 go_at_call 247
 refine(ah KF).mono ?_
 rintro e w1 ⟨q,rfl,X⟩
 clear KF
 obtain⟨S1,Sc1,Sd1,m1,x1,x2,x3⟩:=ah X
 obtain⟨r1,r2,c0,KB⟩:=ah KC w1 S1 Sc1 Sd1 m1 q x1 x2 x3
 clear X KC x1 x2 x3
 go_wp2_with fail
 go_at_call 128
 refine(ah KB).mono ?_
 rintro e w2 ⟨a,c,rfl,X⟩
 clear KB
 go_wp2_with fail
 go_ret2
 exact⟨_,_,rfl,X⟩
def Cac.gtE (C:Cac) (D:Dev) (b:Nat):Int:=match C.L b with | some _=>0 | none=>C.ftE D
def Cac.gtC (C:Cac) (D:Dev) (b:Nat):Cac:=match C.L b with | some _=>C | none=>C.ftC D b
def Cac.gtD (C:Cac) (D:Dev) (b:Nat):Dev:=match C.L b with | some _=>D | none=>C.rmD D
def Cac.gtZ (C:Cac) (D:Dev) (b:Nat):List Int:=match C.L b with | some l=>l.z | none=>(C.rmD D).rd b
theorem ah0 (g dg b:Nat)(S:Nat->Prop)(C:Cac)(D:Dev)(w:World)(h:Kv w S g dg C D)(hb:b<D.n)(he:C.gtE D b=0) :
  Calls Tryz.prog 210 #[.pointer (some ⟨g,0,none⟩),.int .i64 b] w fun e w'=>∃ a c,e=.returned (.tuple #[.slice a D.blk c,.int .i64 0])/\Hid (∃ S',Own w.heap.size w' a D.blk c (C.gtZ D b)/\Kv w' S' g dg (C.gtC D b) (C.gtD D b)/\Nx S w S' w'/\∀ k,a=some ⟨k,0,none⟩->¬ S' k):=by
 unfold Cac.gtE at he
 unfold Cac.gtZ Cac.gtC Cac.gtD
 cases hl:C.L b with
 | some l =>
  simp only
  refine(afN g dg b l S C D w h hb hl).mono ?_
  rintro e w' ⟨a,c,rfl,o1,b1,k1,n1⟩
  exact⟨a,c,rfl,S,o1,k1,(Nx.refl S w).below' b1,n1⟩
 | none =>
  rw[hl] at he
  simp only at he ⊢
  unfold Cac.ftC
  rw[if_pos he]
  exact ahL g dg b S C D w h hb hl he
theorem set_set (C:Cac)(b:Nat)(l l':Ln):(C.set b l).set b l'=C.set b l':=by
 unfold Cac.set
 congr 1
 funext j
 by_cases e:j=b<;>simp[e]
theorem Own.rowAt {B w a n c zs}(h:Own B w a n c zs)(hp:0<n)(hz:∀ z∈zs,0<=z/\z<=255){S:Nat->Prop}(hS:∀ k,B<=k->k<w.heap.size->S k):∃ k,a=some ⟨k,0,none⟩/\bG w S n (k,c) zs/\B<=k/\k<w.heap.size:=by
 obtain⟨h1,h2,h3,h4⟩:=h
 rcases h4 with ⟨_,h4,_⟩ | ⟨k,cur,rfl,hB,hh,hs,ht⟩
 ·omega
 ·have hl:k<w.heap.size:=(Array.getElem?_eq_some_iff.1 hh).1
  exact⟨k,rfl,⟨⟨h1,cur,hh,ht⟩,hS k hB hl,h2,h3,hz⟩,hB,hl⟩
theorem KvM.akj {w w1:World}{S Sc Sd g dg C D m}(h:KvM w S Sc Sd g dg C D m){b:Nat}{l:Ln}(hb:b<D.n)(e:C.L b=some l){a:Option Addr}{c:Nat}{zs:List Int}(ho:Own w.heap.size w1 a D.blk c zs)(hb1:Below w.heap.size w w1)(hz:∀ z∈zs,0<=z/\z<=255) :
  (∃ v,w1.cell? ⟨m.q b,0,none⟩=some v)/\(∀ k,w1.frozen? ⟨m.q b,k,none⟩=false)/\w1.cell? ⟨m.q b,1,none⟩=some (.bool l.d) /\
   ∃ S2,Kv ((w1.setCell ⟨m.q b,0,none⟩ (.slice a D.blk c)).setCell ⟨m.q b,1,none⟩ (.bool true)) S2 g dg (C.set b ⟨zs,true,l.p⟩) D/\Nx S w S2 ((w1.setCell ⟨m.q b,0,none⟩ (.slice a D.blk c)).setCell ⟨m.q b,1,none⟩ (.bool true)):=by
 have h1:CcM w1 (exS Sc w w1) g dg D.n D.blk C m:=h.cc.kept (fun k hk=>hb1.block k (h.cc.lt k hk)) (fun k hk=>.inl hk) (fun k hk=>by
  rcases hk with hk | hk
  ·exact Nat.lt_of_lt_of_le (h.cc.lt k hk) hb1.size
  ·exact hk.2)
 obtain⟨k,rfl,hr,_⟩:=ho.rowAt (by have:=h.dd.ok.b1;omega) hz (S:=exS Sc w w1) (fun k h1 h2=>.inr ⟨h1,h2⟩)
 obtain⟨x0,x1,_,x3⟩:=h1.line hb e
 have s1:=h1.akd (l':=⟨zs,l.d,l.p⟩) (r':=(k,c)) hb e 0 (.slice (some ⟨k,0,none⟩) D.blk c) (fun i hi=>by
  have:i=0\/i=1\/i=2:=by omega
  rcases this with rfl | rfl | rfl<;>simp[pR]) hr
 have e1:(C.set b ⟨zs,l.d,l.p⟩).L b=some ⟨zs,l.d,l.p⟩:=by simp[Cac.set]
 have s2:=s1.akd (l':=⟨zs,true,l.p⟩) (r':=(k,c)) hb e1 1 (.bool true) (fun i hi=>by
  have:i=0\/i=1\/i=2:=by omega
  rcases this with rfl | rfl | rfl<;>simp[pR]) (by have:=s1.row b _ hb e1;simpa using this)
 rw[set_set] at s2
 have hs:exS Sc w w1 (m.q b):=.inl (h.cc.sl b l hb e)
 have hx:Nx Sc w (exS Sc w w1) ((w1.setCell ⟨m.q b,0,none⟩ (.slice (some ⟨k,0,none⟩) D.blk c)).setCell ⟨m.q b,1,none⟩ (.bool true)):=((Nx.grow hb1).trans (Nx.set (p:=⟨m.q b,0,none⟩) hs _)).trans (Nx.set (p:=⟨m.q b,1,none⟩) hs _)
 obtain⟨y1,y2,y3,y4⟩:=Kv.own h.cc.lt h.dd h.dis h.all s2 hx
 exact⟨⟨_,x0⟩,x3,x1,_,y3,y4⟩
theorem afk (g dg b:Nat)(l:Ln)(x:Addr)(cap:Nat)(zs:List Int)(S:Nat->Prop)(C:Cac)(D:Dev)(w:World)(h:Kv w S g dg C D)(hb:b<D.n)(hl:C.L b=some l)(hr:Has w (some x) D.blk zs)(hz:∀ z∈zs,0<=z/\z<=255) :
  Calls Tryz.prog 74 #[.pointer (some ⟨g,0,none⟩),.int .i64 b,.slice (some x) D.blk cap] w fun e w'=>e=.returned (.int .i64 0)/\∃ S',Kv w' S' g dg (C.set b ⟨zs,true,l.p⟩) D/\Nx S w S' w':=by
 obtain⟨Sc,Sd,m,km⟩:=h.open
 have K:=iF g dg b (some x) D.blk cap Sc Sd C D m w km.cc km.dd
 rw[lS hb] at K
 replace K:=hide K
 obtain⟨_,_,_,c3,_⟩:=km.cc.cells
 have hlk:=km.cc.map.look km.dd.ok.n2 hb (km.cc.aaC hl)
 have hb2:=km.dd.ok.b2
 have KC:Hid (Calls Tryz.prog 128 #[.slice (some x) D.blk cap] w fun e w1=>∃ a c,e=.returned (.slice a D.blk c)/\(∃ v,w1.cell? ⟨m.q b,0,none⟩=some v)/\(∀ k,w1.frozen? ⟨m.q b,k,none⟩=false)/\w1.cell? ⟨m.q b,1,none⟩=some (.bool l.d) /\
   Hid (∃ S2,Kv ((w1.setCell ⟨m.q b,0,none⟩ (.slice a D.blk c)).setCell ⟨m.q b,1,none⟩ (.bool true)) S2 g dg (C.set b ⟨zs,true,l.p⟩) D/\Nx S w S2 ((w1.setCell ⟨m.q b,0,none⟩ (.slice a D.blk c)).setCell ⟨m.q b,1,none⟩ (.bool true)))):=by
  refine(fF x D.blk cap zs w hr (by omega)).mono ?_
  rintro e w1 ⟨a,c,rfl,o1,b1⟩
  exact⟨a,c,rfl,km.akj hb hl o1 b1 hz⟩
 clear h km hb hl hr hz hb2
 generalize m.q b=q at *
 generalize m.mb=mb at *
 generalize D.blk=bb at *
 go_enter Tryz.func74,Tryz.ntmps74
 go_wp2_with fail
 go_at_call 126
 refine(ah K).mono ?_
 rintro e w' ⟨rfl,rfl⟩
 clear K
 go_wp2_with fail
 go_at_call 128
 refine(ah KC).mono ?_
 rintro e w1 ⟨a,c,rfl,⟨v,x0⟩,x1,x2,X⟩
 clear KC
 go_wp2_with fail
 go_ret
 exact⟨rfl,ah X⟩
theorem CcM.more {u u':World}{S S':Nat->Prop}{g dg n blk C m}(h:CcM u S g dg n blk C m){b q:Nat}{r:Nat×Nat}{l:Ln}(hk:∀ k,S k->k≠m.mb->u'.heap[k]?=u.heap[k]?)(hM:bP u' m.mb n (fun j=>if j=b then some q else C.M m j))
  (hq:u.heap.size<=q) (hl:u'.rowIs q 195 3 (pR blk r l)) (hr:bG u' S' blk r l.z) (hS:∀ k,S k->S' k) (hS':∀ k,S' k->k<u'.heap.size) (hsq:S' q) :
  CcM u' S' g dg n blk (C.set b l) { m with q:=fun k=>if k=b then q else m.q k,A:=fun k=>if k=b then r else m.A k }:=by
 have old:∀ b2 l2,b2<n->C.L b2=some l2->m.q b2<u.heap.size:=fun b2 l2 h2 e2=>h.lt _ (h.sl b2 l2 h2 e2)
 have kr:∀ {k t n':Nat} {f:Nat->Value},u.rowIs k t n' f->S k->u'.rowIs k t n' f:=fun hh hs=>hh.of_block (hk _ hs (fun e=>adp h.map hh e.symm))
 have kc:∀ k c t,S k->u.heap[k]?=some (Obj.cells c t)->u'.heap[k]?=u.heap[k]?:=fun k c t hs hh=>hk k hs (yX h.map hh)
 refine⟨(kr h.str h.sg).congr (fun i hi=>rfl),hM.congr (fun k hk=>?_),fun b2 l2 hb2 e2=>?_,fun b2 l2 hb2 e2=>?_,fun b1 b2 l1 l2 x1 x2 e1 e2 eq=>?_,hS _ h.sg,hS _ h.sm,fun b2 l2 hb2 e2=>?_,iJ h.pic (fun x ex=>?_),h.pcp,fun x ex=>?_,hS',h.cp⟩
 ·unfold Cac.M Cac.set
  by_cases e:k=b<;>simp[e]
 ·by_cases eb:b2=b
  ·simp[Cac.set,eb] at e2
   subst e2
   simp only[eb,if_true]
   exact hl
  ·simp only[if_neg eb]
   have e2':C.L b2=some l2:=by simpa [Cac.set,eb] using e2
   exact kr (h.lin b2 l2 hb2 e2') (h.sl b2 l2 hb2 e2')
 ·by_cases eb:b2=b
  ·simp[Cac.set,eb] at e2
   subst e2
   simp only[eb,if_true]
   exact hr
  ·simp only[if_neg eb]
   have e2':C.L b2=some l2:=by simpa [Cac.set,eb] using e2
   exact(h.row b2 l2 hb2 e2').kept (fun k c hs hh=>kc k c 5 hs hh) hS
 ·by_cases f1:b1=b
  ·by_cases f2:b2=b
   ·omega
   ·simp only[f1,if_true,if_neg f2] at eq
    have:=old b2 l2 x2 (by simpa [Cac.set,f2] using e2)
    omega
  ·by_cases f2:b2=b
   ·simp only[f2,if_true,if_neg f1] at eq
    have:=old b1 l1 x1 (by simpa [Cac.set,f1] using e1)
    omega
   ·simp only[if_neg f1,if_neg f2] at eq
    exact h.one b1 b2 l1 l2 x1 x2 (by simpa [Cac.set,f1] using e1) (by simpa [Cac.set,f2] using e2) eq
 ·by_cases eb:b2=b
  ·simp only[eb,if_true];exact hsq
  ·simp only[if_neg eb]
   exact hS _ (h.sl b2 l2 hb2 (by simpa [Cac.set,eb] using e2))
 ·obtain⟨hs,cur,hx⟩:=h.pbl x ex
  exact kc _ _ _ hs hx
 ·obtain⟨hs,cur,hx⟩:=h.pbl x ex
  exact⟨hS _ hs,cur,(kc _ _ _ hs hx).trans hx⟩
abbrev aip:Obj:=.cells #[.slice none 0 0,.bool false,.int .i64 0] 195
theorem KvM.lays {w S Sc Sd g dg C D m}(h:KvM w S Sc Sd g dg C D m){b:Nat}(hb:b<D.n){x:Addr}{cap:Nat}{zs:List Int}(hr:Has w (some x) D.blk zs)(hbx:x.block≠m.mb)(hz:∀ z∈zs,0<=z/\z<=255) :
  (w.alloc aip).cell? ⟨g,3,none⟩=some (.map (some m.mb))/\∃ w2,(Instr.mapUpdate 122 (.map (some m.mb)) (.int .i64 (b:Int)) (.pointer (some ⟨w.heap.size,0,none⟩))).run Tryz.prog (w.alloc aip)=.ok () w2 /\
   Hid (Calls Tryz.prog 128 #[.slice (some x) D.blk cap] w2 fun e w3=>∃ a c,e=.returned (.slice a D.blk c)/\w3.cell? ⟨w.heap.size,0,none⟩=some (.slice none 0 0)/\(∀ k,w3.frozen? ⟨w.heap.size,k,none⟩=false)/\w3.cell? ⟨w.heap.size,1,none⟩=some (.bool false) /\
    Hid (∃ S4,Kv ((w3.setCell ⟨w.heap.size,0,none⟩ (.slice a D.blk c)).setCell ⟨w.heap.size,1,none⟩ (.bool true)) S4 g dg (C.set b ⟨zs,true,0⟩) D/\Nx S w S4 ((w3.setCell ⟨w.heap.size,0,none⟩ (.slice a D.blk c)).setCell ⟨w.heap.size,1,none⟩ (.bool true)))):=by
 have b1:Below w.heap.size w (w.alloc aip):=(Below.refl _ w).alloc (Nat.le_refl _) _
 have h1:CcM (w.alloc aip) Sc g dg D.n D.blk C m:=h.cc.kept (fun k hk=>b1.block k (h.cc.lt k hk)) (fun _ h=>h) (fun k hk=>Nat.lt_of_lt_of_le (h.cc.lt k hk) b1.size)
 obtain⟨_,_,_,c3,_⟩:=h1.cells
 obtain⟨w2,r2,M2,g2,z2⟩:=h1.map.put w.heap.size h.dd.ok.n2 hb
 have hmb:=h.cc.lt _ h.cc.sm
 have k2:∀ k,k<w.heap.size->k≠m.mb->w2.heap[k]?=w.heap[k]?:=fun k hk hne=>(g2.block k (Nat.lt_of_lt_of_le hk b1.size) (fun e=>hne (by simpa using e))).trans (b1.block k hk)
 have hq2:w2.rowIs w.heap.size 195 3 (fun i=>if i=0 then .slice none 0 0 else if i=1 then .bool false else .int .i64 0):=by
  have:=World.rowIs_alloc w #[.slice none 0 0,.bool false,.int .i64 0] 195 (fun i=>if i=0 then .slice none 0 0 else if i=1 then .bool false else .int .i64 0) (fun i hi=>by
   have:i=0\/i=1\/i=2:=by simp at hi;omega
   rcases this with rfl | rfl | rfl<;>rfl)
  exact this.of_block (g2.block _ (by simp) (fun e=>by simp at e;omega))
 have s2:w.heap.size<w2.heap.size:=hq2.lt
 have hx2:Has w2 (some x) D.blk zs:=by
  refine⟨hr.1,fun hp=>?_⟩
  obtain⟨bb,off,e,hc⟩:=hr.2 hp
  refine⟨bb,off,e,fun j hj=>?_⟩
  have hlt:=aF (hc j hj)
  cases e
  rw[← hc j hj]
  simp only[World.cell?]
  rw[k2 bb hlt hbx]
 have hb2:=h.dd.ok.b2
 refine⟨c3,w2,r2,(fF x D.blk cap zs w2 hx2 (by omega)).mono ?_⟩
 rintro e w3 ⟨a,c,rfl,o3,b3⟩
 have hq3:=hq2.of_block (b3.block _ s2)
 refine⟨a,c,rfl,hq3.cell (i:=0) (by omega),fun k=>hq3.frozen k,hq3.cell (i:=1) (by omega),?_⟩
 have amP:∀ k,(Sc k\/(w.heap.size<=k/\k<w3.heap.size))->k<w3.heap.size:=fun k hk=>by
  rcases hk with hk | hk
  ·have:=h.cc.lt k hk
   have:=b3.size
   omega
  ·exact hk.2
 obtain⟨kk,rfl,hrow,hk1,hk2⟩:=o3.rowAt (by have:=h.dd.ok.b1;omega) hz (S:=fun k=>Sc k\/(w.heap.size<=k/\k<w3.heap.size)) (fun k h1 h2=>.inr ⟨by omega,h2⟩)
 have hq5:=(hq3.set 0 (.slice (some ⟨kk,0,none⟩) D.blk c)).set 1 (.bool true)
 have ne5:∀ k,k≠w.heap.size->((w3.setCell ⟨w.heap.size,0,none⟩ (.slice (some ⟨kk,0,none⟩) D.blk c)).setCell ⟨w.heap.size,1,none⟩ (.bool true)).heap[k]?=w3.heap[k]?:=fun k hk=>(Below.heap_setCell _ _ _ _ hk).trans (Below.heap_setCell _ _ _ _ hk)
 have z5:((w3.setCell ⟨w.heap.size,0,none⟩ (.slice (some ⟨kk,0,none⟩) D.blk c)).setCell ⟨w.heap.size,1,none⟩ (.bool true)).heap.size=w3.heap.size:=by simp[World.setCell]
 have m5:=CcM.more (u':=(w3.setCell ⟨w.heap.size,0,none⟩ (.slice (some ⟨kk,0,none⟩) D.blk c)).setCell ⟨w.heap.size,1,none⟩ (.bool true)) (S':=fun k=>Sc k\/(w.heap.size<=k/\k<w3.heap.size)) h.cc (b:=b) (q:=w.heap.size) (r:=(kk,c)) (l:=⟨zs,true,0⟩)
  (fun k hk hne=>by
   have hlt:=h.cc.lt k hk
   exact((ne5 k (by omega)).trans (b3.block k (by omega))).trans (k2 k hlt hne))
  (M2.kept ((ne5 _ (by omega)).trans (b3.block _ (by omega)))) (Nat.le_refl _)
  (hq5.congr (fun i hi=>by
   have:i=0\/i=1\/i=2:=by omega
   rcases this with rfl | rfl | rfl<;>simp[pR]))
  (hrow.kept (fun k c' _ hh=>ne5 k (fun e=>by
   subst e
   obtain⟨c9,hc9,_⟩:=hq3
   rw[hc9] at hh
   simp at hh)) (fun _ h=>h))
  (fun k hk=>.inl hk) (fun k hk=>by rw[z5];exact amP k hk) (.inr ⟨Nat.le_refl _,by omega⟩)
 have x5:Nx Sc w (fun k=>Sc k\/(w.heap.size<=k/\k<w3.heap.size)) ((w3.setCell ⟨w.heap.size,0,none⟩ (.slice (some ⟨kk,0,none⟩) D.blk c)).setCell ⟨w.heap.size,1,none⟩ (.bool true)):=by
  refine⟨⟨b3.os.trans (g2.os.trans b1.os),b3.tape.trans (g2.tape.trans b1.tape),b3.output.trans (g2.output.trans b1.output),by rw[z5];omega,fun k hk hn=>?_⟩,fun k hk hs=>?_⟩
  ·exact((ne5 k (by omega)).trans (b3.block k (by omega))).trans (k2 k hk (fun e=>hn (e ▸ h.cc.sm)))
  ·rcases hs with hs | hs
   ·exact hs
   ·omega
 obtain⟨y1,y2,y3,y4⟩:=Kv.own h.cc.lt h.dd h.dis h.all m5 x5
 exact⟨_,y3,y4⟩
theorem afm (g dg b:Nat)(x:Addr)(cap:Nat)(S:Nat->Prop)(C:Cac)(D:Dev)(w:World)(h:Kv w S g dg C D)(hb:b<D.n)(hl:C.L b=none)(he:C.rmE D≠0) :
  Calls Tryz.prog 74 #[.pointer (some ⟨g,0,none⟩),.int .i64 b,.slice (some x) D.blk cap] w fun e w'=>e=.returned (.int .i64 (C.rmE D))/\∃ S',Kv w' S' g dg (C.rmC D) (C.rmD D)/\Nx S w S' w':=by
 obtain⟨Sc,Sd,m,km⟩:=h.open
 have K:=iF g dg b (some x) D.blk cap Sc Sd C D m w km.cc km.dd
 rw[lS hb] at K
 replace K:=hide K
 obtain⟨_,_,_,c3,_⟩:=km.cc.cells
 have hlk:=km.cc.map.fC km.dd.ok.n2 hb (by simp[Cac.M,hl])
 have KM:=hide (pV g dg S C D w h)
 have d1:(C.rmE D != 0)=true:=by simpa using he
 clear h km hb hl he
 generalize m.mb=mb at *
 generalize D.blk=bb at *
 generalize C.rmC D=C1 at *
 generalize C.rmD D=D1 at *
 generalize C.rmE D=e1 at *
 go_enter Tryz.func74,Tryz.ntmps74
 go_wp2_with fail
 go_at_call 126
 refine(ah K).mono ?_
 rintro e w' ⟨rfl,rfl⟩
 clear K
 go_wp2_with fail
 go_at_call 127
 refine(ah KM).mono ?_
 rintro e w1 ⟨rfl,X⟩
 have X1:=hide X
 clear KM X
 go_wp2_with fail
 go_ret
 exact⟨rfl,ah X1⟩
theorem ahi (g dg b:Nat)(x:Addr)(cap:Nat)(zs:List Int)(S:Nat->Prop)(C:Cac)(D:Dev)(w:World)(h:Kv w S g dg C D)(hb:b<D.n)(hl:C.L b=none)(he:C.rmE D=0)(hr:Row w.heap.size w (some x) D.blk cap zs)(ho:Out S D.blk (some x)) :
  Calls Tryz.prog 74 #[.pointer (some ⟨g,0,none⟩),.int .i64 b,.slice (some x) D.blk cap] w fun e w'=>e=.returned (.int .i64 0)/\∃ S',Kv w' S' g dg ((C.rmC D).set b ⟨zs,true,0⟩) (C.rmD D)/\Nx S w S' w':=by
 obtain⟨Sc,Sd,m,km⟩:=h.open
 have K:=iF g dg b (some x) D.blk cap Sc Sd C D m w km.cc km.dd
 rw[lS hb] at K
 replace K:=hide K
 obtain⟨_,_,_,c3,_⟩:=km.cc.cells
 have hlk:=km.cc.map.fC km.dd.ok.n2 hb (by simp[Cac.M,hl])
 have KM:=pV g dg S C D w h
 rw[he] at KM
 replace KM:=hide KM
 have hb1:=km.dd.ok.b1
 have hn:=aaY C D
 have KL:Hid (∀ w1 S1,Kv w1 S1 g dg (C.rmC D) (C.rmD D)->Nx S w S1 w1->∃ mb w2,(w1.alloc aip).cell? ⟨g,3,none⟩=some (.map (some mb)) /\
   Hid ((Instr.mapUpdate 122 (.map (some mb)) (.int .i64 (b:Int)) (.pointer (some ⟨w1.heap.size,0,none⟩))).run Tryz.prog (w1.alloc aip)=.ok () w2) /\
   Hid (Calls Tryz.prog 128 #[.slice (some x) D.blk cap] w2 fun e w3=>∃ a c,e=.returned (.slice a D.blk c)/\w3.cell? ⟨w1.heap.size,0,none⟩=some (.slice none 0 0)/\(∀ k,w3.frozen? ⟨w1.heap.size,k,none⟩=false)/\w3.cell? ⟨w1.heap.size,1,none⟩=some (.bool false) /\
    Hid (∃ S4,Kv ((w3.setCell ⟨w1.heap.size,0,none⟩ (.slice a D.blk c)).setCell ⟨w1.heap.size,1,none⟩ (.bool true)) S4 g dg ((C.rmC D).set b ⟨zs,true,0⟩) (C.rmD D)/\Nx S w S4 ((w3.setCell ⟨w1.heap.size,0,none⟩ (.slice a D.blk c)).setCell ⟨w1.heap.size,1,none⟩ (.bool true))))):=by
  intro w1 S1 k1 x1
  obtain⟨Sc1,Sd1,m1,km1⟩:=k1.open
  have hr1:=hr.nx x1 ho
  have hx1:¬ S1 x.block:=by
   obtain⟨bb,off,e,hlt,_⟩:=hr.2.2.2.2 (by omega)
   cases e
   exact(x1.keep hlt (ho (by omega) _ rfl)).2.1
  have hq:=km1.lays (b:=b) (x:=x) (cap:=cap) (zs:=zs) (by rw[hn.1];exact hb) (by rw[hn.2];exact hr1.has) (fun e=>hx1 (by rw[e];exact(km1.all _).2 (.inl km1.cc.sm))) hr.2.2.2.1
  rw[hn.2] at hq
  obtain⟨q1,w2,q2,q3⟩:=hq
  refine⟨m1.mb,w2,q1,q2,(ah q3).mono ?_⟩
  rintro e w3 ⟨a,c,rfl,p1,p2,p3,S4,p4,p5⟩
  exact⟨a,c,rfl,p1,p2,p3,S4,p4,x1.trans p5⟩
 clear h km hb hl he hr ho hb1 hn
 generalize m.mb=mb at *
 generalize D.blk=bb at *
 generalize C.rmC D=C1 at *
 generalize C.rmD D=D1 at *
 go_enter Tryz.func74,Tryz.ntmps74
 go_wp2_with fail
 go_at_call 126
 refine(ah K).mono ?_
 rintro e w' ⟨rfl,rfl⟩
 clear K
 go_wp2_with fail
 go_at_call 127
 refine(ah KM).mono ?_
 rintro e w1 ⟨rfl,S1,k1,x1⟩
 obtain⟨mb1,w2,y1,Y2,Y3⟩:=ah KL w1 S1 k1 x1
 clear KM KL k1 x1 c3 hlk
 go_wp2_with (at_mapUpdate;refine dJ 122 rfl _ _ _ rfl _ _ _ rfl rfl rfl (ah Y2) ?_;clear Y2 y1)
 go_at_call 128
 refine(ah Y3).mono ?_
 rintro e w3 ⟨a,c,rfl,x0,x1,x2,X⟩
 clear Y3
 go_wp2_with fail
 go_ret
 exact⟨rfl,ah X⟩
def Cac.ptE (C:Cac) (D:Dev) (b:Nat):Int:=match C.L b with | some _=>0 | none=>C.rmE D
def Cac.ptC (C:Cac) (D:Dev) (b:Nat) (zs:List Int):Cac:=match C.L b with | some l=>C.set b ⟨zs,true,l.p⟩ | none=>if C.rmE D=0 then (C.rmC D).set b ⟨zs,true,0⟩ else C.rmC D
def Cac.ptD (C:Cac) (D:Dev) (b:Nat):Dev:=match C.L b with | some _=>D | none=>C.rmD D
theorem afA (g dg b:Nat)(x:Addr)(cap:Nat)(zs:List Int)(S:Nat->Prop)(C:Cac)(D:Dev)(w:World)(h:Kv w S g dg C D)(hb:b<D.n)(hr:Row w.heap.size w (some x) D.blk cap zs)(ho:Out S D.blk (some x)) :
  Calls Tryz.prog 74 #[.pointer (some ⟨g,0,none⟩),.int .i64 b,.slice (some x) D.blk cap] w fun e w'=>e=.returned (.int .i64 (C.ptE D b))/\∃ S',Kv w' S' g dg (C.ptC D b zs) (C.ptD D b)/\Nx S w S' w':=by
 unfold Cac.ptE Cac.ptC Cac.ptD
 cases hl:C.L b with
 | some l =>
  simp only
  exact afk g dg b l x cap zs S C D w h hb hl hr.has hr.2.2.2.1
 | none =>
  simp only
  by_cases he:C.rmE D=0
  ·rw[if_pos he,he]
   exact ahi g dg b x cap zs S C D w h hb hl he hr ho
  ·rw[if_neg he]
   exact afm g dg b x cap S C D w h hb hl he
theorem ahT (g dg b:Nat)(S:Nat->Prop)(C:Cac)(D:Dev)(w:World)(h:Kv w S g dg C D)(hb:b<D.n)(hl:C.L b=none) :
  Calls Tryz.prog 129 #[.pointer (some ⟨g,0,none⟩),.int .i64 b] w fun e w'=>e=.returned (.int .i64 11)/\w=w':=by
 obtain⟨Sc,Sd,m,km⟩:=h.open
 have K:=hide (adX g dg b Sc Sd C D m w km.cc km.dd hb hl)
 clear h km hb hl
 go_enter Tryz.func129,Tryz.ntmps129
 go_wp2_with (go_at_call 201;refine(ah K).mono ?_;rintro e w' ⟨rfl,rfl⟩;clear K)
 go_ret
 exact⟨rfl,rfl⟩
theorem aee (g dg b:Nat)(l:Ln)(S:Nat->Prop)(C:Cac)(D:Dev)(w:World)(h:Kv w S g dg C D)(hb:b<D.n)(hl:C.L b=some l)(hp:0<l.p) :
  Calls Tryz.prog 129 #[.pointer (some ⟨g,0,none⟩),.int .i64 b] w fun e w'=>e=.returned (.int .i64 17)/\w=w':=by
 obtain⟨Sc,Sd,m,km⟩:=h.open
 have K:=hide (qj g dg b l Sc Sd C D m w km.cc km.dd hb hl)
 obtain⟨_,_,l2,l3⟩:=km.cc.line hb hl
 clear h km hb hl
 generalize m.q b=q at *
 generalize l.p=p at *
 go_enter Tryz.func129,Tryz.ntmps129
 go_wp2_with (go_at_call 201;refine(ah K).mono ?_;rintro e w' ⟨rfl,rfl⟩;clear K)
 go_ret
 exact⟨rfl,rfl⟩
theorem aed (g dg b:Nat)(l:Ln)(S:Nat->Prop)(C:Cac)(D:Dev)(w:World)(h:Kv w S g dg C D)(hb:b<D.n)(hl:C.L b=some l)(hp:¬ 0<l.p) :
  Calls Tryz.prog 129 #[.pointer (some ⟨g,0,none⟩),.int .i64 b] w fun e w'=>e=.returned (.int .i64 0)/\∃ S',Kv w' S' g dg (C.del b) D/\Nx S w S' w':=by
 obtain⟨Sc,Sd,m,km⟩:=h.open
 have K:=hide (qj g dg b l Sc Sd C D m w km.cc km.dd hb hl)
 obtain⟨_,_,l2,l3⟩:=km.cc.line hb hl
 obtain⟨_,_,_,c3,_⟩:=km.cc.cells
 obtain⟨w4,r4,c4,x4⟩:=km.cc.drop km.dd.ok.n2 hb
 obtain⟨y1,y2,y3,y4⟩:=Kv.own km.cc.lt km.dd km.dis km.all c4 x4
 have R4:=hide r4
 have X:Hid (∃ S',Kv w4 S' g dg (C.del b) D/\Nx S w S' w4):=⟨_,y3,y4⟩
 clear h km hb hl r4 c4 x4 y1 y2 y3 y4
 generalize m.q b=q at *
 generalize m.mb=mb at *
 generalize l.p=p at *
 go_enter Tryz.func129,Tryz.ntmps129
 go_wp2_with (first | (go_at_call 201;refine(ah K).mono ?_;rintro e w' ⟨rfl,rfl⟩;clear K) | (at_delete;refine fA 122 3 rfl _ _ rfl _ _ rfl rfl (ah R4) ?_;clear R4))
 go_ret
 exact⟨rfl,ah X⟩
end Go.Proofs.YtlpgfigbpjpdhaaGreatDoor
