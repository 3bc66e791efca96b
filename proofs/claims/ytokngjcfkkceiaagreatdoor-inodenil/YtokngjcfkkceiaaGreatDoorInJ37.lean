/- Joined: KOut, KAll, KMath. -/
import Derived.Test.YtokngjcfkkceiaaGreatDoorInKNew
import Derived.Test.YtokngjcfkkceiaaGreatDoorInJ23
import Derived.Test.YtokngjcfkkceiaaGreatDoorInGVals
import Derived.Test.YtokngjcfkkceiaaGreatDoorInGScope
/- The contracts of Out and All. -/
namespace Go.Proofs.YtokngjcfkkceiaaGreatDoor
set_option maxRecDepth 100000
set_option maxHeartbeats 8000000
open Go.RowKit Go.Shelf Go.Maps
set_option linter.unusedVariables false

def outE:List Nat→Cac→Dev→Int
 | [],_,_=>0
 | b::r,C,D=>if C.wbE D b=0 then outE r (C.wbC D b) (C.wbD D b) else C.wbE D b

def outC:List Nat→Cac→Dev→Cac
 | [],C,_=>C
 | b::r,C,D=>if C.wbE D b=0 then outC r (C.wbC D b) (C.wbD D b) else C.wbC D b

def outD:List Nat→Cac→Dev→Dev
 | [],_,D=>D
 | b::r,C,D=>if C.wbE D b=0 then outD r (C.wbC D b) (C.wbD D b) else C.wbD D b

theorem out_nil (x:Value)(w:World):Calls Tryz.prog 153 #[.pointer none,x] w fun e w'=>e=.returned (.int .i64 1)∧w=w':=by
 go_enter Tryz.func153,Tryz.ntmps153
 go_wp2
 go_step3
 go_wp2
 rw[Exit.noGoto_ret]
 go_ret
 exact⟨rfl,rfl⟩

def nums (zs:List Int):List Nat:=(srt zs).map Int.toNat

structure OutI (w:World) (S:Nat→Prop) (g dg n:Nat) (eE:Int) (eC:Cac) (eD:Dev) (av:Option Addr) (lv cv:Nat) (w':World) (S':Nat→Prop) (s:List Nat) (C:Cac) (D:Dev):Prop where
 kv:Kv w' S' g dg C D
 nx:Nx S w S' w'
 ih:IHas w' av lv (s.map (fun b:Nat=>(b:Int)))
 cp:lv≤cv∧cv≤9223372036854775807
 ou:∀ x,av=some x→¬ S' x.block∧x.block<w'.heap.size
 nn:D.n=n
 si:∀ b∈s,b<n
 rE:outE s C D=eE
 rC:outC s C D=eC
 rD:outD s C D=eD

theorem OutI.len {w:World}{S:Nat→Prop}{g dg n:Nat}{eE:Int}{eC:Cac}{eD:Dev}{av:Option Addr}{lv cv:Nat}{w':World}{S':Nat→Prop}{s:List Nat}{C:Cac}{D:Dev}(h:OutI w S g dg n eE eC eD av lv cv w' S' s C D):lv=s.length:=by
 have:=h.ih.1
 simpa using this.symm

def OutJ (w:World) (S:Nat→Prop) (g dg n:Nat) (eE:Int) (eC:Cac) (eD:Dev) (a':Act) (w':World):Prop :=
 ∃ av lv cv S' s C D,OutI w S g dg n eE eC eD av lv cv w' S' s C D∧∃ u1 u2 u3 u4 u5 u6 u7 u9 u10 u11 u12 u13 u14 u15 u16 u17 u18 u19 u20 u21 u22 u23 u24 u25 u26 u27 u28 u29 u30 u31 u32 u33 u34 u35 u36 u37 u38 u39 u40:Value,
  a'={ tmps:=#[.pointer (some ⟨g,0,none⟩),u1,u2,u3,u4,u5,u6,u7,.slice av lv cv,u9,u10,u11,u12,u13,u14,u15,u16,u17,u18,u19,u20,u21,u22,u23,u24,u25,u26,u27,u28,u29,u30,u31,u32,u33,u34,u35,u36,u37,u38,u39,u40],defers:=[] }

theorem OutJ.mk {w:World}{S:Nat→Prop}{g dg n:Nat}{eE:Int}{eC:Cac}{eD:Dev}{w':World}{av:Option Addr}{lv cv:Nat}{S':Nat→Prop}{s:List Nat}{C:Cac}{D:Dev}(h:OutI w S g dg n eE eC eD av lv cv w' S' s C D){u1 u2 u3 u4 u5 u6 u7 u9 u10 u11 u12 u13 u14 u15 u16 u17 u18 u19 u20 u21 u22 u23 u24 u25 u26 u27 u28 u29 u30 u31 u32 u33 u34 u35 u36 u37 u38 u39 u40:Value} :
  OutJ w S g dg n eE eC eD { tmps:=#[.pointer (some ⟨g,0,none⟩),u1,u2,u3,u4,u5,u6,u7,.slice av lv cv,u9,u10,u11,u12,u13,u14,u15,u16,u17,u18,u19,u20,u21,u22,u23,u24,u25,u26,u27,u28,u29,u30,u31,u32,u33,u34,u35,u36,u37,u38,u39,u40],defers:=[] } w' :=
 ⟨av,lv,cv,S',s,C,D,h,_,_,_,_,_,_,_,_,_,_,_,_,_,_,_,_,_,_,_,_,_,_,_,_,_,_,_,_,_,_,_,_,_,_,_,_,_,_,_,rfl⟩

def outMu (a':Act) (_:World):Nat:=lenOf (a'.tmps.getD 8 undef)

theorem OutI.step {w:World}{S:Nat→Prop}{g dg n:Nat}{eE:Int}{eC:Cac}{eD:Dev}{av:Option Addr}{lv cv:Nat}{w':World}{S':Nat→Prop}{b:Nat}{s:List Nat}{C:Cac}{D:Dev}(h:OutI w S g dg n eE eC eD av lv cv w' S' (b::s) C D) :
  (∃ k off,av=some ⟨k,off,none⟩∧w'.cell? ⟨k,off,none⟩=some (.int .i64 (b:Int))) ∧
   Hid (Calls Tryz.prog 165 #[.pointer (some ⟨g,0,none⟩),.int .i64 (b:Int)] w' fun e w2=>e=.returned (.int .i64 (C.wbE D b)) ∧
    (C.wbE D b=0→Hid (∃ S2,OutI w S g dg n eE eC eD (cutAt av cv 1) (lv - 1) (cv - 1) w2 S2 s (C.wbC D b) (C.wbD D b))) ∧
    (C.wbE D b≠0→Hid (C.wbE D b=eE∧∃ S2,Kv w2 S2 g dg eC eD∧Nx S w S2 w2))):=by
 have hl:=h.len
 have hp:0<lv:=by rw[hl];simp
 obtain⟨k,off,rfl,hc⟩:=h.ih.2 hp
 refine⟨⟨k,off,rfl,(hc 0 hp).trans (by simp)⟩,?_⟩
 have hb:b<D.n:=by rw[h.nn];exact h.si b (by simp)
 refine(writeBack_any g dg b S' C D w' h.kv hb).mono ?_
 rintro e w2 ⟨rfl,S2,k2,x2⟩
 have ho:∀ len,Out S' len (some ⟨k,off,none⟩):=fun _ _ x e=>by cases e;exact(h.ou _ rfl).1
 refine⟨rfl,fun e0=>⟨S2,k2,h.nx.trans x2,?_,by have:=h.cp;omega,fun x ex=>?_,(wbD_n C D b).1.trans h.nn,fun c hc=>h.si c (by simp[hc]),?_,?_,?_⟩,fun e0=>⟨?_,S2,?_,h.nx.trans x2⟩⟩
 ·have:=(h.ih.nx x2 (ho _)).cut1 h.cp.1 hp
  simpa using this
 ·have hk:x.block=k:=by
   unfold cutAt at ex
   split at ex
   ·cases ex;rfl
   ·simp[Addr.add] at ex;rw[← ex]
  rw[hk]
  have:=x2.keep (h.ou _ rfl).2 (h.ou _ rfl).1
  exact⟨this.2.1,this.2.2⟩
 ·have:=h.rE;unfold outE at this;rwa [if_pos e0] at this
 ·have:=h.rC;unfold outC at this;rwa [if_pos e0] at this
 ·have:=h.rD;unfold outD at this;rwa [if_pos e0] at this
 ·have:=h.rE;unfold outE at this;rwa [if_neg e0] at this
 ·have e1:=h.rC
  have e2:=h.rD
  unfold outC at e1
  unfold outD at e2
  rw[if_neg e0] at e1 e2
  rw[← e1,← e2]
  exact k2

theorem out_good (g dg:Nat)(S Sc Sd:Nat→Prop)(C:Cac)(D:Dev)(m:KMem)(w:World)(h:KvM w S Sc Sd g dg C D m)(a:Option Addr)(cap:Nat)(zs:List Int)(hreach:zs.length*8≤140737488351232)(hI:IHas w a zs.length zs)(hz:∀ z∈zs,0≤z∧z<D.n) :
  Calls Tryz.prog 153 #[.pointer (some ⟨g,0,none⟩),.slice a zs.length cap] w fun e w'=>e=.returned (.int .i64 (outE (nums zs) C D))∧∃ S',Kv w' S' g dg (outC (nums zs) C D) (outD (nums zs) C D)∧Nx S w S' w':=by
 have KR:Hid (∀ j,j<zs.length→Calls Tryz.prog 161 #[.pointer (some ⟨g,0,none⟩),.int .i64 (zs[j]?.getD 0)] w fun e w'=>e=.returned (.int .i64 0)∧w=w'):=by
  intro j hj
  have:=refuses_cc g dg (zs[j]?.getD 0) Sc Sd C D m w h.cc h.dd
  have hm:zs[j]?.getD 0∈zs:=by rw[List.getElem?_eq_getElem hj];exact List.getElem_mem _
  unfold rangeE at this
  rwa [if_neg (by have:=hz _ hm;omega)] at this
 have KC:Hid (∀ j,j<zs.length→∃ k off,a=some ⟨k,off,none⟩∧w.cell? ⟨k,off+j,none⟩=some (.int .i64 (zs[j]?.getD 0))):=by
  intro j hj
  obtain⟨k,off,e,hc⟩:=hI.2 (by omega)
  exact⟨k,off,e,hc j hj⟩
 have KV:=hide (values_sorted a cap zs hreach w hI)
 have K0:Hid (∀ w2 v,Gr w.heap.size w2 v (srt zs)→Below w.heap.size w w2→∃ av lv cv,v=.slice av lv cv∧Hid (OutI w S g dg D.n (outE (nums zs) C D) (outC (nums zs) C D) (outD (nums zs) C D) av lv cv w2 S (nums zs) C D)):=by
  intro w2 v g2 b2
  obtain⟨av,cv,rfl,i2,i3,i4⟩:=g2.ihas
  have hin:∀ z∈srt zs,0≤z∧z<D.n:=fun z hz'=>hz z ((srt_perm zs).mem_iff.1 hz')
  have en:(nums zs).map (fun b:Nat=>(b:Int))=srt zs:=by
   unfold nums
   rw[List.map_map]
   conv=>rhs;rw[← List.map_id (srt zs)]
   refine List.map_congr_left (fun z hz'=>?_)
   exact Int.toNat_of_nonneg (hin z hz').1
  refine⟨av,_,cv,rfl,h.kv.below b2,(Nx.refl S w).below' b2,by rw[en];exact i2,⟨i3,by unfold maxLen at i4;omega⟩,fun x ex=>?_,rfl,fun b hb=>?_,rfl,rfl,rfl⟩
  ·obtain⟨a',c',e',io⟩:=g2.own
   cases e'
   rcases io.2.2.2 with ⟨e,_⟩ | ⟨k,cur,e,hk,hh,_⟩
   ·rw[e] at ex;cases ex
   ·rw[e] at ex
    cases ex
    exact⟨fun hs=>by have:k<w.heap.size:=h.kv.lt hs;omega,(Array.getElem?_eq_some_iff.1 hh).1⟩
  ·unfold nums at hb
   obtain⟨z,hz',rfl⟩:=List.mem_map.1 hb
   have:=hin z hz'
   omega
 generalize outE (nums zs) C D=eE at *
 generalize outC (nums zs) C D=eC at *
 generalize outD (nums zs) C D=eD at *
 generalize D.n=nn at *
 have hlen:zs.length≤17592186043904:=by omega
 generalize zs.length=len at *
 clear h hI hz hreach
 go_enter Tryz.func153,Tryz.ntmps153
 go_wp2
 refine wp_scope_one 0 (OutJ w S g dg nn eE eC eD) outMu rfl ?_ ?_
 ·intro a' w' hJ
  clear KR KC KV K0
  obtain⟨av,lv,cv,S',s,C',D',hO,u1,u2,u3,u4,u5,u6,u7,u9,u10,u11,u12,u13,u14,u15,u16,u17,u18,u19,u20,u21,u22,u23,u24,u25,u26,u27,u28,u29,u30,u31,u32,u33,u34,u35,u36,u37,u38,u39,u40,rfl⟩:=hJ
  have hl:=hO.len
  have hcp:=hO.cp
  cases s with
  | nil =>
   obtain rfl:lv=0:=hl
   have X:Hid (0=eE∧∃ S',Kv w' S' g dg eC eD∧Nx S w S' w'):=by
    have e1:=hO.rE
    have e2:=hO.rC
    have e3:=hO.rD
    unfold outE at e1
    unfold outC at e2
    unfold outD at e3
    exact⟨e1,S',by rw[← e2,← e3];exact hO.kv,hO.nx⟩
   clear hO
   go_wp2_with fail
   simp only[Exit.jump]
   go_ret
   have e4:=(unhide X).1
   subst e4
   exact⟨rfl,(unhide X).2⟩
  | cons b s =>
   obtain⟨⟨k,off,rfl,ck⟩,KW⟩:=hO.step
   obtain⟨l1,rfl⟩:∃ l1,lv=l1+1:=⟨s.length,by rw[hl];rfl⟩
   have hr:∀ w:World,(Instr.slice 22 (.slice (some ⟨k,off,none⟩) (l1+1) cv) (some (.int .i64 1)) none none).run Tryz.prog w=.ok (.slice (cutAt (some ⟨k,off,none⟩) cv 1) (l1+1 - 1) (cv - 1)) w:=fun w=>run_icut (some ⟨k,off,none⟩) (l1+1) cv (by omega) w
   rw[Nat.add_sub_cancel] at hr KW
   have hE:C'.wbE D' b=0∨C'.wbE D' b≠0:=by omega
   generalize C'.wbC D' b=C3 at *
   generalize C'.wbD D' b=D3 at *
   generalize C'.wbE D' b=e3 at *
   generalize cutAt (some ⟨k,off,none⟩) cv 1=av2 at *
   clear hO hl
   rcases hE with rfl | hE
   ·go_wp2_with fail
    go_at_call 165
    refine(unhide KW).mono ?_
    rintro e w2 ⟨rfl,X,_⟩
    obtain⟨S2,X2⟩:=unhide (X trivial)
    have X3:=hide X2
    clear KW X X2 ck
    go_wp2_with fail
    go_step3
    exact⟨rfl,OutJ.mk (unhide X3),by simp[outMu,lenOf]⟩
   ·have d1:(e3 != 0)=true:=by simpa using hE
    go_wp2_with fail
    go_at_call 165
    refine(unhide KW).mono ?_
    rintro e w2 ⟨rfl,_,X⟩
    have X2:=hide (unhide (X hE))
    clear KW X ck
    go_wp2_with fail
    simp only[Exit.jump]
    go_ret
    have e4:=(unhide X2).1
    subst e4
    exact⟨rfl,(unhide X2).2⟩
 ·intro N
  have N1:=hide N
  clear N
  go_wp2
  go_loop [14] (fun i=>∃ k:Nat,k≤len∧i=.int .i64 (k:Int)) (fun i=>len - (intOf i).toNat)
  case atStart=>exact⟨0,Nat.zero_le _,rfl⟩
  case round =>
   obtain⟨k,hk,rfl⟩:=hrel
   by_cases hlt:k<len
   ·obtain⟨kb,off,rfl,ck⟩:=unhide KC k hlt
    have K1:=hide (unhide KR k hlt)
    clear KV K0 KR KC
    generalize zs[k]?.getD 0=z at *
    go_wp2_with (go_at_call 161;refine(unhide K1).mono ?_;rintro e w' ⟨rfl,rfl⟩;clear K1)
    go_round
    case rel=>exact⟨k+1,by omega,by go_num⟩
    case measure=>simp[intOf];omega
   ·clear KC KR
    go_wp2_with fail
    go_at_call 208
    refine(unhide KV).mono ?_
    rintro e w1 ⟨rfl,KS⟩
    clear KV
    go_wp2_with fail
    go_at_call 99
    refine(unhide KS).mono ?_
    rintro e w2 ⟨v,rfl,X⟩
    obtain⟨av,lv,cv,rfl,X1⟩:=unhide K0 w2 v (unhide X).1 (unhide X).2
    clear KS K0 X
    go_wp2_with fail
    go_step3
    rename_i hK
    refine hK _ _ ?_
    exact unhide N1 _ _ (OutJ.mk (unhide X1))

theorem out_kv (g dg:Nat)(S:Nat→Prop)(C:Cac)(D:Dev)(w:World)(h:Kv w S g dg C D)(a:Option Addr)(len cap:Nat)(zs:List Int)(hl:zs.length=len)(hreach:len*8≤140737488351232)(hI:IHas w a len zs)(hz:∀ z∈zs,0≤z∧z<D.n) :
  Calls Tryz.prog 153 #[.pointer (some ⟨g,0,none⟩),.slice a len cap] w fun e w'=>e=.returned (.int .i64 (outE (nums zs) C D))∧∃ S',Kv w' S' g dg (outC (nums zs) C D) (outD (nums zs) C D)∧Nx S w S' w':=by
 subst hl
 obtain⟨Sc,Sd,m,km⟩:=h.open
 exact out_good g dg S Sc Sd C D m w km a cap zs hreach hI hz

theorem list_nums (C:Cac)(n:Nat)(f:Ln→Bool):nums (C.list n f)=C.those n f:=by
 unfold nums
 have hr:(C.list n f).Pairwise (·≤·):=by
  unfold Cac.list
  rw[List.pairwise_map]
  exact(C.those_rising n f).imp (fun h=>by omega)
 rw[srt_eq (List.Perm.refl _) hr]
 unfold Cac.list
 rw[List.map_map]
 conv=>rhs;rw[← List.map_id (C.those n f)]
 exact List.map_congr_left (fun z _=>by simp)

theorem list_in (C:Cac)(n:Nat)(f:Ln→Bool):∀ z∈C.list n f,0≤z∧z<n:=by
 intro z hz
 obtain⟨b,hb,rfl⟩:=List.mem_map.1 hz
 have:=(Cac.mem_those.1 hb).1
 omega

theorem all_nil (w:World):Calls Tryz.prog 106 #[.pointer none] w fun e w'=>e=.returned (.int .i64 1)∧w=w':=by
 go_enter Tryz.func106,Tryz.ntmps106
 go_wp2_with fail
 go_at_call 154
 refine(dirty_nil w).mono ?_
 rintro e w' ⟨rfl,rfl⟩
 go_wp2_with fail
 go_at_call 153
 refine(out_nil _ w).mono ?_
 rintro e w' ⟨rfl,rfl⟩
 go_wp2_with fail
 go_ret
 exact⟨rfl,rfl⟩

theorem all_kv (g dg:Nat)(S:Nat→Prop)(C:Cac)(D:Dev)(w:World)(h:Kv w S g dg C D) :
  Calls Tryz.prog 106 #[.pointer (some ⟨g,0,none⟩)] w fun e w'=>e=.returned (.int .i64 (outE (C.those D.n fDirty) C D))∧∃ S',Kv w' S' g dg (outC (C.those D.n fDirty) C D) (outD (C.those D.n fDirty) C D)∧Nx S w S' w':=by
 have K:Hid (Calls Tryz.prog 154 #[.pointer (some ⟨g,0,none⟩)] w fun e w1=>∃ v,e=.returned v∧Hid (Calls Tryz.prog 153 #[.pointer (some ⟨g,0,none⟩),v] w1 fun e w'=>e=.returned (.int .i64 (outE (C.those D.n fDirty) C D))∧Hid (∃ S',Kv w' S' g dg (outC (C.those D.n fDirty) C D) (outD (C.those D.n fDirty) C D)∧Nx S w S' w'))):=by
  refine(dirty_kv g dg S C D w h).mono ?_
  rintro e w1 ⟨v,rfl,g1,b1⟩
  obtain⟨a,c,rfl,i1,i2,i3⟩:=g1.ihas
  refine⟨_,rfl,?_⟩
  have hn:=h.ok.n2
  have hl:(C.list D.n fDirty).length≤D.n:=by
   have:=C.those_len D.n fDirty
   simpa [Cac.list] using this
  have:=out_kv g dg S C D w1 (h.below b1) a _ c (C.list D.n fDirty) rfl (by omega) i1 (list_in C D.n fDirty)
  rw[list_nums] at this
  refine this.mono ?_
  rintro e w2 ⟨rfl,S',k2,x2⟩
  exact⟨rfl,S',k2,((Nx.refl S w).below' b1).trans x2⟩
 clear h
 generalize outE (C.those D.n fDirty) C D=eE at *
 generalize outC (C.those D.n fDirty) C D=eC at *
 generalize outD (C.those D.n fDirty) C D=eD at *
 go_enter Tryz.func106,Tryz.ntmps106
 go_wp2_with fail
 go_at_call 154
 refine(unhide K).mono ?_
 rintro e w1 ⟨v,rfl,K1⟩
 clear K
 go_wp2_with fail
 go_at_call 153
 refine(unhide K1).mono ?_
 rintro e w2 ⟨rfl,X⟩
 clear K1
 go_wp2_with fail
 go_ret
 exact⟨rfl,unhide X⟩

end Go.Proofs.YtokngjcfkkceiaaGreatDoor

/- What a cache holds while its device lives. -/
namespace Go.Proofs.YtokngjcfkkceiaaGreatDoor
set_option maxRecDepth 100000
set_option maxHeartbeats 8000000
open Go.RowKit Go.Shelf
set_option linter.unusedVariables false

def cnt (p:Nat→Bool) (n:Nat):Nat:=((List.range n).filter p).length

theorem cnt_succ (p:Nat→Bool)(n:Nat):cnt p (n+1)=cnt p n+(if p n=true then 1 else 0):=by
 unfold cnt
 rw[List.range_succ,List.filter_append,List.length_append]
 congr 1
 cases h:p n<;>simp[h]

theorem cnt_congr {p q:Nat→Bool}{n:Nat}(h:∀ j,j<n→p j=q j):cnt p n=cnt q n:=by
 unfold cnt
 rw[List.filter_congr (fun j hj=>h j (by simpa using hj))]

theorem cnt_upd (p:Nat→Bool)(b:Nat)(x:Bool):∀ n,b<n→cnt (fun j=>if j=b then x else p j) n+(if p b=true then 1 else 0)=cnt p n+(if x=true then 1 else 0)
 | 0,h=>by omega
 | n+1,h=>by
  rw[cnt_succ,cnt_succ]
  by_cases e:b=n
  ·subst e
   have:cnt (fun j=>if j=b then x else p j) b=cnt p b:=cnt_congr (fun j hj=>by rw[if_neg (by omega)])
   rw[this,if_pos rfl]
   omega
  ·have:=cnt_upd p b x n (by omega)
   rw[if_neg (show ¬ n=b by omega)]
   omega

theorem cnt_mono {p q:Nat→Bool}{n:Nat}(h:∀ j,j<n→p j=true→q j=true):cnt p n≤cnt q n:=by
 induction n with
 | zero=>simp[cnt]
 | succ n ih =>
  rw[cnt_succ,cnt_succ]
  have h1:=ih (fun j hj=>h j (by omega))
  have h2:=h n (by omega)
  by_cases hp:p n=true
  ·rw[if_pos hp,if_pos (h2 hp)];omega
  ·rw[if_neg hp];omega

theorem cnt_part (p q:Nat→Bool)(n:Nat):cnt (fun j=>p j&&q j) n+cnt (fun j=>p j&&!q j) n=cnt p n:=by
 induction n with
 | zero=>simp[cnt]
 | succ n ih =>
  rw[cnt_succ,cnt_succ,cnt_succ]
  cases p n<;>cases q n<;>simp<;>omega

theorem those_cnt (C:Cac)(n:Nat)(f:Ln→Bool):(C.those n f).length=cnt (C.wants f) n:=rfl

theorem those_nil_iff (C:Cac)(n:Nat)(f:Ln→Bool):C.those n f=[]↔cnt (C.wants f) n=0:=by
 rw[← those_cnt]
 exact List.length_eq_zero_iff.symm

def Dev.ali (D:Dev):Prop:=D.f=-1∧D.dead=false

theorem ali_wE {D:Dev}(h:D.ali):D.wE=0:=by
 unfold Dev.wE
 rw[if_neg]
 obtain⟨h1,h2⟩:=h
 rintro (h | h)
 ·omega
 ·rw[h2] at h;cases h

theorem ali_wD {D:Dev}(h:D.ali)(i:Nat)(zs:List Int):(D.wD i zs).ali∧(∀ j,(D.wD i zs).rd j=if j=i then zs else D.rd j):=by
 have hn:¬ (D.f=0∨D.dead=true):=by
  obtain⟨h1,h2⟩:=h
  rintro (h | h)
  ·omega
  ·rw[h2] at h;cases h
 unfold Dev.wD
 rw[if_neg hn]
 obtain⟨h1,h2⟩:=h
 split
 ·refine⟨⟨?_,h2⟩,fun j=>?_⟩
  ·show (if 0<D.f then D.f - 1 else D.f)=-1
   rw[if_neg (by omega)];exact h1
  ·unfold Dev.rd Dev.add Dev.burn
   by_cases e:j=i
   ·simp[e]
   ·simp[e]
 ·refine⟨⟨?_,h2⟩,fun j=>?_⟩
  ·show (if 0<D.f then D.f - 1 else D.f)=-1
   rw[if_neg (by omega)];exact h1
  ·unfold Dev.rd Dev.add Dev.shift Dev.burn
   by_cases e:j=i
   ·simp[e]
   ·simp[e]

def Cac.val (C:Cac) (D:Dev) (b:Nat):List Int:=match C.L b with | some l=>l.z | none=>D.rd b

def Cac.cln (C:Cac) (D:Dev):Prop:=∀ b l,b<D.n→C.L b=some l→l.d=false→D.rd b=l.z

theorem wb_L (C:Cac){D:Dev}(h:D.ali)(b:Nat):C.wbE D b=0∧(C.wbD D b).ali∧(C.wbC D b).cap=C.cap∧(∀ j,(C.wbC D b).L j=if j=b then (C.L b).map (fun l=>{ l with d:=false }) else C.L j):=by
 have hw:=ali_wE h
 unfold Cac.wbE Cac.wbD Cac.wbC
 cases hl:C.L b with
 | none =>
  refine⟨rfl,h,rfl,fun j=>?_⟩
  by_cases e:j=b
  ·subst e;simp[hl]
  ·simp[e]
 | some l =>
  obtain⟨z,d,p⟩:=l
  cases d with
  | false =>
   refine⟨rfl,h,rfl,fun j=>?_⟩
   by_cases e:j=b
   ·subst e;simp[hl]
   ·simp[e]
  | true =>
   have hc:(true=true∧D.wE=0):=⟨rfl,hw⟩
   simp only[if_true,hw,and_self]
   refine⟨trivial,(ali_wD h b z).1,rfl,fun j=>?_⟩
   unfold Cac.set
   by_cases e:j=b<;>simp[e]

theorem wb_rd (C:Cac){D:Dev}(h:D.ali)(b j:Nat):(C.wbD D b).rd j=if j=b then (match C.L b with | some l=>if l.d=true then l.z else D.rd b | none=>D.rd b) else D.rd j:=by
 unfold Cac.wbD
 cases hl:C.L b with
 | none =>
  by_cases e:j=b
  ·rw[e];simp
  ·simp[e]
 | some l =>
  obtain⟨z,d,p⟩:=l
  cases d with
  | false =>
   by_cases e:j=b
   ·rw[e];simp
   ·simp[e]
  | true=>simp[(ali_wD h b z).2]

theorem wb_val (C:Cac){D:Dev}(h:D.ali)(hc:C.cln D){b:Nat}(hb:b<D.n):(∀ j,j<D.n→(C.wbC D b).val (C.wbD D b) j=C.val D j)∧(C.wbC D b).cln (C.wbD D b):=by
 obtain⟨_,_,_,hL⟩:=wb_L C h b
 constructor
 ·intro j hj
  unfold Cac.val
  rw[hL j,wb_rd C h b j]
  by_cases e:j=b
  ·subst e
   cases hl:C.L j with
   | none=>simp
   | some l=>simp
  ·simp[e]
 ·intro j l hj hl hd
  rw[(wbD_n C D b).1] at hj
  rw[hL j] at hl
  rw[wb_rd C h b j]
  by_cases e:j=b
  ·subst e
   rw[if_pos rfl] at hl ⊢
   cases hl':C.L j with
   | none=>rw[hl'] at hl;simp at hl
   | some l0 =>
    rw[hl'] at hl
    simp at hl
    subst hl
    simp only
    cases hd0:l0.d with
    | true=>simp
    | false=>simp;exact hc j l0 hj hl' hd0
  ·rw[if_neg e] at hl ⊢
   exact hc j l hj hl hd

theorem vic_facts {C:Cac}{n:Nat}(h:C.those n fLoose≠[]):C.vic n<n∧∃ l,C.L (C.vic n)=some l∧l.p=0:=by
 obtain⟨h1,h2⟩:=Cac.mem_those.1 (vic_mem h)
 refine⟨h1,?_⟩
 unfold Cac.wants at h2
 cases hl:C.L (C.vic n) with
 | none=>rw[hl] at h2;cases h2
 | some l =>
  rw[hl] at h2
  exact⟨l,rfl,by simpa [fLoose] using h2⟩

theorem rm_facts (C:Cac){D:Dev}(h:D.ali)(hc:C.cln D)(hr:cnt (C.wants fHeld) D.n<C.cap∨C.those D.n fLoose≠[]) :
  C.rmE D=0∧(C.rmD D).ali∧(C.rmC D).cap=C.cap∧(C.rmC D).cln (C.rmD D)∧(∀ j,j<D.n→(C.rmC D).val (C.rmD D) j=C.val D j) ∧
   (∀ j,(C.rmC D).L j=C.L j∨(C.rmC D).L j=none∧∃ l,C.L j=some l∧l.p=0) ∧
   (cnt ((C.rmC D).wants fHeld) D.n<C.cap∨C.cap<cnt (C.wants fHeld) D.n):=by
 by_cases hl:(C.those D.n fHeld).length<C.cap
 ·have e1:C.rmE D=0:=if_pos hl
  have e2:C.rmC D=C:=if_pos hl
  have e3:C.rmD D=D:=if_pos hl
  rw[e1,e2,e3]
  exact⟨rfl,h,rfl,hc,fun _ _=>rfl,fun _=>.inl rfl,.inl hl⟩
 ·have h0:C.those D.n fLoose≠[]:=by
   rcases hr with hr | hr
   ·exact absurd hr hl
   ·exact hr
  have hn:C.next.those D.n fLoose=C.those D.n fLoose:=rfl
  obtain⟨v1,l,v2,v3⟩:=vic_facts h0
  obtain⟨b1,b2,b3,b4⟩:=wb_L C.next h (C.vic D.n)
  have hcn:C.next.cln D:=hc
  obtain⟨c1,c2⟩:=wb_val C.next h hcn (b:=C.vic D.n) v1
  have e1:C.rmE D=C.next.wbE D (C.vic D.n):=by unfold Cac.rmE;rw[if_neg hl,if_neg h0]
  have e2:C.rmC D=(C.next.wbC D (C.vic D.n)).del (C.vic D.n):=by unfold Cac.rmC;rw[if_neg hl,if_neg h0,if_pos b1]
  have e3:C.rmD D=C.next.wbD D (C.vic D.n):=by unfold Cac.rmD;rw[if_neg hl,if_neg h0]
  have hLv:(C.next.wbC D (C.vic D.n)).L (C.vic D.n)=some { l with d:=false }:=by
   rw[b4,if_pos rfl]
   show (C.L (C.vic D.n)).map _=_
   rw[v2];rfl
  have hL:∀ j,(C.rmC D).L j=if j=C.vic D.n then none else C.L j:=by
   intro j
   rw[e2]
   unfold Cac.del
   by_cases e:j=C.vic D.n
   ·simp[e]
   ·simp only[if_neg e]
    rw[b4,if_neg e];rfl
  refine⟨by rw[e1];exact b1,by rw[e3];exact b2,by rw[e2];exact b3,?_,?_,?_,?_⟩
  ·intro j l2 hj hl2 hd
   rw[hL] at hl2
   by_cases e:j=C.vic D.n
   ·simp[e] at hl2
   ·rw[if_neg e] at hl2
    rw[e3] at hj ⊢
    exact c2 j l2 hj (by rw[b4,if_neg e];exact hl2) hd
  ·intro j hj
   rw[← show C.next.val D j=C.val D j from rfl,← c1 j hj]
   unfold Cac.val
   rw[hL,e3]
   by_cases e:j=C.vic D.n
   ·rw[if_pos e,e,hLv]
    simp only
    exact c2 (C.vic D.n) { l with d:=false } (by rw[(wbD_n C.next D _).1];exact v1) hLv rfl
   ·rw[if_neg e,b4,if_neg e]
    rfl
  ·intro j
   rw[hL]
   by_cases e:j=C.vic D.n
   ·rw[if_pos e]
    exact .inr ⟨rfl,l,by rw[e];exact v2,v3⟩
   ·rw[if_neg e]
    exact .inl rfl
  ·have hw:∀ j,(C.rmC D).wants fHeld j=if j=C.vic D.n then false else C.wants fHeld j:=by
    intro j
    unfold Cac.wants
    rw[hL]
    by_cases e:j=C.vic D.n<;>simp[e]
   have hu:=cnt_upd (C.wants fHeld) (C.vic D.n) false D.n v1
   have hv:C.wants fHeld (C.vic D.n)=true:=by unfold Cac.wants;rw[v2];rfl
   rw[hv,if_pos rfl,← cnt_congr (fun j _=>hw j)] at hu
   simp at hu
   omega

theorem gt_facts (C:Cac){D:Dev}(h:D.ali)(hc:C.cln D){b:Nat}(hb:b<D.n)(hm:cnt (C.wants fHeld) D.n≤C.cap)(hr:C.L b≠none∨cnt (C.wants fHeld) D.n<C.cap∨C.those D.n fLoose≠[]) :
  C.gtE D b=0∧(C.gtD D b).ali∧((C.gtD D b).n=D.n∧(C.gtD D b).blk=D.blk)∧(C.gtC D b).cap=C.cap∧(C.gtC D b).cln (C.gtD D b)∧C.gtZ D b=C.val D b∧(∀ j,j<D.n→(C.gtC D b).val (C.gtD D b) j=C.val D j) ∧
   (∀ j,(C.gtC D b).L j=C.L j∨(C.gtC D b).L j=none∧(∃ l,C.L j=some l∧l.p=0)∨j=b∧∃ l,(C.gtC D b).L b=some l∧l.p=0∧l.d=false)∧(∃ l,(C.gtC D b).L b=some l)∧cnt ((C.gtC D b).wants fHeld) D.n≤C.cap:=by
 unfold Cac.gtE Cac.gtD Cac.gtC Cac.gtZ
 cases hl:C.L b with
 | some l =>
  exact⟨rfl,h,⟨rfl,rfl⟩,rfl,hc,by simp[Cac.val,hl],fun _ _=>rfl,fun _=>.inl rfl,⟨l,hl⟩,hm⟩
 | none =>
  simp only
  have hr':cnt (C.wants fHeld) D.n<C.cap∨C.those D.n fLoose≠[]:=by
   rcases hr with hr | hr
   ·exact absurd hl hr
   ·exact hr
  obtain⟨r1,r2,r3,r4,r5,r6,r7⟩:=rm_facts C h hc hr'
  have e0:C.ftE D=0:=by
   unfold Cac.ftE
   rw[if_neg (by simpa using r1),if_neg (by rw[r2.2];simp)]
  have e1:C.ftC D b=(C.rmC D).set b ⟨(C.rmD D).rd b,false,0⟩:=by unfold Cac.ftC;rw[if_pos e0]
  have hLb:(C.rmC D).L b=none:=by
   rcases r6 b with x | x
   ·rw[x];exact hl
   ·exact x.1
  have hL:∀ j,(C.ftC D b).L j=if j=b then some ⟨(C.rmD D).rd b,false,0⟩ else (C.rmC D).L j:=by
   intro j;rw[e1];rfl
  have hv:(C.rmD D).rd b=C.val D b:=by
   rw[← r5 b hb]
   unfold Cac.val
   rw[hLb]
  refine⟨e0,r2,rmD_n C D,by rw[e1];exact r3,?_,hv,?_,?_,?_,?_⟩
  ·intro j l hj hlj hd
   rw[hL] at hlj
   by_cases e:j=b
   ·rw[if_pos e] at hlj
    cases hlj
    rw[e]
   ·rw[if_neg e] at hlj
    exact r4 j l hj hlj hd
  ·intro j hj
   rw[← r5 j hj]
   unfold Cac.val
   rw[hL]
   by_cases e:j=b
   ·rw[if_pos e,e,hLb]
   ·rw[if_neg e]
  ·intro j
   rw[hL]
   by_cases e:j=b
   ·exact .inr (.inr ⟨e,⟨(C.rmD D).rd b,false,0⟩,by rw[hL,if_pos rfl],rfl,rfl⟩)
   ·rw[if_neg e]
    rcases r6 j with x | x
    ·exact .inl x
    ·exact .inr (.inl x)
  ·exact⟨_,by rw[hL,if_pos rfl]⟩
  ·have hw:∀ j,(C.ftC D b).wants fHeld j=if j=b then true else (C.rmC D).wants fHeld j:=by
    intro j
    unfold Cac.wants
    rw[hL]
    by_cases e:j=b<;>simp[e,fHeld]
   have hu:=cnt_upd ((C.rmC D).wants fHeld) b true D.n hb
   have hf:(C.rmC D).wants fHeld b=false:=by unfold Cac.wants;rw[hLb]
   rw[hf,← cnt_congr (fun j _=>hw j)] at hu
   simp at hu
   omega

end Go.Proofs.YtokngjcfkkceiaaGreatDoor
