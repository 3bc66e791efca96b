/- Joined: WWake, WSt, OMathA, OMathB, OMathC, AMath, AHold. -/
import Derived.Test.YtdfanhjnkjdngabGreatDoorAkJ41
import Derived.Test.YtdfanhjnkjdngabGreatDoorAkCOpenH
import Derived.Test.YtdfanhjnkjdngabGreatDoorAkJ32
import Derived.Test.YtdfanhjnkjdngabGreatDoorAkJ13
import Derived.Test.YtdfanhjnkjdngabGreatDoorAkJ43
import Derived.Test.YtdfanhjnkjdngabGreatDoorAkJ36
/- The contract of wakes; devices that live. -/
namespace Go.Proofs.YtdfanhjnkjdngabGreatDoor
set_option maxRecDepth 100000
set_option maxHeartbeats 8000000
open Go.RowKit Go.Shelf Go.Maps
set_option linter.unusedVariables false

def Dev.Live (D:Dev):Prop:=D.f=-1∧D.dead=false

theorem Dev.Live.wE {D:Dev} (h:D.Live):D.wE=0:=by
 unfold Dev.wE
 rw [if_neg]
 rintro (h1 | h1)
 ·rw [h.1] at h1; omega
 ·rw [h.2] at h1; cases h1

theorem Dev.Live.ap {D:Dev} (h:D.Live) (s:Stp):(s.ap D).Live:=by
 have hb:¬ (D.f=0 ∨ D.dead=true):=by
  rintro (h1 | h1)
  ·rw [h.1] at h1; omega
  ·rw [h.2] at h1; cases h1
 have hbu:D.burn.Live:=⟨by show (if 0 < D.f then D.f - 1 else D.f)=-1; rw [h.1]; rfl,h.2⟩
 cases s with
 | w i z =>
  show (D.wD i z).Live
  unfold Dev.wD
  rw [if_neg hb]
  split <;> exact hbu
 | f =>
  show D.fD.Live
  unfold Dev.fD
  rw [if_neg hb]
  exact hbu

theorem Dev.Live.run {D:Dev} (h:D.Live):∀ l:List Stp,runE l D=0∧(runD l D).Live
 | []=>⟨rfl,h⟩
 | s :: r=>by
  rw [runE_ok h.wE,runD_ok h.wE]
  exact (h.ap s).run r
termination_by l=>l.length

def V2 (g1 g2:Nat):List Wr:=[⟨20,some ⟨g1,0,none⟩,64,64,fl 1⟩,⟨21,some ⟨g2,0,none⟩,64,64,fl 2⟩]

end Go.Proofs.YtdfanhjnkjdngabGreatDoor

/- A log that stands on a device that lives: each call keeps it so. -/
namespace Go.Proofs.YtdfanhjnkjdngabGreatDoor
set_option maxRecDepth 100000
set_option maxHeartbeats 8000000
open Go.RowKit Go.Shelf
set_option linter.unusedVariables false

theorem spanP_zero {Ps:List Wl} (h:spanP Ps=0):Ps=[]:=by
 have:=spanP_len Ps
 exact List.length_eq_zero_iff.1 (by omega)

theorem Inv.none {G:Geo} {rd:Nat→List Int} {L:Lg} {Ps:List Wl} (h:Inv G rd L Ps) (h0:L.h.used=0):L.Q=fun _=>none:=by
 have:=h.sp
 rw [h0] at this
 rw [h.q,spanP_zero this]
 rfl

structure Good (G:Geo) (L:Lg) (W:Wl):Prop where
 b:blkE G (W.map (fun x=>(x.1:Int)))=0
 q:L.h.seq + G.parts W.length ≤ 4294967295
 u:G.uses W.length ≤ G.lg

theorem good_of {G:Geo} {L:Lg} {V:List Wr} (hs:L.h.seq ≤ 4294967295) (h:lstE G L.h.seq (wv V)=0):Good G L (wl V):=by
 unfold lstE at h
 by_cases h1:(wv V).all (fun x=>decide (x.2=G.blk))=true
 ·rw [if_pos h1] at h
  by_cases h2:blkE G ((wv V).map (·.1))=0
  ·rw [if_pos h2] at h
   have hl:(wv V).length=V.length:=by simp [wv]
   rw [hl] at h
   have hw:(wl V).length=V.length:=wl_len V
   by_cases h3:G.lg < G.uses V.length
   ·rw [if_pos h3] at h; omega
   ·rw [if_neg h3] at h
    by_cases h4:4294967295 - L.h.seq < G.parts V.length
    ·rw [if_pos h4] at h; omega
    ·refine ⟨?_,by rw [hw]; omega,by rw [hw]; omega⟩
     have e:(wl V).map (fun x=>(x.1:Int))=(wv V).map (·.1):=by
      unfold wl wv
      rw [List.map_map,List.map_map]
      refine List.map_congr_left (fun v hv=>?_)
      obtain ⟨h5,_⟩:=blkE_ok h2
      have:=(h5 v.b (List.mem_map.2 ⟨(v.b,v.dl),List.mem_map.2 ⟨v,hv,rfl⟩,rfl⟩)).1
      show ((v.b.toNat:Nat):Int)=v.b
      omega
     rw [e]
     exact h2
  ·rw [if_neg h2] at h; exact absurd h h2
 ·rw [if_neg h1] at h; omega

theorem setW_keys {G:Geo}:∀ (W:Wl) (Q:Nat→Option (List Int)),(∀ x ∈ W,G.ib ≤ x.1∧x.1 < G.n)→(∀ b z,Q b=some z→G.ib ≤ b∧b < G.n)→∀ b z,setW Q W b=some z→G.ib ≤ b∧b < G.n
 | [],Q,_,hQ,b,z,h=>hQ b z h
 | x :: r,Q,hW,hQ,b,z,h=>by
  refine setW_keys r _ (fun y hy=>hW y (List.mem_cons_of_mem _ hy)) (fun b z h=>?_) b z h
  by_cases e:b=x.1
  ·rw [e]; exact hW x (by simp)
  ·rw [if_neg e] at h; exact hQ b z h

theorem Good.keys {G:Geo} {L:Lg} {W:Wl} (h:Good G L W):∀ x ∈ W,G.ib ≤ x.1∧x.1 < G.n:=fun x hx=>by
 have:=(blkE_ok h.b).1 (x.1:Int) (List.mem_map.2 ⟨x,hx,rfl⟩)
 omega

end Go.Proofs.YtdfanhjnkjdngabGreatDoor

/- A log and a cache on a device that lives. -/
namespace Go.Proofs.YtdfanhjnkjdngabGreatDoor
set_option maxRecDepth 100000
set_option maxHeartbeats 8000000
open Go.RowKit Go.Shelf
set_option linter.unusedVariables false

structure Su (G:Geo) (L:Lg) (D:Dev):Prop where
 live:D.Live
 ld:L.dead=false
 n:D.n=G.n
 inv:∃ Ps,Inv G D.rd L Ps
 q:∀ b z,L.Q b=some z→G.ib ≤ b∧b < G.n

theorem Su.turn {G:Geo} (hG:G.Ok) {L:Lg} {D D':Dev} (h:Su G L D) (hl:D'.Live) (hn:D'.n=D.n) (hr:∀ j,j < G.ib→D'.rd j=D.rd j):Su G L D':=by
 obtain ⟨Ps,hI⟩:=h.inv
 have:=hG.ibn
 exact ⟨hl,h.ld,hn.trans h.n,⟨Ps,hI.congr hG (hr 1 (by omega)) (fun i _=>hr _ (hG.ring _).2.1)⟩,h.q⟩

theorem Su.apl {G:Geo} (hG:G.Ok) {L:Lg} {D:Dev} (h:Su G L D):apE G L D=0∧Su G (apL G L D) (apD G L D)∧(apL G L D).h.used=0∧(apL G L D).h.seq=L.h.seq∧(apL G L D).Q=(fun _=>none)∧(∀ j,G.ib ≤ j→j < G.n→(apD G L D).rd j=(L.Q j).getD (D.rd j)):=by
 obtain ⟨Ps,hI⟩:=h.inv
 have hib:=hG.ibn
 unfold apE apL apD
 by_cases h0:L.h.used=0
 ·rw [if_pos h0,if_pos h0,if_pos h0]
  have hn:=hI.none h0
  exact ⟨rfl,h,h0,rfl,hn,fun j _ _=>by rw [hn]; rfl⟩
 ·have hr:=h.live.run (aplS G L)
  rw [if_neg h0,if_neg h0,if_neg h0,if_pos hr.1]
  have hrd:=run_rd (aplS G L) D hr.1
  refine ⟨hr.1,⟨hr.2,h.ld,(runD_n _ _).1.trans h.n,⟨[],?_⟩,fun b z hb=>by cases hb⟩,rfl,rfl,rfl,fun j h1 h2=>?_⟩
  ·rw [hrd]
   exact hI.apply hG _
  ·rw [hrd]
   unfold aplS
   rw [rdS_append,rdS_stl]
   show (if j=1 then _ else rdS (homeS (pendW G L.Q)) D.rd j)=_
   rw [if_neg (by omega),home_rd G L.Q D.rd j h2]

theorem Su.aply {G:Geo} (hG:G.Ok) {L:Lg} {D:Dev} (h:Su G L D):aplyE G L D=0∧aplyL G L D=apL G L D∧aplyD G L D=apD G L D:=by
 have:=(h.apl hG).1
 unfold aplyE aplyL aplyD
 have hnd:¬ (L.dead=true):=by rw [h.ld]; decide
 rw [if_neg hnd,if_neg hnd,if_neg hnd,this]
 unfold Lg.met
 rw [if_neg (by decide)]
 exact ⟨rfl,rfl,rfl⟩

theorem Su.com0 {G:Geo} (hG:G.Ok) {L:Lg} {D:Dev} (h:Su G L D) {W:Wl} (hW:Good G L W) (hu:L.h.used + G.uses W.length ≤ G.lg):cmE0 G L W D=0∧Su G (cmL0 G L W D) (cmD0 G L W D)∧cmL0 G L W D=⟨G.after L.h W.length,setW L.Q W,false⟩∧(∀ j,G.ib ≤ j→j < G.n→(cmD0 G L W D).rd j=D.rd j):=by
 obtain ⟨Ps,hI⟩:=h.inv
 have hr:=h.live.run (comS G L W)
 have hrd:=run_rd (comS G L W) D hr.1
 have hib:=hG.ibn
 unfold cmE0 cmL0 cmD0
 rw [if_pos hr.1,h.ld]
 refine ⟨hr.1,⟨hr.2,rfl,(runD_n _ _).1.trans h.n,⟨_,by rw [hrd]; exact hI.commit hG W hW.b hW.q hu false⟩,setW_keys W L.Q hW.keys h.q⟩,rfl,fun j h1 h2=>?_⟩
 rw [hrd]
 unfold comS
 rw [rdS_append,rdS_stl]
 show (if j=1 then _ else rdS (partsS G L.h.seq (L.h.tail + L.h.used) W) D.rd j)=_
 rw [if_neg (by omega)]
 exact (parts_std hG W L.h.seq (L.h.tail + L.h.used) D.rd hW.b hW.q hW.u).2 j (fun i _=>by have:=(hG.ring (L.h.tail + L.h.used + i)).2.1; omega)

theorem wl_vOf (G:Geo) (W:Wl):wl (vOf G W)=W:=by
 unfold wl vOf
 rw [List.map_map]
 conv=>rhs; rw [← List.map_id W]
 refine List.map_congr_left (fun x _=>?_)
 show ((x.1:Int).toNat,x.2)=x
 simp

theorem wv_vOf (G:Geo) (W:Wl):wv (vOf G W)=W.map (fun x=>((x.1:Int),G.blk)):=by
 unfold wv vOf
 rw [List.map_map]
 rfl

theorem vOf_ok {G:Geo} {Q:Nat→Option (List Int)} (hQ:∀ b z,Q b=some z→G.ib ≤ b) (hu:G.uses (pendL G Q).length ≤ G.lg) {s:Nat} (hs:s + G.parts (pendL G Q).length ≤ 4294967295):lstE G s (wv (vOf G (pendW G Q)))=0:=by
 have e1:(wv (vOf G (pendW G Q))).map (·.1)=(pendL G Q).map (fun b:Nat=>(b:Int)):=by
  rw [wv_vOf,List.map_map]
  unfold pendW
  rw [List.map_map]
  rfl
 have e2:(wv (vOf G (pendW G Q))).length=(pendL G Q).length:=by rw [wv_vOf,List.length_map,pendW_len]
 have hb:blkE G ((pendL G Q).map (fun b:Nat=>(b:Int)))=0:=by
  unfold blkE
  rw [if_pos,if_pos]
  ·refine List.Pairwise.map _ (fun a b hab=>?_) (List.Pairwise.filter _ List.nodup_range)
   exact fun e=>hab (by omega)
  ·refine List.all_eq_true.2 (fun x hx=>?_)
   obtain ⟨b,hb,rfl⟩:=List.mem_map.1 hx
   obtain ⟨h1,h2⟩:=pendL_mem.1 hb
   obtain ⟨z,hz⟩:=Option.isSome_iff_exists.1 h2
   have:=hQ b z hz
   exact decide_eq_true (by omega)
 unfold lstE
 rw [if_pos,e1,if_pos hb,e2,if_neg (by omega),if_neg (by omega)]
 refine List.all_eq_true.2 (fun x hx=>?_)
 rw [wv_vOf] at hx
 obtain ⟨y,_,rfl⟩:=List.mem_map.1 hx
 exact decide_eq_true rfl

theorem Su.cmt {G:Geo} (hG:G.Ok) {L:Lg} {D:Dev} (h:Su G L D) {Q:Nat→Option (List Int)} (hQ:∀ b z,Q b=some z→G.ib ≤ b) (h0:(pendL G Q).length ≠ 0) (hu:L.h.used + G.uses (pendL G Q).length ≤ G.lg) (hs:L.h.seq + G.parts (pendL G Q).length ≤ 4294967295) :
  cmtE G L (vOf G (pendW G Q)) D=0∧Su G (cmtL G L (vOf G (pendW G Q)) D) (cmtD G L (vOf G (pendW G Q)) D)∧cmtL G L (vOf G (pendW G Q)) D=⟨G.after L.h (pendL G Q).length,setW L.Q (pendW G Q),false⟩∧(∀ j,G.ib ≤ j→j < G.n→(cmtD G L (vOf G (pendW G Q)) D).rd j=D.rd j):=by
 obtain ⟨Ps,hI⟩:=h.inv
 have hl:=vOf_ok hQ (by omega) hs
 have hg:=good_of hI.ok.seq hl
 rw [wl_vOf] at hg
 have hlen:(vOf G (pendW G Q)).length=(pendL G Q).length:=by unfold vOf; rw [List.length_map,pendW_len]
 have hnd:¬ (L.dead=true):=by rw [h.ld]; decide
 have hr:¬ (G.lg - L.h.used < G.uses (pendW G Q).length):=by rw [pendW_len]; omega
 obtain ⟨c1,c2,c3,c4⟩:=h.com0 hG hg (by rw [pendW_len]; exact hu)
 rw [pendW_len] at c3
 unfold cmtE cmtL cmtD
 rw [if_pos hl,if_pos hl,if_pos hl,if_neg hnd,if_neg hnd,if_neg hnd,if_neg (by rw [hlen]; exact h0),if_neg (by rw [hlen]; exact h0),if_neg (by rw [hlen]; exact h0),wl_vOf]
 unfold cmE cmL cmD
 rw [if_neg hr,if_neg hr,if_neg hr,c1]
 unfold Lg.met
 rw [if_neg (by decide)]
 exact ⟨rfl,c2,c3,c4⟩

theorem wb_far (C:Cac) {D:Dev} (h:D.ali) (b:Nat) {j:Nat} (hj:j ≠ b):(C.wbD D b).rd j=D.rd j:=by
 rw [wb_rd C h b j,if_neg hj]

theorem rm_far (C:Cac) {D:Dev} (h:D.ali) {m:Nat} (hp:∀ b l,C.L b=some l→m ≤ b) {j:Nat} (hj:j < m):(C.rmD D).rd j=D.rd j:=by
 unfold Cac.rmD
 by_cases hl:(C.those D.n fHeld).length < C.cap
 ·rw [if_pos hl]
 ·rw [if_neg hl]
  by_cases h0:C.those D.n fLoose=[]
  ·rw [if_pos h0]
  ·rw [if_neg h0]
   obtain ⟨v1,l,v2,v3⟩:=vic_facts h0
   have:=hp _ _ v2
   exact wb_far C.next h _ (by omega)

theorem out_far:∀ (s:List Nat) (C:Cac) (D:Dev),D.ali→∀ {j:Nat},(∀ b ∈ s,j ≠ b)→(outD s C D).rd j=D.rd j
 | [],C,D,h,j,hs=>rfl
 | b :: s,C,D,h,j,hs=>by
  obtain ⟨b1,b2,_,_⟩:=wb_L C h b
  unfold outD
  rw [if_pos b1,out_far s _ _ b2 (fun c hc=>hs c (by simp [hc])),wb_far C h b (hs b (by simp))]

theorem setW_or':∀ (W:Wl) (Q:Nat→Option (List Int)) (j:Nat),setW Q W j=(setW (fun _=>none) W j).or (Q j)
 | [],Q,j=>by simp [setW]
 | x :: r,Q,j=>by
  show setW (fun j=>if j=x.1 then some x.2 else Q j) r j=(setW (fun j=>if j=x.1 then some x.2 else none) r j).or (Q j)
  rw [setW_or' r (fun j=>if j=x.1 then some x.2 else Q j) j,setW_or' r (fun j=>if j=x.1 then some x.2 else none) j]
  cases setW (fun _=>none) r j with
  | some z=>simp
  | none=>by_cases e:j=x.1 <;> simp [e]

def lnC (o:Option (List Int)) (l:Ln):Ln:=match o with | some z=>⟨z,false,l.p⟩ | none=>l

theorem clnC_L:∀ (W:Wl) (C:Cac) (j:Nat),(clnC W C).L j=(C.L j).map (lnC (setW (fun _=>none) W j))
 | [],C,j=>by
  show C.L j=_
  cases C.L j <;> rfl
 | x :: r,C,j=>by
  show (clnC r (C.cl x.1 x.2)).L j=_
  rw [clnC_L r _ j]
  have e:(setW (fun _=>none) (x :: r) j)=(setW (fun _=>none) r j).or (if j=x.1 then some x.2 else none):=setW_or' r _ j
  rw [e]
  have hL:(C.cl x.1 x.2).L j=if j=x.1 then (C.L j).map (fun l=>⟨x.2,false,l.p⟩) else C.L j:=by
   unfold Cac.cl
   cases hl:C.L x.1 with
   | none =>
    by_cases e:j=x.1
    ·subst e; simp [hl]
    ·simp [e]
   | some l =>
    unfold Cac.set
    by_cases e:j=x.1
    ·subst e; simp [hl]
    ·simp [e]
  rw [hL]
  by_cases e2:j=x.1
  ·rw [if_pos e2,if_pos e2]
   cases C.L j with
   | none=>rfl
   | some l =>
    cases setW (fun _=>none) r j with
    | none=>rfl
    | some z=>rfl
  ·rw [if_neg e2,if_neg e2]
   cases setW (fun _=>none) r j <;> rfl

theorem clnC_cap:∀ (W:Wl) (C:Cac),(clnC W C).cap=C.cap
 | [],C=>rfl
 | x :: r,C=>by
  show (clnC r (C.cl x.1 x.2)).cap=_
  rw [clnC_cap r]
  unfold Cac.cl
  cases C.L x.1 <;> rfl

end Go.Proofs.YtdfanhjnkjdngabGreatDoor

/- What a group holds while its device lives. -/
namespace Go.Proofs.YtdfanhjnkjdngabGreatDoor
set_option maxRecDepth 100000
set_option maxHeartbeats 8000000
open Go.RowKit Go.Shelf
set_option linter.unusedVariables false

def gval (X:Grp) (C:Cac) (L:Lg) (D:Dev) (b:Nat):List Int:=match X.Q b with | some z=>z | none=>match L.Q b with | some z=>z | none=>C.val D b

structure Gs (G:Geo) (E:Nat→Bool) (X:Grp) (C:Cac) (L:Lg) (D:Dev):Prop where
 su:Su G L D
 cl:C.cln D
 hm:cnt (C.wants fHeld) D.n ≤ C.cap
 c1:1 ≤ C.cap
 pn:∀ b l,C.L b=some l→l.p=0∧G.ib ≤ b
 xq:∀ b z,X.Q b=some z→G.ib ≤ b∧E b=true
 lq:∀ b z,L.Q b=some z→E b=true
 ne:G.uses (pendL G X.Q).length ≤ G.lg

theorem Gs.ali {G:Geo} {E:Nat→Bool} {X:Grp} {C:Cac} {L:Lg} {D:Dev} (h:Gs G E X C L D):D.ali:=h.su.live

theorem Gs.room {G:Geo} {E:Nat→Bool} {X:Grp} {C:Cac} {L:Lg} {D:Dev} (h:Gs G E X C L D) (b:Nat):C.L b ≠ none ∨ cnt (C.wants fHeld) D.n < C.cap ∨ C.those D.n fLoose ≠ []:=by
 by_cases hl:cnt (C.wants fHeld) D.n < C.cap
 ·exact .inr (.inl hl)
 ·refine .inr (.inr (fun e=>?_))
  have h1:=h.hm
  have h2:=h.c1
  have h3:=(those_nil_iff C D.n fLoose).1 e
  have h4:cnt (C.wants fHeld) D.n ≤ cnt (C.wants fLoose) D.n:=cnt_mono (fun j hj hw=>by
   unfold Cac.wants at hw ⊢
   cases hl:C.L j with
   | none=>rw [hl] at hw; cases hw
   | some l =>
    have:=(h.pn j l hl).1
    simp [fLoose,this])
  omega

theorem Gs.read {G:Geo} (hG:G.Ok) {E:Nat→Bool} {X:Grp} {C:Cac} {L:Lg} {D:Dev} (h:Gs G E X C L D) {b:Nat} (hb:G.ib ≤ b) (hb2:b < G.n) :
  grE X C L D b=0∧grZ X C L D b=gval X C L D b∧Gs G E X (grC X C L D b) L (grD X C L D b)∧∀ j,j < G.n→gval X (grC X C L D b) L (grD X C L D b) j=gval X C L D j:=by
 unfold grE grZ grC grD
 cases hx:X.Q b with
 | some z=>exact ⟨rfl,by simp [gval,hx],h,fun _ _=>rfl⟩
 | none =>
  cases hl:L.Q b with
  | some z=>exact ⟨rfl,by simp [gval,hx,hl],h,fun _ _=>rfl⟩
  | none =>
   simp only
   have hn:=h.su.n
   obtain ⟨g1,g2,g3,g4,g5,g6,g7,g8,g9,g10⟩:=gt_facts C h.ali h.cl (b:=b) (by omega) h.hm (h.room b)
   have hfar:∀ j,j < G.ib→(C.gtD D b).rd j=D.rd j:=fun j hj=>by
    unfold Cac.gtD
    cases C.L b with
    | some l=>rfl
    | none=>exact rm_far C h.ali (fun b l e=>(h.pn b l e).2) hj
   refine ⟨g1,by simp [gval,hx,hl]; exact g6,⟨h.su.turn hG g2 g3.1 hfar,g5,by rw [g3.1,g4]; exact g10,by rw [g4]; exact h.c1,fun j l e=>?_,h.xq,h.lq,h.ne⟩,fun j hj=>?_⟩
   ·rcases g8 j with x | x | ⟨x,l2,x2,x3,_⟩
    ·rw [x] at e; exact h.pn j l e
    ·rw [x.1] at e; cases e
    ·rw [x,x2] at e
     cases e
     exact ⟨x3,by omega⟩
   ·unfold gval
    rw [g7 j (by omega)]

theorem Gs.co {G:Geo} (hG:G.Ok) {E:Nat→Bool} {X:Grp} {C:Cac} {L:Lg} {D:Dev} (h:Gs G E X C L D) :
  coE C D=0∧Gs G E X (coC C D) L (coD C D)∧∀ j,j < G.n→gval X (coC C D) L (coD C D) j=gval X C L D j:=by
 have hn:=h.su.n
 obtain ⟨o1,o2,o3,o4,o5,o6,o7⟩:=out_facts (C.those D.n fDirty) C D h.ali h.cl (fun b hb=>(Cac.mem_those.1 hb).1)
 have hfar:∀ j,j < G.ib→(coD C D).rd j=D.rd j:=fun j hj=>out_far _ C D h.ali (fun b hb=>by
  have h2:=(Cac.mem_those.1 hb).2
  unfold Cac.wants at h2
  cases hl:C.L b with
  | none=>rw [hl] at h2; cases h2
  | some l=>have:=(h.pn b l hl).2; omega)
 refine ⟨o1,⟨h.su.turn hG o2 o3.1 hfar,o5,?_,?_,fun j l e=>?_,h.xq,h.lq,h.ne⟩,fun j hj=>?_⟩
 ·have e1:(coD C D).n=D.n:=o3.1
  have e2:(coC C D).cap=C.cap:=o4
  rw [e1,e2]
  refine Nat.le_trans (Nat.le_of_eq (cnt_congr (fun j _=>?_))) h.hm
  unfold Cac.wants
  rw [show (coC C D).L j=_ from o7 j]
  cases C.L j <;> rfl
 ·have e2:(coC C D).cap=C.cap:=o4
  rw [e2]
  exact h.c1
 ·rw [show (coC C D).L j=_ from o7 j] at e
  cases hl:C.L j with
  | none=>rw [hl] at e; cases e
  | some l0 =>
   rw [hl] at e
   simp at e
   subst e
   have:=h.pn j l0 hl
   split <;> exact this
 ·unfold gval
  have:=o6 j (by omega)
  rw [show (coC C D).val (coD C D) j=_ from this]

theorem Gs.fl {G:Geo} (hG:G.Ok) {E:Nat→Bool} {X:Grp} {C:Cac} {L:Lg} {D:Dev} (h:Gs G E X C L D):D.wE=0∧Gs G E X C L D.fD∧∀ j,gval X C L D.fD j=gval X C L D j:=by
 have hw:=h.su.live.wE
 have hr:D.fD.rd=D.rd:=ap_rd hw .f
 have hn:D.fD.n=D.n:=(runD_n [.f] D).1 ▸ by show D.fD.n=_; show _=(if D.wE=0 then D.fD else D.fD).n; split <;> rfl
 have hl:D.fD.Live:=h.su.live.ap .f
 refine ⟨hw,⟨h.su.turn hG hl hn (fun j _=>by rw [hr]),fun b l hb=>by rw [hr]; exact h.cl b l (by omega),by rw [hn]; exact h.hm,h.c1,h.pn,h.xq,h.lq,h.ne⟩,fun j=>?_⟩
 unfold gval Cac.val
 rw [hr]

theorem Gs.aply {G:Geo} (hG:G.Ok) {E:Nat→Bool} {X:Grp} {C:Cac} {L:Lg} {D:Dev} (h:Gs G E X C L D) :
  aplyE G L D=0∧Gs G E X (gapC G C L D) (aplyL G L D) (aplyD G L D)∧(aplyL G L D).h.used=0∧(aplyL G L D).h.seq=L.h.seq∧(aplyL G L D).Q=(fun _=>none)∧∀ j,G.ib ≤ j→j < G.n→gval X (gapC G C L D) (aplyL G L D) (aplyD G L D) j=gval X C L D j:=by
 obtain ⟨a1,a2,a3⟩:=h.su.aply hG
 obtain ⟨b1,b2,b3,b4,b5,b6⟩:=h.su.apl hG
 have hn:=h.su.n
 have e1:gapC G C L D=clnC (pendW G L.Q) C:=if_pos a1
 have hL:∀ j,j < G.n→(clnC (pendW G L.Q) C).L j=(C.L j).map (lnC (L.Q j)):=fun j hj=>by rw [clnC_L,setW_pend G L.Q hj]
 rw [a2,a3,e1]
 refine ⟨a1,⟨b2,fun j l hj e hd=>?_,?_,by rw [clnC_cap]; exact h.c1,fun j l e=>?_,h.xq,fun b z e=>(by rw [b5] at e; cases e),h.ne⟩,b3,b4,b5,fun j hj hj2=>?_⟩
 ·rw [b2.n] at hj
  rw [hL j hj] at e
  cases hl:C.L j with
  | none=>rw [hl] at e; cases e
  | some l0 =>
   rw [hl] at e
   simp at e
   rw [b6 j (h.pn j l0 hl).2 hj]
   subst e
   cases hq:L.Q j with
   | none =>
    rw [hq] at hd
    exact h.cl j l0 (by omega) hl hd
   | some z=>rfl
 ·rw [b2.n,← hn,clnC_cap]
  refine Nat.le_trans (Nat.le_of_eq (cnt_congr (fun j hj=>?_))) h.hm
  unfold Cac.wants
  rw [hL j (by omega)]
  cases C.L j <;> rfl
 ·rw [clnC_L] at e
  cases hl:C.L j with
  | none=>rw [hl] at e; cases e
  | some l0 =>
   rw [hl] at e
   simp at e
   subst e
   have:=h.pn j l0 hl
   unfold lnC
   split <;> exact this
 ·unfold gval
  rw [b5]
  cases X.Q j with
  | some z=>rfl
  | none =>
   simp only
   unfold Cac.val
   rw [hL j hj2,b6 j hj hj2]
   cases hq:L.Q j with
   | none=>cases C.L j <;> rfl
   | some z=>cases C.L j <;> rfl

theorem Gs.cmt {G:Geo} (hG:G.Ok) {E:Nat→Bool} {X:Grp} {C:Cac} {L:Lg} {D:Dev} (h:Gs G E X C L D) (h0:(pendL G X.Q).length ≠ 0) (hu:L.h.used + G.uses (pendL G X.Q).length ≤ G.lg) (hs:L.h.seq + G.parts (pendL G X.Q).length ≤ 4294967295) :
  cmtE G L (vOf G (pendW G X.Q)) D=0∧Gs G E X.clr C (cmtL G L (vOf G (pendW G X.Q)) D) (cmtD G L (vOf G (pendW G X.Q)) D)∧(cmtL G L (vOf G (pendW G X.Q)) D).h.seq=L.h.seq + G.parts (pendL G X.Q).length∧∀ j,G.ib ≤ j→j < G.n→gval X.clr C (cmtL G L (vOf G (pendW G X.Q)) D) (cmtD G L (vOf G (pendW G X.Q)) D) j=gval X C L D j:=by
 obtain ⟨c1,c2,c3,c4⟩:=h.su.cmt hG (fun b z e=>(h.xq b z e).1) h0 hu hs
 have hn:=h.su.n
 have e0:pendL G (fun _=>none)=[]:=by unfold pendL; simp
 have eQ:∀ j,j < G.n→(cmtL G L (vOf G (pendW G X.Q)) D).Q j=(X.Q j).or (L.Q j):=fun j hj=>by
  rw [c3]
  show setW L.Q (pendW G X.Q) j=_
  rw [setW_or',setW_pend G X.Q hj]
 refine ⟨c1,⟨c2,fun j l hj e hd=>?_,?_,h.c1,h.pn,fun b z e=>(by cases e),fun b z e=>?_,?_⟩,by rw [c3]; rfl,fun j hj hj2=>?_⟩
 ·rw [c2.n] at hj
  rw [c4 j (h.pn j l e).2 hj]
  exact h.cl j l (by omega) e hd
 ·rw [c2.n,← hn]; exact h.hm
 ·have hb:=(c2.q b z e).2
  rw [eQ b hb] at e
  cases hx:X.Q b with
  | some y=>exact (h.xq b y hx).2
  | none =>
   rw [hx] at e
   exact h.lq b z e
 ·show G.uses (pendL G (fun _=>none)).length ≤ G.lg
  rw [e0]
  have:=h.ne
  simp [Geo.uses,Geo.parts_zero hG]
 ·unfold gval
  show (match (cmtL G L (vOf G (pendW G X.Q)) D).Q j with | some z=>z | none=>C.val (cmtD G L (vOf G (pendW G X.Q)) D) j)=_
  rw [eQ j hj2]
  cases hx:X.Q j with
  | some z=>rfl
  | none =>
   cases hl:L.Q j with
   | some z=>rfl
   | none =>
    show C.val _ j=C.val _ j
    unfold Cac.val
    rw [c4 j hj hj2]

theorem Gs.clr {G:Geo} (hG:G.Ok) {E:Nat→Bool} {X:Grp} {C:Cac} {L:Lg} {D:Dev} (h:Gs G E X C L D) (h0:(pendL G X.Q).length=0):Gs G E X.clr C L D∧∀ j,j < G.n→gval X.clr C L D j=gval X C L D j:=by
 have e0:pendL G (fun _=>none)=[]:=by unfold pendL; simp
 refine ⟨⟨h.su,h.cl,h.hm,h.c1,h.pn,fun b z e=>(by cases e),h.lq,?_⟩,fun j hj=>?_⟩
 ·show G.uses (pendL G (fun _=>none)).length ≤ G.lg
  rw [e0]
  simp [Geo.uses,Geo.parts_zero hG]
 ·have:X.Q j=none:=by
   cases hx:X.Q j with
   | none=>rfl
   | some z =>
    have:j ∈ pendL G X.Q:=pendL_mem.2 ⟨hj,by rw [hx]; rfl⟩
    rw [List.length_eq_zero_iff.1 h0] at this
    simp at this
  unfold gval
  rw [this]
  rfl

theorem Gs.cmm {G:Geo} (hG:G.Ok) {E:Nat→Bool} {X:Grp} {C:Cac} {L:Lg} {D:Dev} (h:Gs G E X C L D) (hs:L.h.seq + G.parts (pendL G X.Q).length ≤ 4294967295) :
  (Go.Proofs.YtdfanhjnkjdngabGreatDoor.cmm G X C L D).1=0∧Gs G E X.clr (Go.Proofs.YtdfanhjnkjdngabGreatDoor.cmm G X C L D).2.1 (Go.Proofs.YtdfanhjnkjdngabGreatDoor.cmm G X C L D).2.2.1 (Go.Proofs.YtdfanhjnkjdngabGreatDoor.cmm G X C L D).2.2.2∧(Go.Proofs.YtdfanhjnkjdngabGreatDoor.cmm G X C L D).2.2.1.h.seq ≤ L.h.seq + G.lg∧∀ j,G.ib ≤ j→j < G.n→gval X.clr (Go.Proofs.YtdfanhjnkjdngabGreatDoor.cmm G X C L D).2.1 (Go.Proofs.YtdfanhjnkjdngabGreatDoor.cmm G X C L D).2.2.1 (Go.Proofs.YtdfanhjnkjdngabGreatDoor.cmm G X C L D).2.2.2 j=gval X C L D j:=by
 obtain ⟨o1,o2,o3⟩:=h.co hG
 have hpl:G.parts (pendL G X.Q).length ≤ G.lg:=by have:=h.ne; unfold Geo.uses at this; omega
 unfold Go.Proofs.YtdfanhjnkjdngabGreatDoor.cmm
 rw [if_neg (by simpa using o1)]
 by_cases h0:(pendL G X.Q).length=0
 ·rw [if_pos h0]
  obtain ⟨f1,f2,f3⟩:=o2.fl hG
  obtain ⟨g1,g2⟩:=f2.clr hG h0
  exact ⟨f1,g1,by show L.h.seq ≤ _; omega,fun j hj hj2=>(g2 j hj2).trans ((f3 j).trans (o3 j hj2))⟩
 ·rw [if_neg h0]
  by_cases hr:G.lg - L.h.used < G.uses (pendL G X.Q).length
  ·rw [if_pos hr]
   obtain ⟨a1,a2,a3,a4,a5,a6⟩:=o2.aply hG
   rw [if_neg (by simpa using a1)]
   obtain ⟨c1,c2,c3,c4⟩:=a2.cmt hG h0 (by rw [a3]; have:=h.ne; omega) (by rw [a4]; exact hs)
   refine ⟨c1,c2,?_,fun j hj hj2=>(c4 j hj hj2).trans ((a6 j hj hj2).trans (o3 j hj2))⟩
   show (cmtL G (aplyL G L (coD C D)) (vOf G (pendW G X.Q)) (aplyD G L (coD C D))).h.seq ≤ _
   rw [c3,a4]
   omega
  ·rw [if_neg hr]
   obtain ⟨Ps,hI⟩:=h.su.inv
   have hus:=hI.ok.used
   obtain ⟨c1,c2,c3,c4⟩:=o2.cmt hG h0 (by omega) hs
   refine ⟨c1,c2,?_,fun j hj hj2=>(c4 j hj hj2).trans (o3 j hj2)⟩
   show (cmtL G L (vOf G (pendW G X.Q)) (coD C D)).h.seq ≤ _
   rw [c3]
   omega

theorem Gs.stt {G:Geo} (hG:G.Ok) {E:Nat→Bool} {X:Grp} {C:Cac} {L:Lg} {D:Dev} (h:Gs G E X C L D) (hs:L.h.seq + G.parts (pendL G X.Q).length ≤ 4294967295) :
  (Go.Proofs.YtdfanhjnkjdngabGreatDoor.stt G X C L D).1=0∧(Go.Proofs.YtdfanhjnkjdngabGreatDoor.stt G X C L D).2.1=X.clr∧Gs G E X.clr (Go.Proofs.YtdfanhjnkjdngabGreatDoor.stt G X C L D).2.2.1 (Go.Proofs.YtdfanhjnkjdngabGreatDoor.stt G X C L D).2.2.2.1 (Go.Proofs.YtdfanhjnkjdngabGreatDoor.stt G X C L D).2.2.2.2∧(Go.Proofs.YtdfanhjnkjdngabGreatDoor.stt G X C L D).2.2.2.1.h.seq ≤ L.h.seq + G.lg∧∀ j,G.ib ≤ j→j < G.n→gval X.clr (Go.Proofs.YtdfanhjnkjdngabGreatDoor.stt G X C L D).2.2.1 (Go.Proofs.YtdfanhjnkjdngabGreatDoor.stt G X C L D).2.2.2.1 (Go.Proofs.YtdfanhjnkjdngabGreatDoor.stt G X C L D).2.2.2.2 j=gval X C L D j:=by
 obtain ⟨c1,c2,c3,c4⟩:=h.cmm hG hs
 obtain ⟨a1,a2,a3,a4,a5,a6⟩:=c2.aply hG
 unfold Go.Proofs.YtdfanhjnkjdngabGreatDoor.stt
 rw [if_pos c1]
 exact ⟨a1,rfl,a2,by show (aplyL G _ _).h.seq ≤ _; rw [a4]; exact c3,fun j hj hj2=>(a6 j hj hj2).trans (c4 j hj hj2)⟩

end Go.Proofs.YtdfanhjnkjdngabGreatDoor

/- End, on a device that lives. -/
namespace Go.Proofs.YtdfanhjnkjdngabGreatDoor
set_option maxRecDepth 100000
set_option maxHeartbeats 8000000
open Go.RowKit Go.Shelf
set_option linter.unusedVariables false

theorem ownQ_at (N:Nat→Option Nt):∀ (s:List Nat) (Q:Nat→Option (List Int)) (j:Nat),ownQ N s Q j=if j ∈ s then some (ntZ N j) else Q j
 | [],Q,j=>by simp [ownQ]
 | b :: s,Q,j=>by
  unfold ownQ
  rw [ownQ_at N s _ j]
  by_cases e1:j ∈ s
  ·simp [e1]
  ·by_cases e2:j=b
   ·subst e2; simp [e1]
   ·simp [e1,e2]

theorem lstX_mem {p:Nat→Bool} {n j:Nat}:j ∈ lstX p n ↔ j < n∧p j=true:=by simp [lstX]

theorem own_len (G:Geo) (N:Nat→Option Nt) (Q:Nat→Option (List Int)):(pendL G (ownQ N (lstX (isK N 1) G.n) Q)).length=(pendL G Q).length + (lstX (isM N Q) G.n).length:=by
 have hp:=cnt_part (fun b=>(ownQ N (lstX (isK N 1) G.n) Q b).isSome) (fun b=>(Q b).isSome) G.n
 have e1:cnt (fun j=>(ownQ N (lstX (isK N 1) G.n) Q j).isSome && (Q j).isSome) G.n=(pendL G Q).length:=by
  refine cnt_congr (fun j hj=>?_)
  rw [ownQ_at]
  cases hq:Q j with
  | none=>simp
  | some z=>by_cases e:j ∈ lstX (isK N 1) G.n <;> simp [e]
 have e2:cnt (fun j=>(ownQ N (lstX (isK N 1) G.n) Q j).isSome && !(Q j).isSome) G.n=(lstX (isM N Q) G.n).length:=by
  refine cnt_congr (fun j hj=>?_)
  rw [ownQ_at]
  unfold isM
  cases hq:Q j with
  | some z=>simp
  | none =>
   by_cases e:isK N 1 j=true
   ·have:j ∈ lstX (isK N 1) G.n:=lstX_mem.2 ⟨hj,e⟩
    simp [this,e]
   ·have:¬ j ∈ lstX (isK N 1) G.n:=fun h=>e (lstX_mem.1 h).2
    simp [this,e]
 have e3:(pendL G (ownQ N (lstX (isK N 1) G.n) Q)).length=cnt (fun b=>(ownQ N (lstX (isK N 1) G.n) Q b).isSome) G.n:=rfl
 omega

end Go.Proofs.YtdfanhjnkjdngabGreatDoor

/- End of an operation that writes blocks of E and frees others, in a group whose blocks of E fit into the log. -/
namespace Go.Proofs.YtdfanhjnkjdngabGreatDoor
set_option maxRecDepth 100000
set_option maxHeartbeats 8000000
open Go.RowKit Go.Shelf
set_option linter.unusedVariables false

structure Nf (G:Geo) (E:Nat→Bool) (N:Nat→Option Nt):Prop where
 k:∀ b t,N b=some t→G.ib ≤ b∧b < G.n∧(t.k=1∧E b=true ∨ t.k=3∧E b=false)

theorem Geo.uses_mono (G:Geo) {a b:Nat} (h:a ≤ b):G.uses a ≤ G.uses b:=by
 unfold Geo.uses Geo.parts
 have:(a + G.most - 1) / G.most ≤ (b + G.most - 1) / G.most:=Nat.div_le_div_right (by omega)
 omega

theorem freF_at:∀ (s:List Nat) (F:Nat→Bool) (j:Nat),freF s F j=(F j || decide (j ∈ s))
 | [],F,j=>by simp [freF]
 | b :: s,F,j=>by
  unfold freF
  rw [freF_at s _ j]
  by_cases e:j=b
  ·simp [e]
  ·simp [e]

theorem freQ_at:∀ (s:List Nat) (Q:Nat→Option (List Int)) (j:Nat),freQ s Q j=if j ∈ s then none else Q j
 | [],Q,j=>by simp [freQ]
 | b :: s,Q,j=>by
  unfold freQ
  rw [freQ_at s _ j]
  by_cases e1:j ∈ s
  ·simp [e1]
  ·by_cases e2:j=b
   ·simp [e2]
   ·simp [e1,e2]

theorem freC_at:∀ (s:List Nat) (C:Cac),(∀ b l,C.L b=some l→l.p=0)→(freC s C).cap=C.cap∧∀ j,(freC s C).L j=if j ∈ s then none else C.L j
 | [],C,h=>⟨rfl,fun j=>by simp [freC]⟩
 | b :: s,C,h=>by
  have e:∀ j,(C.dr b).L j=if j=b then none else C.L j:=fun j=>by
   unfold Cac.dr
   cases hl:C.L b with
   | none =>
    by_cases ej:j=b
    ·simp [ej,hl]
    ·simp [ej]
   | some l =>
    have:=h b l hl
    simp only
    rw [if_neg (by omega)]
    rfl
  have ec:(C.dr b).cap=C.cap:=by
   unfold Cac.dr
   cases hl:C.L b with
   | none=>rfl
   | some l=>simp only; split <;> rfl
  obtain ⟨i1,i2⟩:=freC_at s (C.dr b) (fun c l hl=>by
   rw [e c] at hl
   by_cases ec:c=b
   ·rw [if_pos ec] at hl; cases hl
   ·rw [if_neg ec] at hl; exact h c l hl)
  refine ⟨by unfold freC; rw [i1,ec],fun j=>?_⟩
  unfold freC
  rw [i2 j,e j]
  by_cases e1:j ∈ s
  ·simp [e1]
  ·by_cases e2:j=b
   ·simp [e2]
   ·simp [e1,e2]

theorem Gs.fre {G:Geo} {E:Nat→Bool} {X:Grp} {C:Cac} {L:Lg} {D:Dev} {N:Nat→Option Nt} (h:Gs G E X C L D) (hN:Nf G E N) (hE:G.uses (lstX E G.n).length ≤ G.lg) :
  ∃ X' C',endR G X N C L D=(0,X',C',L,D)∧X'.N=none∧X'.o=X.o∧Gs G E X' C' L D∧(∀ j,E j=true→j < G.n→gval X' C' L D j=(match N j with | some t=>t.z | none=>gval X C L D j))∧∀ j,j < G.n→X'.F j=(X.F j || isK N 3 j):=by
 have k2:lstX (isK N 2) G.n=[]:=by
  unfold lstX
  refine List.filter_eq_nil_iff.2 (fun b _ hb=>?_)
  obtain ⟨t,e,k⟩:=isK_some hb
  have:=(hN.k b t e).2.2
  omega
 have own:∀ j,isK N 1 j=true→E j=true:=fun j hj=>by
  obtain ⟨t,e,k⟩:=isK_some hj
  rcases (hN.k j t e).2.2 with x | x
  ·exact x.2
  ·omega
 have fr:∀ j,isK N 3 j=true→E j=false:=fun j hj=>by
  obtain ⟨t,e,k⟩:=isK_some hj
  rcases (hN.k j t e).2.2 with x | x
  ·omega
  ·exact x.2
 have c1:(lstX (isK N 1) G.n).length ≤ (lstX E G.n).length:=cnt_mono (fun j _ hj=>own j hj)
 have c2:(pendL G (ownQ N (lstX (isK N 1) G.n) X.Q)).length ≤ (lstX E G.n).length:=by
  refine cnt_mono (p:=fun b=>(ownQ N (lstX (isK N 1) G.n) X.Q b).isSome) (fun j _ hj=>?_)
  rw [ownQ_at] at hj
  by_cases hm:j ∈ lstX (isK N 1) G.n
  ·exact own j (lstX_mem.1 hm).2
  ·rw [if_neg hm] at hj
   obtain ⟨z,hz⟩:=Option.isSome_iff_exists.1 hj
   exact (h.xq j z hz).2
 have c3:=c2
 rw [own_len] at c3
 have u1:=G.uses_mono c1
 have u2:=G.uses_mono c2
 have u3:=G.uses_mono c3
 have en:Go.Proofs.YtdfanhjnkjdngabGreatDoor.enR G X N C L D=(0,X,C,L,D):=by
  unfold Go.Proofs.YtdfanhjnkjdngabGreatDoor.enR
  rw [if_neg (by omega)]
 unfold endR
 rw [if_neg (by omega),en,if_neg (by simp)]
 unfold enT
 simp only
 rw [k2]
 obtain ⟨f1,f2⟩:=freC_at (lstX (isK N 3) G.n) C (fun b l e=>(h.pn b l e).1)
 rw [if_neg (by simp [ptsE])]
 refine ⟨_,_,rfl,rfl,rfl,⟨h.su,fun b l hb e d=>?_,?_,?_,fun b l e=>?_,fun b z e=>?_,h.lq,?_⟩,fun j hj hj2=>?_,fun j hj=>?_⟩
 ·have e:(freC (lstX (isK N 3) G.n) C).L b=some l:=e
  rw [f2 b] at e
  by_cases hm:b ∈ lstX (isK N 3) G.n
  ·rw [if_pos hm] at e; cases e
  ·rw [if_neg hm] at e; exact h.cl b l hb e d
 ·show cnt ((freC (lstX (isK N 3) G.n) C).wants fHeld) D.n ≤ (freC (lstX (isK N 3) G.n) C).cap
  rw [f1]
  refine Nat.le_trans (cnt_mono (fun j _ hj=>?_)) h.hm
  unfold Cac.wants at hj ⊢
  rw [f2 j] at hj
  by_cases hm:j ∈ lstX (isK N 3) G.n
  ·rw [if_pos hm] at hj; cases hj
  ·rw [if_neg hm] at hj; exact hj
 ·show 1 ≤ (freC (lstX (isK N 3) G.n) C).cap
  rw [f1]
  exact h.c1
 ·have e:(freC (lstX (isK N 3) G.n) C).L b=some l:=e
  rw [f2 b] at e
  by_cases hm:b ∈ lstX (isK N 3) G.n
  ·rw [if_pos hm] at e; cases e
  ·rw [if_neg hm] at e; exact h.pn b l e
 ·have e:freQ (lstX (isK N 3) G.n) (ownQ N (lstX (isK N 1) G.n) X.Q) b=some z:=e
  rw [freQ_at] at e
  by_cases hm:b ∈ lstX (isK N 3) G.n
  ·rw [if_pos hm] at e; cases e
  ·rw [if_neg hm,ownQ_at] at e
   by_cases h1:b ∈ lstX (isK N 1) G.n
   ·obtain ⟨t,et,kt⟩:=isK_some (lstX_mem.1 h1).2
    exact ⟨(hN.k b t et).1,own b (lstX_mem.1 h1).2⟩
   ·rw [if_neg h1] at e
    exact h.xq b z e
 ·show G.uses (pendL G (freQ (lstX (isK N 3) G.n) (ownQ N (lstX (isK N 1) G.n) X.Q))).length ≤ G.lg
  have c4:(pendL G (freQ (lstX (isK N 3) G.n) (ownQ N (lstX (isK N 1) G.n) X.Q))).length ≤ (pendL G (ownQ N (lstX (isK N 1) G.n) X.Q)).length:=by
   refine cnt_mono (p:=fun b=>(freQ (lstX (isK N 3) G.n) (ownQ N (lstX (isK N 1) G.n) X.Q) b).isSome) (q:=fun b=>(ownQ N (lstX (isK N 1) G.n) X.Q b).isSome) (fun j _ hj=>?_)
   rw [freQ_at] at hj
   by_cases hm:j ∈ lstX (isK N 3) G.n
   ·rw [if_pos hm] at hj; cases hj
   ·rw [if_neg hm] at hj; exact hj
  have:=G.uses_mono c4
  omega
 ·have n3:¬ j ∈ lstX (isK N 3) G.n:=fun hm=>by
   have:=fr j (lstX_mem.1 hm).2
   rw [hj] at this
   cases this
  show gval ⟨freQ (lstX (isK N 3) G.n) (ownQ N (lstX (isK N 1) G.n) X.Q),_,none,_⟩ (freC (lstX (isK N 3) G.n) C) L D j=_
  unfold gval
  simp only
  rw [freQ_at,if_neg n3,ownQ_at]
  have ev:(freC (lstX (isK N 3) G.n) C).val D j=C.val D j:=by
   unfold Cac.val
   rw [f2 j,if_neg n3]
  rw [ev]
  cases hN':N j with
  | none =>
   have m1:¬ j ∈ lstX (isK N 1) G.n:=fun hm=>by
    have:=(lstX_mem.1 hm).2
    unfold isK at this
    rw [hN'] at this
    cases this
   rw [if_neg m1]
  | some t =>
   have hz:ntZ N j=t.z:=by unfold ntZ; rw [hN']
   have m1:j ∈ lstX (isK N 1) G.n:=lstX_mem.2 ⟨hj2,by
    unfold isK
    rw [hN']
    rcases (hN.k j t hN').2.2 with x | x
    ·simp [x.1]
    ·rw [hj] at x; cases x.2⟩
   rw [if_pos m1,hz]
 ·show freF (lstX (isK N 3) G.n) X.F j=_
  rw [freF_at]
  congr 1
  by_cases hk:isK N 3 j=true
  ·rw [hk]; simp [lstX_mem,hj,hk]
  ·simp at hk
   rw [hk]
   simp [lstX_mem,hk]

end Go.Proofs.YtdfanhjnkjdngabGreatDoor

/- A law's group on a device that lives, with an operation or without one; rows of the law beside it. -/
namespace Go.Proofs.YtdfanhjnkjdngabGreatDoor
set_option maxRecDepth 100000
set_option maxHeartbeats 8000000
open Go.RowKit Go.Shelf Go.Maps
set_option linter.unusedVariables false

structure HL (B:Nat) (w:World) (P:Nat→Int) (G:Geo) (g cg lg dg:Nat) (X:Grp) (C:Cac) (L:Lg) (D:Dev) (rows:List (Nat × Obj)) (u:World) (S:Nat→Prop):Prop where
 gv:Gv u S g cg lg dg P G X C L D
 ge:∀ k,S k→B ≤ k
 bel:Below B w u
 sz:B ≤ w.heap.size
 ro:∀ x ∈ rows,u.heap[x.1]?=some x.2∧¬ S x.1

theorem HL.next {B:Nat} {w:World} {P:Nat→Int} {G:Geo} {g cg lg dg:Nat} {X X':Grp} {C C':Cac} {L L':Lg} {D D':Dev} {rows:List (Nat × Obj)} {u u':World} {S S':Nat→Prop} (h:HL B w P G g cg lg dg X C L D rows u S) (hg:Gv u' S' g cg lg dg P G X' C' L' D') (hx:Nx S u S' u'):HL B w P G g cg lg dg X' C' L' D' rows u' S' :=
 ⟨hg,hx.base h.ge (Nat.le_trans h.sz h.bel.size),h.bel.trans (hx.below h.ge (Nat.le_trans h.sz h.bel.size)),h.sz,fun x hm=>by
  obtain ⟨h1,h2⟩:=h.ro x hm
  obtain ⟨k1,k2,_⟩:=hx.keep (Array.getElem?_eq_some_iff.1 h1).1 h2
  exact ⟨k1.trans h1,k2⟩⟩

structure Lst (w:World) (P:Nat→Int) (G:Geo) (E:Nat→Bool) (g:Nat) (rows:List (Nat × Obj)) (i:Nat) (V:Nat→List Int) (F:Nat→Bool) (cg lg dg:Nat) (X:Grp) (C:Cac) (L:Lg) (D:Dev) (u:World) (S:Nat→Prop):Prop where
 hl:HL w.heap.size w P G g cg lg dg X C L D rows u S
 gs:Gs G E X C L D
 sq:L.h.seq ≤ i
 vl:∀ j,E j=true→j < G.n→gval X C L D j=V j
 fl:∀ j,j < G.n→X.F j=F j
 vb:∀ j,E j=true→(V j).length=G.blk∧∀ z ∈ V j,0 ≤ z∧z ≤ 255
 eb:∀ j,E j=true→G.ib ≤ j∧j < G.n
 eu:G.uses (lstX E G.n).length ≤ G.lg

def Lo (w:World) (P:Nat→Int) (G:Geo) (E:Nat→Bool) (g:Nat) (rows:List (Nat × Obj)) (i:Nat) (V:Nat→List Int) (F:Nat→Bool) (u:World):Prop:=∃ cg lg dg X C L D S,Lst w P G E g rows i V F cg lg dg X C L D u S∧X.N=none

def Lv0 (w:World) (P:Nat→Int) (G:Geo) (E:Nat→Bool) (g o:Nat) (rows:List (Nat × Obj)) (i:Nat) (V:Nat→List Int) (F:Nat→Bool) (u:World):Prop:=∃ cg lg dg X C L D S,Lst w P G E g rows i V F cg lg dg X C L D u S∧X.N=none∧Over u S g o

structure Ns (G:Geo) (E:Nat→Bool) (N:Nat→Option Nt) (V:Nat→List Int) (F:Nat→Bool) (V':Nat→List Int) (K:Nat→Bool):Prop where
 k:∀ b t,N b=some t→G.ib ≤ b∧b < G.n∧(t.k=1∧E b=true∧t.z=V' b ∨ t.k=3∧E b=false)
 nn:∀ b,E b=true→N b=none→V' b=V b
 kk:∀ b,b < G.n→K b=(F b || isK N 3 b)
 vb:∀ j,E j=true→(V' j).length=G.blk∧∀ z ∈ V' j,0 ≤ z∧z ≤ 255

def Lp (w:World) (P:Nat→Int) (G:Geo) (E:Nat→Bool) (g o:Nat) (rows:List (Nat × Obj)) (i:Nat) (V:Nat→List Int) (F:Nat→Bool) (V':Nat→List Int) (K:Nat→Bool) (u:World):Prop:=∃ cg lg dg X C L D S N,Lst w P G E g rows i V F cg lg dg X C L D u S∧X.N=some N∧X.o=o∧Ns G E N V F V' K

theorem Lst.next {w:World} {P:Nat→Int} {G:Geo} {E:Nat→Bool} {g:Nat} {rows:List (Nat × Obj)} {i i':Nat} {V:Nat→List Int} {F F':Nat→Bool} {cg lg dg:Nat} {X X':Grp} {C C':Cac} {L L':Lg} {D D':Dev} {u u':World} {S S':Nat→Prop} (h:Lst w P G E g rows i V F cg lg dg X C L D u S) (hg:Gv u' S' g cg lg dg P G X' C' L' D') (hx:Nx S u S' u') (hs:Gs G E X' C' L' D') (hq:L'.h.seq ≤ i') (hv:∀ j,E j=true→j < G.n→gval X' C' L' D' j=gval X C L D j) (hf:∀ j,j < G.n→X'.F j=F' j):Lst w P G E g rows i' V F' cg lg dg X' C' L' D' u' S' :=
 ⟨h.hl.next hg hx,hs,hq,fun j h1 h2=>(hv j h1 h2).trans (h.vl j h1 h2),hf,h.vb,h.eb,h.eu⟩

theorem Lst.later {w:World} {P:Nat→Int} {G:Geo} {E:Nat→Bool} {g:Nat} {rows:List (Nat × Obj)} {i:Nat} {V:Nat→List Int} {F:Nat→Bool} {cg lg dg:Nat} {X:Grp} {C:Cac} {L:Lg} {D:Dev} {u u':World} {S:Nat→Prop} (h:Lst w P G E g rows i V F cg lg dg X C L D u S) (hb:Below u.heap.size u u'):Lst w P G E g rows i V F cg lg dg X C L D u' S :=
 h.next (h.hl.gv.below hb) ((Nx.refl S u).below' hb) h.gs h.sq (fun _ _ _=>rfl) h.fl

theorem Lst.sub {w:World} {P:Nat→Int} {G:Geo} {E:Nat→Bool} {g:Nat} {rows rows':List (Nat × Obj)} {i:Nat} {V:Nat→List Int} {F:Nat→Bool} {cg lg dg:Nat} {X:Grp} {C:Cac} {L:Lg} {D:Dev} {u:World} {S:Nat→Prop} (h:Lst w P G E g rows i V F cg lg dg X C L D u S) (hr:∀ x ∈ rows',x ∈ rows):Lst w P G E g rows' i V F cg lg dg X C L D u S :=
 ⟨⟨h.hl.gv,h.hl.ge,h.hl.bel,h.hl.sz,fun x hx=>h.hl.ro x (hr x hx)⟩,h.gs,h.sq,h.vl,h.fl,h.vb,h.eb,h.eu⟩

theorem Lst.add {w:World} {P:Nat→Int} {G:Geo} {E:Nat→Bool} {g:Nat} {rows:List (Nat × Obj)} {i:Nat} {V:Nat→List Int} {F:Nat→Bool} {cg lg dg:Nat} {X:Grp} {C:Cac} {L:Lg} {D:Dev} {u:World} {S:Nat→Prop} (h:Lst w P G E g rows i V F cg lg dg X C L D u S) {k:Nat} {o:Obj} (h1:u.heap[k]?=some o) (h2:¬ S k):Lst w P G E g ((k,o) :: rows) i V F cg lg dg X C L D u S :=
 ⟨⟨h.hl.gv,h.hl.ge,h.hl.bel,h.hl.sz,fun x hm=>by
  rcases List.mem_cons.1 hm with e | e
  ·subst e; exact ⟨h1,h2⟩
  ·exact h.hl.ro x e⟩,h.gs,h.sq,h.vl,h.fl,h.vb,h.eb,h.eu⟩

theorem Lst.push {w:World} {P:Nat→Int} {G:Geo} {E:Nat→Bool} {g:Nat} {rows:List (Nat × Obj)} {i:Nat} {V:Nat→List Int} {F:Nat→Bool} {cg lg dg:Nat} {X:Grp} {C:Cac} {L:Lg} {D:Dev} {u u':World} {S:Nat→Prop} (h:Lst w P G E g rows i V F cg lg dg X C L D u S) (hb:Below u.heap.size u u') {k:Nat} (hk:u.heap.size ≤ k) {o:Obj} (ho:u'.heap[k]?=some o):Lst w P G E g ((k,o) :: rows) i V F cg lg dg X C L D u' S :=
 (h.later hb).add ho (fun hs=>by have:=h.hl.gv.lt hs; omega)

theorem Lst.set {w:World} {P:Nat→Int} {G:Geo} {E:Nat→Bool} {g:Nat} {rows:List (Nat × Obj)} {i:Nat} {V:Nat→List Int} {F:Nat→Bool} {cg lg dg:Nat} {X:Grp} {C:Cac} {L:Lg} {D:Dev} {u:World} {S:Nat→Prop} {k:Nat} {ob ob':Obj} (h:Lst w P G E g ((k,ob) :: rows) i V F cg lg dg X C L D u S) (hk:w.heap.size ≤ k) (h0:0 < w.heap.size) (hn:∀ x ∈ rows,x.1 ≠ k) (j:Nat) (v:Value) (ho:(u.setCell ⟨k,j,none⟩ v).heap[k]?=some ob'):Lst w P G E g ((k,ob') :: rows) i V F cg lg dg X C L D (u.setCell ⟨k,j,none⟩ v) S:=by
 have kept:∀ q,q ≠ k→(u.setCell ⟨k,j,none⟩ v).heap[q]?=u.heap[q]?:=fun q hq=>Below.heap_setCell _ _ _ _ hq
 have hS:=(h.hl.ro (k,ob) (by simp)).2
 obtain ⟨Sg,Sc,Sl,Sd,m,mk,ml,az⟩:=h.hl.gv
 have bb:Below w.heap.size u (u.setCell ⟨k,j,none⟩ v):=(Below.refl _ _).setCell (p:=⟨k,j,none⟩) hk _
 refine ⟨⟨(az.keptAll (fun q hq=>kept q (fun e=>hS (by rw [← e]; exact hq))) (kept 0 (by omega)) bb.size).gv,h.hl.ge,h.hl.bel.trans bb,h.hl.sz,fun x hx=>?_⟩,h.gs,h.sq,h.vl,h.fl,h.vb,h.eb,h.eu⟩
 rcases List.mem_cons.1 hx with e | e
 ·subst e; exact ⟨ho,hS⟩
 ·have:=h.hl.ro x (List.mem_cons_of_mem _ e)
  exact ⟨(kept x.1 (hn x e)).trans this.1,this.2⟩

theorem Lp.later {w:World} {P:Nat→Int} {G:Geo} {E:Nat→Bool} {g o:Nat} {rows:List (Nat × Obj)} {i:Nat} {V:Nat→List Int} {F:Nat→Bool} {V':Nat→List Int} {K:Nat→Bool} {u u':World} (h:Lp w P G E g o rows i V F V' K u) (hb:Below u.heap.size u u'):Lp w P G E g o rows i V F V' K u':=by
 obtain ⟨cg,lg,dg,X,C,L,D,S,N,h,r⟩:=h
 exact ⟨cg,lg,dg,X,C,L,D,S,N,h.later hb,r⟩

theorem Lp.sub {w:World} {P:Nat→Int} {G:Geo} {E:Nat→Bool} {g o:Nat} {rows rows':List (Nat × Obj)} {i:Nat} {V:Nat→List Int} {F:Nat→Bool} {V':Nat→List Int} {K:Nat→Bool} {u:World} (h:Lp w P G E g o rows i V F V' K u) (hr:∀ x ∈ rows',x ∈ rows):Lp w P G E g o rows' i V F V' K u:=by
 obtain ⟨cg,lg,dg,X,C,L,D,S,N,h,r⟩:=h
 exact ⟨cg,lg,dg,X,C,L,D,S,N,h.sub hr,r⟩

theorem Lp.pop {w:World} {P:Nat→Int} {G:Geo} {E:Nat→Bool} {g o:Nat} {rows:List (Nat × Obj)} {i:Nat} {V:Nat→List Int} {F:Nat→Bool} {V':Nat→List Int} {K:Nat→Bool} {u:World} {x:Nat × Obj} (h:Lp w P G E g o (x :: rows) i V F V' K u):Lp w P G E g o rows i V F V' K u:=h.sub (fun y hy=>List.mem_cons_of_mem _ hy)

theorem Lp.push {w:World} {P:Nat→Int} {G:Geo} {E:Nat→Bool} {g o:Nat} {rows:List (Nat × Obj)} {i:Nat} {V:Nat→List Int} {F:Nat→Bool} {V':Nat→List Int} {K:Nat→Bool} {u u':World} {k:Nat} {ob:Obj} (h:Lp w P G E g o rows i V F V' K u) (hb:Below u.heap.size u u') (hk:u.heap.size ≤ k) (ho:u'.heap[k]?=some ob):Lp w P G E g o ((k,ob) :: rows) i V F V' K u':=by
 obtain ⟨cg,lg,dg,X,C,L,D,S,N,h,r⟩:=h
 exact ⟨cg,lg,dg,X,C,L,D,S,N,h.push hb hk ho,r⟩

theorem Lp.new {w:World} {P:Nat→Int} {G:Geo} {E:Nat→Bool} {g o:Nat} {rows:List (Nat × Obj)} {i:Nat} {V:Nat→List Int} {F:Nat→Bool} {V':Nat→List Int} {K:Nat→Bool} {u:World} (h:Lp w P G E g o rows i V F V' K u) (ob:Obj):Lp w P G E g o ((u.heap.size,ob) :: rows) i V F V' K (u.alloc ob) :=
 h.push ((Below.refl _ _).alloc (Nat.le_refl _) _) (Nat.le_refl _) (World.alloc_heap_new u ob)

theorem Lp.set {w:World} {P:Nat→Int} {G:Geo} {E:Nat→Bool} {g o:Nat} {rows:List (Nat × Obj)} {i:Nat} {V:Nat→List Int} {F:Nat→Bool} {V':Nat→List Int} {K:Nat→Bool} {u:World} {k:Nat} {ob ob':Obj} (h:Lp w P G E g o ((k,ob) :: rows) i V F V' K u) (hk:w.heap.size ≤ k) (h0:0 < w.heap.size) (hn:∀ x ∈ rows,x.1 ≠ k) (j:Nat) (v:Value) (ho:(u.setCell ⟨k,j,none⟩ v).heap[k]?=some ob'):Lp w P G E g o ((k,ob') :: rows) i V F V' K (u.setCell ⟨k,j,none⟩ v):=by
 obtain ⟨cg,lg,dg,X,C,L,D,S,N,h,r⟩:=h
 exact ⟨cg,lg,dg,X,C,L,D,S,N,h.set hk h0 hn j v ho,r⟩

theorem Lp.row {w:World} {P:Nat→Int} {G:Geo} {E:Nat→Bool} {g o:Nat} {rows:List (Nat × Obj)} {i:Nat} {V:Nat→List Int} {F:Nat→Bool} {V':Nat→List Int} {K:Nat→Bool} {u:World} (h:Lp w P G E g o rows i V F V' K u) {x:Nat × Obj} (hx:x ∈ rows):u.heap[x.1]?=some x.2:=by
 obtain ⟨cg,lg,dg,X,C,L,D,S,N,h,r⟩:=h
 exact (h.hl.ro x hx).1

theorem Lp.lt {w:World} {P:Nat→Int} {G:Geo} {E:Nat→Bool} {g o:Nat} {rows:List (Nat × Obj)} {i:Nat} {V:Nat→List Int} {F:Nat→Bool} {V':Nat→List Int} {K:Nat→Bool} {u:World} (h:Lp w P G E g o rows i V F V' K u) {x:Nat × Obj} (hx:x ∈ rows):x.1 < u.heap.size:=(Array.getElem?_eq_some_iff.1 (h.row hx)).1

theorem Lp.bel {w:World} {P:Nat→Int} {G:Geo} {E:Nat→Bool} {g o:Nat} {rows:List (Nat × Obj)} {i:Nat} {V:Nat→List Int} {F:Nat→Bool} {V':Nat→List Int} {K:Nat→Bool} {u:World} (h:Lp w P G E g o rows i V F V' K u):Below w.heap.size w u:=by
 obtain ⟨cg,lg,dg,X,C,L,D,S,N,h,r⟩:=h
 exact h.hl.bel

theorem Lp.ok {w:World} {P:Nat→Int} {G:Geo} {E:Nat→Bool} {g o:Nat} {rows:List (Nat × Obj)} {i:Nat} {V:Nat→List Int} {F:Nat→Bool} {V':Nat→List Int} {K:Nat→Bool} {u:World} (h:Lp w P G E g o rows i V F V' K u):PG P G:=by
 obtain ⟨cg,lg,dg,X,C,L,D,S,N,h,r⟩:=h
 obtain ⟨_,_,_,_,_,_,_,a⟩:=h.hl.gv
 exact a.gr.pg

theorem Lp.vb {w:World} {P:Nat→Int} {G:Geo} {E:Nat→Bool} {g o:Nat} {rows:List (Nat × Obj)} {i:Nat} {V:Nat→List Int} {F:Nat→Bool} {V':Nat→List Int} {K:Nat→Bool} {u:World} (h:Lp w P G E g o rows i V F V' K u) {j:Nat} (hj:E j=true):(V' j).length=G.blk∧∀ z ∈ V' j,0 ≤ z∧z ≤ 255:=by
 obtain ⟨cg,lg,dg,X,C,L,D,S,N,h,_,_,r⟩:=h
 exact r.vb j hj

theorem Lo.sub {w:World} {P:Nat→Int} {G:Geo} {E:Nat→Bool} {g:Nat} {rows rows':List (Nat × Obj)} {i:Nat} {V:Nat→List Int} {F:Nat→Bool} {u:World} (h:Lo w P G E g rows i V F u) (hr:∀ x ∈ rows',x ∈ rows):Lo w P G E g rows' i V F u:=by
 obtain ⟨cg,lg,dg,X,C,L,D,S,h,r⟩:=h
 exact ⟨cg,lg,dg,X,C,L,D,S,h.sub hr,r⟩

theorem Lo.push {w:World} {P:Nat→Int} {G:Geo} {E:Nat→Bool} {g:Nat} {rows:List (Nat × Obj)} {i:Nat} {V:Nat→List Int} {F:Nat→Bool} {u u':World} {k:Nat} {ob:Obj} (h:Lo w P G E g rows i V F u) (hb:Below u.heap.size u u') (hk:u.heap.size ≤ k) (ho:u'.heap[k]?=some ob):Lo w P G E g ((k,ob) :: rows) i V F u':=by
 obtain ⟨cg,lg,dg,X,C,L,D,S,h,r⟩:=h
 exact ⟨cg,lg,dg,X,C,L,D,S,h.push hb hk ho,r⟩

theorem Lo.row {w:World} {P:Nat→Int} {G:Geo} {E:Nat→Bool} {g:Nat} {rows:List (Nat × Obj)} {i:Nat} {V:Nat→List Int} {F:Nat→Bool} {u:World} (h:Lo w P G E g rows i V F u) {x:Nat × Obj} (hx:x ∈ rows):u.heap[x.1]?=some x.2:=by
 obtain ⟨cg,lg,dg,X,C,L,D,S,h,r⟩:=h
 exact (h.hl.ro x hx).1

theorem Lo.bel {w:World} {P:Nat→Int} {G:Geo} {E:Nat→Bool} {g:Nat} {rows:List (Nat × Obj)} {i:Nat} {V:Nat→List Int} {F:Nat→Bool} {u:World} (h:Lo w P G E g rows i V F u):Below w.heap.size w u:=by
 obtain ⟨cg,lg,dg,X,C,L,D,S,h,r⟩:=h
 exact h.hl.bel

theorem Lv0.lo {w:World} {P:Nat→Int} {G:Geo} {E:Nat→Bool} {g o:Nat} {rows:List (Nat × Obj)} {i:Nat} {V:Nat→List Int} {F:Nat→Bool} {u:World} (h:Lv0 w P G E g o rows i V F u):Lo w P G E g rows i V F u:=by
 obtain ⟨cg,lg,dg,X,C,L,D,S,h,r,_⟩:=h
 exact ⟨cg,lg,dg,X,C,L,D,S,h,r⟩

theorem Gs.same {G:Geo} {E:Nat→Bool} {X X':Grp} {C:Cac} {L:Lg} {D:Dev} (h:Gs G E X C L D) (e:X'.Q=X.Q):Gs G E X' C L D :=
 ⟨h.su,h.cl,h.hm,h.c1,h.pn,by rw [e]; exact h.xq,h.lq,by rw [e]; exact h.ne⟩

theorem gval_same {X X':Grp} {C:Cac} {L:Lg} {D:Dev} (e:X'.Q=X.Q) (j:Nat):gval X' C L D j=gval X C L D j:=by
 unfold gval
 rw [e]

theorem h_begin {w:World} {P:Nat→Int} {G:Geo} {E:Nat→Bool} {g:Nat} {rows:List (Nat × Obj)} {i:Nat} {V:Nat→List Int} {F:Nat→Bool} {u:World} (h:Lo w P G E g rows i V F u) :
  Calls Tryz.prog 9 #[.pointer (some ⟨g,0,none⟩)] u fun e u1=>∃ o,e=.returned (.tuple #[.pointer (some ⟨o,0,none⟩),.int .i64 0])∧Hid (Lp w P G E g o rows i V F V F u1):=by
 obtain ⟨cg,lg,dg,X,C,L,D,S,h,eN⟩:=h
 refine (begin_ok h.hl.gv eN).mono ?_
 rintro e u1 ⟨o,rfl,Y⟩
 obtain ⟨S',g1,x1,_⟩:=unhide Y
 refine ⟨o,rfl,cg,lg,dg,_,C,L,D,S',_,h.next g1 x1 (h.gs.same rfl) h.sq (fun j _ _=>gval_same rfl j) h.fl,rfl,rfl,⟨fun b t e=>(by cases e),fun b _ _=>rfl,fun b hb=>?_,h.vb⟩⟩
 simp [isK]

theorem h_abort {w:World} {P:Nat→Int} {G:Geo} {E:Nat→Bool} {g o:Nat} {rows:List (Nat × Obj)} {i:Nat} {V:Nat→List Int} {F:Nat→Bool} {V':Nat→List Int} {K:Nat→Bool} {u:World} (h:Lp w P G E g o rows i V F V' K u) :
  Calls Tryz.prog 14 #[.pointer (some ⟨o,0,none⟩)] u fun e u1=>e=.returned (.int .i64 0)∧Hid (Lv0 w P G E g o rows i V F u1):=by
 obtain ⟨cg,lg,dg,X,C,L,D,S,N,h,eN,eo,ns⟩:=h
 subst eo
 refine (oabort_any h.hl.gv eN).mono ?_
 rintro e u1 ⟨rfl,Y⟩
 obtain ⟨S',g1,x1,ov⟩:=unhide Y
 exact ⟨rfl,cg,lg,dg,_,C,L,D,S',h.next g1 x1 (h.gs.same rfl) h.sq (fun j _ _=>gval_same rfl j) h.fl,rfl,ov⟩

theorem h_end {w:World} {P:Nat→Int} {G:Geo} {E:Nat→Bool} {g o:Nat} {rows:List (Nat × Obj)} {i:Nat} {V:Nat→List Int} {F:Nat→Bool} {V':Nat→List Int} {K:Nat→Bool} {u:World} (h:Lp w P G E g o rows i V F V' K u) :
  Calls Tryz.prog 13 #[.pointer (some ⟨o,0,none⟩)] u fun e u1=>e=.returned (.int .i64 0)∧Hid (Lv0 w P G E g o rows i V' K u1):=by
 obtain ⟨cg,lg,dg,X,C,L,D,S,N,h,eN,eo,ns⟩:=h
 subst eo
 have nf:Nf G E N:=⟨fun b t e=>by
  obtain ⟨h1,h2,h3⟩:=ns.k b t e
  exact ⟨h1,h2,by rcases h3 with x | x; exact .inl ⟨x.1,x.2.1⟩; exact .inr x⟩⟩
 obtain ⟨X',C',e1,e2,e3,g2,v2,f2⟩:=h.gs.fre nf h.eu
 have:=oend_any h.hl.gv eN
 rw [e1] at this
 refine this.mono ?_
 rintro e u1 ⟨rfl,Y⟩
 obtain ⟨S',g1,x1,ov⟩:=unhide Y
 refine ⟨rfl,cg,lg,dg,X',C',L,D,S',⟨h.hl.next g1 x1,g2,h.sq,fun j hj hj2=>?_,fun j hj=>?_,ns.vb,h.eb,h.eu⟩,e2,ov⟩
 ·rw [v2 j hj hj2]
  cases hN:N j with
  | none =>
   simp only
   rw [h.vl j hj hj2,ns.nn j hj hN]
  | some t =>
   rcases (ns.k j t hN).2.2 with x | x
   ·exact x.2.2
   ·rw [hj] at x; cases x.2
 ·rw [f2 j hj,ns.kk j hj,h.fl j hj]

theorem Gs.sq {G:Geo} (hG:G.Ok) {E:Nat→Bool} {X:Grp} {C:Cac} {L:Lg} {D:Dev} (h:Gs G E X C L D) {i:Nat} (hq:L.h.seq ≤ i) (hi:i ≤ 4000000000):L.h.seq + G.parts (pendL G X.Q).length ≤ 4294967295:=by
 have:=h.ne
 have:=hG.l2
 unfold Geo.uses at *
 omega

theorem h_commit {w:World} {P:Nat→Int} {G:Geo} {E:Nat→Bool} {g:Nat} {rows:List (Nat × Obj)} {i:Nat} {V:Nat→List Int} {F:Nat→Bool} {u:World} (h:Lo w P G E g rows i V F u) (hi:i ≤ 4000000000) :
  Calls Tryz.prog 20 #[.pointer (some ⟨g,0,none⟩)] u fun e u1=>e=.returned (.int .i64 0)∧Hid (Lo w P G E g rows (i + G.lg) V (fun _=>false) u1):=by
 obtain ⟨cg,lg,dg,X,C,L,D,S,h,eN⟩:=h
 have hG:G.Ok:=by obtain ⟨_,_,_,_,_,_,_,a⟩:=h.hl.gv; exact a.gr.pg.ok
 obtain ⟨c1,c2,c3,c4⟩:=h.gs.cmm hG (h.gs.sq hG h.sq hi)
 have:=pcommit_any h.hl.gv eN
 rw [c1,if_pos rfl] at this
 refine this.mono ?_
 rintro e u1 ⟨rfl,Y⟩
 obtain ⟨S',g1,x1⟩:=unhide Y
 have:=h.sq
 exact ⟨rfl,cg,lg,dg,_,_,_,_,S',h.next g1 x1 c2 (by omega) (fun j h1 h2=>c4 j (h.eb j h1).1 h2) (fun j hj=>rfl),eN⟩

theorem h_settle {w:World} {P:Nat→Int} {G:Geo} {E:Nat→Bool} {g:Nat} {rows:List (Nat × Obj)} {i:Nat} {V:Nat→List Int} {F:Nat→Bool} {u:World} (h:Lo w P G E g rows i V F u) (hi:i ≤ 4000000000) :
  Calls Tryz.prog 19 #[.pointer (some ⟨g,0,none⟩)] u fun e u1=>e=.returned (.int .i64 0)∧Hid (Lo w P G E g rows (i + G.lg) V (fun _=>false) u1):=by
 obtain ⟨cg,lg,dg,X,C,L,D,S,h,eN⟩:=h
 have hG:G.Ok:=by obtain ⟨_,_,_,_,_,_,_,a⟩:=h.hl.gv; exact a.gr.pg.ok
 obtain ⟨c1,c0,c2,c3,c4⟩:=h.gs.stt hG (h.gs.sq hG h.sq hi)
 have:=settle_any' h.hl.gv eN
 rw [c1,c0] at this
 refine this.mono ?_
 rintro e u1 ⟨rfl,Y⟩
 obtain ⟨S',g1,x1⟩:=unhide Y
 have:=h.sq
 exact ⟨rfl,cg,lg,dg,_,_,_,_,S',h.next g1 x1 c2 (by omega) (fun j h1 h2=>c4 j (h.eb j h1).1 h2) (fun j hj=>rfl),eN⟩

def Dr (c n:Nat) (zs:List Int) (ob:Obj):Prop:=∃ cur:Array Value,ob=.cells cur 5 (0,0)∧cur.size=c∧zs.length=n∧n ≤ c∧c ≤ maxLen∧cur.toList.take n=zs.map (Value.int .u8)

theorem Dr.own {c n:Nat} {zs:List Int} {ob:Obj} (h:Dr c n zs ob) {u:World} {k:Nat} (hk:u.heap[k]?=some ob):Own k u (some ⟨k,0,none⟩) n c zs:=by
 obtain ⟨cur,rfl,h1,h2,h3,h4,h5⟩:=h
 exact ⟨h2,h3,h4,.inr ⟨k,cur,rfl,Nat.le_refl _,hk,h1,h5⟩⟩

theorem Dr.has {c n:Nat} {zs:List Int} {ob:Obj} (h:Dr c n zs ob) {u:World} {k:Nat} (hk:u.heap[k]?=some ob):Has u (some ⟨k,0,none⟩) n zs:=(h.own hk).has

theorem h_read {w:World} {P:Nat→Int} {G:Geo} {E:Nat→Bool} {g o:Nat} {rows:List (Nat × Obj)} {i:Nat} {V:Nat→List Int} {F:Nat→Bool} {V':Nat→List Int} {K:Nat→Bool} {u:World} (h:Lp w P G E g o rows i V F V' K u) {b:Nat} (hb:E b=true) :
  Calls Tryz.prog 74 #[.pointer (some ⟨o,0,none⟩),.int .i64 (b:Int)] u fun e u1=>∃ k c,e=.returned (.tuple #[.slice (some ⟨k,0,none⟩) G.blk c,.int .i64 0])∧Hid (∃ ob,Dr c G.blk (V' b) ob∧u.heap.size ≤ k∧Lp w P G E g o ((k,ob) :: rows) i V F V' K u1):=by
 obtain ⟨cg,lg,dg,X,C,L,D,S,N,h,eN,eo,ns⟩:=h
 subst eo
 have hG:G.Ok:=by obtain ⟨_,_,_,_,_,_,_,a⟩:=h.hl.gv; exact a.gr.pg.ok
 obtain ⟨b1,b2⟩:=h.eb b hb
 have hbk:=hG.blk
 have fin:∀ {a:Option Addr} {c:Nat} {z:List Int} {u1:World} {S':Nat→Prop} {C':Cac} {D':Dev},z=V' b→Own u.heap.size u1 a G.blk c z→Gv u1 S' g cg lg dg P G X C' L D'→Nx S u S' u1→(∀ k,a=some ⟨k,0,none⟩→¬ S' k)→Gs G E X C' L D'→(∀ j,j < G.n→gval X C' L D' j=gval X C L D j)→∃ k c1,(Ending.returned (.tuple #[.slice a G.blk c,.int .i64 0]))=.returned (.tuple #[.slice (some ⟨k,0,none⟩) G.blk c1,.int .i64 0])∧Hid (∃ ob,Dr c1 G.blk (V' b) ob∧u.heap.size ≤ k∧Lp w P G E g X.o ((k,ob) :: rows) i V F V' K u1):=by
  intro a c z u1 S' C' D' hz ow g1 x1 n1 s1 v1
  subst hz
  obtain ⟨h1,h2,h3,h4⟩:=ow
  rcases h4 with ⟨_,h4,_⟩ | ⟨k,cur,rfl,hk,hh,hc,ht⟩
  ·omega
  ·exact ⟨k,c,rfl,_,⟨cur,rfl,hc,h1,h2,h3,ht⟩,hk,cg,lg,dg,X,C',L,D',S',N,(h.next g1 x1 s1 h.sq (fun j _ hj=>v1 j hj) h.fl).add hh (n1 k rfl),eN,rfl,ns⟩
 cases hN:N b with
 | none =>
  obtain ⟨r1,r2,r3,r4⟩:=h.gs.read hG b1 b2
  refine (oread_plain h.hl.gv eN b2 (fun t e=>by rw [hN] at e; cases e) r1).mono ?_
  rintro e u1 ⟨a,c,rfl,Y⟩
  obtain ⟨S',ow,g1,x1,n1⟩:=unhide Y
  exact fin (by rw [r2,h.vl b hb b2,ns.nn b hb hN]) ow g1 x1 n1 r3 r4
 | some t =>
  rcases (ns.k b t hN).2.2 with ⟨k1,k2,k3⟩ | ⟨_,k2⟩
  ·refine (oread_note h.hl.gv eN b2 hN (.inl k1)).mono ?_
   rintro e u1 ⟨a,c,rfl,Y⟩
   obtain ⟨S',ow,g1,x1,n1⟩:=unhide Y
   exact fin k3 ow g1 x1 n1 h.gs (fun _ _=>rfl)
  ·rw [hb] at k2; cases k2

theorem h_write {w:World} {P:Nat→Int} {G:Geo} {E:Nat→Bool} {g o:Nat} {rows:List (Nat × Obj)} {i:Nat} {V:Nat→List Int} {F:Nat→Bool} {V':Nat→List Int} {K:Nat→Bool} {u:World} (h:Lp w P G E g o rows i V F V' K u) {b:Nat} (hb:E b=true) (a:Option Addr) (cap:Nat) (zs:List Int) (hr:Row u.heap.size u a G.blk cap zs) :
  Calls Tryz.prog 78 #[.pointer (some ⟨o,0,none⟩),.int .i64 (b:Int),.slice a G.blk cap] u fun e u1=>e=.returned (.int .i64 0)∧Hid (Lp w P G E g o rows i V F (fun j=>if j=b then zs else V' j) K u1):=by
 obtain ⟨cg,lg,dg,X,C,L,D,S,N,h,eN,eo,ns⟩:=h
 subst eo
 obtain ⟨b1,b2⟩:=h.eb b hb
 have e0:notE G (b:Int) ((G.ib:Nat):Int) G.blk=0:=by
  have:rngE G.n (b:Int) ((G.ib:Nat):Int)=0:=by
   unfold rngE
   rw [if_neg (by omega)]
  unfold notE
  rw [if_pos this,if_pos rfl]
 have:=owrite_any h.hl.gv eN (b:Int) a G.blk cap zs hr
 rw [e0,if_pos rfl] at this
 refine this.mono ?_
 rintro e u1 ⟨rfl,Y⟩
 obtain ⟨S',g1,x1⟩:=unhide Y
 rw [show (b:Int).toNat=b by simp] at g1
 refine ⟨rfl,cg,lg,dg,_,C,L,D,S',_,h.next g1 x1 (h.gs.same rfl) h.sq (fun j _ _=>gval_same rfl j) h.fl,rfl,rfl,⟨fun c t e=>?_,fun c hc e=>?_,fun c hc=>?_,fun j hj=>?_⟩⟩
 ·unfold noteN at e
  by_cases ec:c=b
  ·rw [if_pos ec] at e
   cases e
   subst ec
   exact ⟨b1,b2,.inl ⟨rfl,hb,by simp⟩⟩
  ·rw [if_neg ec] at e
   simp only [if_neg ec]
   exact ns.k c t e
 ·unfold noteN at e
  by_cases ec:c=b
  ·rw [if_pos ec] at e; cases e
  ·rw [if_neg ec] at e
   simp only [if_neg ec]
   exact ns.nn c hc e
 ·rw [ns.kk c hc]
  congr 1
  unfold isK noteN
  by_cases ec:c=b
  ·subst ec
   simp only [if_true]
   cases hN:N c with
   | none=>rfl
   | some t =>
    rcases (ns.k c t hN).2.2 with x | x
    ·simp [x.1]
    ·rw [hb] at x; cases x.2
  ·simp only [if_neg ec]
 ·by_cases ec:j=b
  ·simp only [if_pos ec]
   exact ⟨hr.1,hr.2.2.2.1⟩
  ·simp only [if_neg ec]
   exact ns.vb j hj

theorem h_free {w:World} {P:Nat→Int} {G:Geo} {E:Nat→Bool} {g o:Nat} {rows:List (Nat × Obj)} {i:Nat} {V:Nat→List Int} {F:Nat→Bool} {V':Nat→List Int} {K:Nat→Bool} {u:World} (h:Lp w P G E g o rows i V F V' K u) {b:Nat} (hb:E b=false) (hd:P 11 ≤ (b:Int)) (hn:b < G.n) :
  Calls Tryz.prog 46 #[.pointer (some ⟨o,0,none⟩),.int .i64 (b:Int)] u fun e u1=>e=.returned (.int .i64 0)∧Hid (Lp w P G E g o rows i V F V' (fun j=>if j=b then true else K j) u1):=by
 obtain ⟨cg,lg,dg,X,C,L,D,S,N,h,eN,eo,ns⟩:=h
 subst eo
 have hda:(G.ib:Int) ≤ P 11:=by obtain ⟨_,_,_,_,_,_,_,a⟩:=h.hl.gv; exact a.gr.da.1
 have e0:rngE G.n (b:Int) (P 11)=0:=by
  unfold rngE
  rw [if_neg (by omega)]
 have:=ofree_any h.hl.gv eN (b:Int)
 rw [e0,if_pos rfl] at this
 refine this.mono ?_
 rintro e u1 ⟨rfl,Y⟩
 obtain ⟨S',g1,x1⟩:=unhide Y
 rw [show (b:Int).toNat=b by simp] at g1
 refine ⟨rfl,cg,lg,dg,_,C,L,D,S',_,h.next g1 x1 (h.gs.same rfl) h.sq (fun j _ _=>gval_same rfl j) h.fl,rfl,rfl,⟨fun c t e=>?_,fun c hc e=>?_,fun c hc=>?_,ns.vb⟩⟩
 ·unfold noteN at e
  by_cases ec:c=b
  ·rw [if_pos ec] at e
   cases e
   subst ec
   exact ⟨by omega,hn,.inr ⟨rfl,hb⟩⟩
  ·rw [if_neg ec] at e
   exact ns.k c t e
 ·unfold noteN at e
  by_cases ec:c=b
  ·rw [if_pos ec] at e; cases e
  ·rw [if_neg ec] at e
   exact ns.nn c hc e
 ·unfold isK noteN
  by_cases ec:c=b
  ·simp [ec]
  ·simp only [if_neg ec]
   exact ns.kk c hc

theorem h_kept {w:World} {P:Nat→Int} {G:Geo} {E:Nat→Bool} {g o:Nat} {rows:List (Nat × Obj)} {i:Nat} {V:Nat→List Int} {F:Nat→Bool} {V':Nat→List Int} {K:Nat→Bool} {u:World} (h:Lp w P G E g o rows i V F V' K u) {b:Nat} (hb:E b=false) (hn:b < G.n) :
  Calls Tryz.prog 29 #[.pointer (some ⟨g,0,none⟩),.int .i64 (b:Int)] u fun e u1=>e=.returned (.bool (K b))∧Hid (Lp w P G E g o rows i V F V' K u1):=by
 obtain ⟨cg,lg,dg,X,C,L,D,S,N,h,eN,eo,ns⟩:=h
 subst eo
 have hq:L.Q b=none:=by
  cases e:L.Q b with
  | none=>rfl
  | some z=>have:=h.gs.lq b z e; rw [hb] at this; cases this
 have:=kept_open h.hl.gv eN hn hq
 rw [h.fl b hn,← ns.kk b hn] at this
 refine this.mono ?_
 rintro e u1 ⟨rfl,Y⟩
 obtain ⟨S',g1,x1⟩:=unhide Y
 exact ⟨rfl,cg,lg,dg,X,C,L,D,S',N,h.next g1 x1 h.gs h.sq (fun _ _ _=>rfl) h.fl,eN,rfl,ns⟩

end Go.Proofs.YtdfanhjnkjdngabGreatDoor

