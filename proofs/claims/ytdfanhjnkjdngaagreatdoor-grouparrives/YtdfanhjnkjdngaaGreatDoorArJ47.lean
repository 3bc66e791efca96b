/- Joined: OMathA, OMathB, OMathC, OArrM, OArrO, OReadA. -/
import Derived.Test.YtdfanhjnkjdngaaGreatDoorArJ45
import Derived.Test.YtdfanhjnkjdngaaGreatDoorArJ46
import Derived.Test.YtdfanhjnkjdngaaGreatDoorArJ36
/- A log and a cache on a device that lives. -/
namespace Go.Proofs.YtdfanhjnkjdngaaGreatDoor
set_option maxRecDepth 100000
set_option maxHeartbeats 8000000
open Go.RowKit Go.Shelf
set_option linter.unusedVariables false

structure Su (G:Geo) (L:Lg) (D:Dev):Prop where
 live:D.Live
 ld:L.dead=false
 n:D.n=G.n
 inv:∃ Ps,Inv G D.rd L Ps
 q:∀ b z,L.Q b=some z→G.ib ≤ b∧b < G.n

theorem St.su {G:Geo} {L:Lg} {D:Dev} (h:St G L D):Su G L D:=⟨h.live,h.ld,h.n,h.inv,h.q⟩

theorem Su.turn {G:Geo} (hG:G.Ok) {L:Lg} {D D':Dev} (h:Su G L D) (hl:D'.Live) (hn:D'.n=D.n) (hr:∀ j,j < G.ib→D'.rd j=D.rd j):Su G L D':=by
 obtain ⟨Ps,hI⟩:=h.inv
 have:=hG.ibn
 exact ⟨hl,h.ld,hn.trans h.n,⟨Ps,hI.congr hG (hr 1 (by omega)) (fun i _=>hr _ (hG.ring _).2.1)⟩,h.q⟩

theorem Su.apl {G:Geo} (hG:G.Ok) {L:Lg} {D:Dev} (h:Su G L D):apE G L D=0∧Su G (apL G L D) (apD G L D)∧(apL G L D).h.used=0∧(apL G L D).h.seq=L.h.seq∧(apL G L D).Q=(fun _=>none)∧(∀ j,G.ib ≤ j→j < G.n→(apD G L D).rd j=(L.Q j).getD (D.rd j)):=by
 obtain ⟨Ps,hI⟩:=h.inv
 have hib:=hG.ibn
 unfold apE apL apD
 by_cases h0:L.h.used=0
 ·rw [if_pos h0,if_pos h0,if_pos h0]
  have hn:=hI.none h0
  exact ⟨rfl,h,h0,rfl,hn,fun j _ _=>by rw [hn]; rfl⟩
 ·have hr:=h.live.run (aplS G L)
  rw [if_neg h0,if_neg h0,if_neg h0,if_pos hr.1]
  have hrd:=run_rd (aplS G L) D hr.1
  refine ⟨hr.1,⟨hr.2,h.ld,(runD_n _ _).1.trans h.n,⟨[],?_⟩,fun b z hb=>by cases hb⟩,rfl,rfl,rfl,fun j h1 h2=>?_⟩
  ·rw [hrd]
   exact hI.apply hG _
  ·rw [hrd]
   unfold aplS
   rw [rdS_append,rdS_stl]
   show (if j=1 then _ else rdS (homeS (pendW G L.Q)) D.rd j)=_
   rw [if_neg (by omega),home_rd G L.Q D.rd j h2]

theorem Su.aply {G:Geo} (hG:G.Ok) {L:Lg} {D:Dev} (h:Su G L D):aplyE G L D=0∧aplyL G L D=apL G L D∧aplyD G L D=apD G L D:=by
 have:=(h.apl hG).1
 unfold aplyE aplyL aplyD
 have hnd:¬ (L.dead=true):=by rw [h.ld]; decide
 rw [if_neg hnd,if_neg hnd,if_neg hnd,this]
 unfold Lg.met
 rw [if_neg (by decide)]
 exact ⟨rfl,rfl,rfl⟩

theorem Su.com0 {G:Geo} (hG:G.Ok) {L:Lg} {D:Dev} (h:Su G L D) {W:Wl} (hW:Good G L W) (hu:L.h.used + G.uses W.length ≤ G.lg):cmE0 G L W D=0∧Su G (cmL0 G L W D) (cmD0 G L W D)∧cmL0 G L W D=⟨G.after L.h W.length,setW L.Q W,false⟩∧(∀ j,G.ib ≤ j→j < G.n→(cmD0 G L W D).rd j=D.rd j):=by
 obtain ⟨Ps,hI⟩:=h.inv
 have hr:=h.live.run (comS G L W)
 have hrd:=run_rd (comS G L W) D hr.1
 have hib:=hG.ibn
 unfold cmE0 cmL0 cmD0
 rw [if_pos hr.1,h.ld]
 refine ⟨hr.1,⟨hr.2,rfl,(runD_n _ _).1.trans h.n,⟨_,by rw [hrd]; exact hI.commit hG W hW.b hW.q hu false⟩,setW_keys W L.Q hW.keys h.q⟩,rfl,fun j h1 h2=>?_⟩
 rw [hrd]
 unfold comS
 rw [rdS_append,rdS_stl]
 show (if j=1 then _ else rdS (partsS G L.h.seq (L.h.tail + L.h.used) W) D.rd j)=_
 rw [if_neg (by omega)]
 exact (parts_std hG W L.h.seq (L.h.tail + L.h.used) D.rd hW.b hW.q hW.u).2 j (fun i _=>by have:=(hG.ring (L.h.tail + L.h.used + i)).2.1; omega)

theorem wl_vOf (G:Geo) (W:Wl):wl (vOf G W)=W:=by
 unfold wl vOf
 rw [List.map_map]
 conv=>rhs; rw [← List.map_id W]
 refine List.map_congr_left (fun x _=>?_)
 show ((x.1:Int).toNat,x.2)=x
 simp

theorem wv_vOf (G:Geo) (W:Wl):wv (vOf G W)=W.map (fun x=>((x.1:Int),G.blk)):=by
 unfold wv vOf
 rw [List.map_map]
 rfl

theorem vOf_ok {G:Geo} {Q:Nat→Option (List Int)} (hQ:∀ b z,Q b=some z→G.ib ≤ b) (hu:G.uses (pendL G Q).length ≤ G.lg) {s:Nat} (hs:s + G.parts (pendL G Q).length ≤ 4294967295):lstE G s (wv (vOf G (pendW G Q)))=0:=by
 have e1:(wv (vOf G (pendW G Q))).map (·.1)=(pendL G Q).map (fun b:Nat=>(b:Int)):=by
  rw [wv_vOf,List.map_map]
  unfold pendW
  rw [List.map_map]
  rfl
 have e2:(wv (vOf G (pendW G Q))).length=(pendL G Q).length:=by rw [wv_vOf,List.length_map,pendW_len]
 have hb:blkE G ((pendL G Q).map (fun b:Nat=>(b:Int)))=0:=by
  unfold blkE
  rw [if_pos,if_pos]
  ·refine List.Pairwise.map _ (fun a b hab=>?_) (List.Pairwise.filter _ List.nodup_range)
   exact fun e=>hab (by omega)
  ·refine List.all_eq_true.2 (fun x hx=>?_)
   obtain ⟨b,hb,rfl⟩:=List.mem_map.1 hx
   obtain ⟨h1,h2⟩:=pendL_mem.1 hb
   obtain ⟨z,hz⟩:=Option.isSome_iff_exists.1 h2
   have:=hQ b z hz
   exact decide_eq_true (by omega)
 unfold lstE
 rw [if_pos,e1,if_pos hb,e2,if_neg (by omega),if_neg (by omega)]
 refine List.all_eq_true.2 (fun x hx=>?_)
 rw [wv_vOf] at hx
 obtain ⟨y,_,rfl⟩:=List.mem_map.1 hx
 exact decide_eq_true rfl

theorem Su.cmt {G:Geo} (hG:G.Ok) {L:Lg} {D:Dev} (h:Su G L D) {Q:Nat→Option (List Int)} (hQ:∀ b z,Q b=some z→G.ib ≤ b) (h0:(pendL G Q).length ≠ 0) (hu:L.h.used + G.uses (pendL G Q).length ≤ G.lg) (hs:L.h.seq + G.parts (pendL G Q).length ≤ 4294967295) :
  cmtE G L (vOf G (pendW G Q)) D=0∧Su G (cmtL G L (vOf G (pendW G Q)) D) (cmtD G L (vOf G (pendW G Q)) D)∧cmtL G L (vOf G (pendW G Q)) D=⟨G.after L.h (pendL G Q).length,setW L.Q (pendW G Q),false⟩∧(∀ j,G.ib ≤ j→j < G.n→(cmtD G L (vOf G (pendW G Q)) D).rd j=D.rd j):=by
 obtain ⟨Ps,hI⟩:=h.inv
 have hl:=vOf_ok hQ (by omega) hs
 have hg:=good_of hI.ok.seq hl
 rw [wl_vOf] at hg
 have hlen:(vOf G (pendW G Q)).length=(pendL G Q).length:=by unfold vOf; rw [List.length_map,pendW_len]
 have hnd:¬ (L.dead=true):=by rw [h.ld]; decide
 have hr:¬ (G.lg - L.h.used < G.uses (pendW G Q).length):=by rw [pendW_len]; omega
 obtain ⟨c1,c2,c3,c4⟩:=h.com0 hG hg (by rw [pendW_len]; exact hu)
 rw [pendW_len] at c3
 unfold cmtE cmtL cmtD
 rw [if_pos hl,if_pos hl,if_pos hl,if_neg hnd,if_neg hnd,if_neg hnd,if_neg (by rw [hlen]; exact h0),if_neg (by rw [hlen]; exact h0),if_neg (by rw [hlen]; exact h0),wl_vOf]
 unfold cmE cmL cmD
 rw [if_neg hr,if_neg hr,if_neg hr,c1]
 unfold Lg.met
 rw [if_neg (by decide)]
 exact ⟨rfl,c2,c3,c4⟩

theorem wb_far (C:Cac) {D:Dev} (h:D.ali) (b:Nat) {j:Nat} (hj:j ≠ b):(C.wbD D b).rd j=D.rd j:=by
 rw [wb_rd C h b j,if_neg hj]

theorem rm_far (C:Cac) {D:Dev} (h:D.ali) {m:Nat} (hp:∀ b l,C.L b=some l→m ≤ b) {j:Nat} (hj:j < m):(C.rmD D).rd j=D.rd j:=by
 unfold Cac.rmD
 by_cases hl:(C.those D.n fHeld).length < C.cap
 ·rw [if_pos hl]
 ·rw [if_neg hl]
  by_cases h0:C.those D.n fLoose=[]
  ·rw [if_pos h0]
  ·rw [if_neg h0]
   obtain ⟨v1,l,v2,v3⟩:=vic_facts h0
   have:=hp _ _ v2
   exact wb_far C.next h _ (by omega)

theorem out_far:∀ (s:List Nat) (C:Cac) (D:Dev),D.ali→∀ {j:Nat},(∀ b ∈ s,j ≠ b)→(outD s C D).rd j=D.rd j
 | [],C,D,h,j,hs=>rfl
 | b :: s,C,D,h,j,hs=>by
  obtain ⟨b1,b2,_,_⟩:=wb_L C h b
  unfold outD
  rw [if_pos b1,out_far s _ _ b2 (fun c hc=>hs c (by simp [hc])),wb_far C h b (hs b (by simp))]

theorem setW_or':∀ (W:Wl) (Q:Nat→Option (List Int)) (j:Nat),setW Q W j=(setW (fun _=>none) W j).or (Q j)
 | [],Q,j=>by simp [setW]
 | x :: r,Q,j=>by
  show setW (fun j=>if j=x.1 then some x.2 else Q j) r j=(setW (fun j=>if j=x.1 then some x.2 else none) r j).or (Q j)
  rw [setW_or' r (fun j=>if j=x.1 then some x.2 else Q j) j,setW_or' r (fun j=>if j=x.1 then some x.2 else none) j]
  cases setW (fun _=>none) r j with
  | some z=>simp
  | none=>by_cases e:j=x.1 <;> simp [e]

def lnC (o:Option (List Int)) (l:Ln):Ln:=match o with | some z=>⟨z,false,l.p⟩ | none=>l

theorem clnC_L:∀ (W:Wl) (C:Cac) (j:Nat),(clnC W C).L j=(C.L j).map (lnC (setW (fun _=>none) W j))
 | [],C,j=>by
  show C.L j=_
  cases C.L j <;> rfl
 | x :: r,C,j=>by
  show (clnC r (C.cl x.1 x.2)).L j=_
  rw [clnC_L r _ j]
  have e:(setW (fun _=>none) (x :: r) j)=(setW (fun _=>none) r j).or (if j=x.1 then some x.2 else none):=setW_or' r _ j
  rw [e]
  have hL:(C.cl x.1 x.2).L j=if j=x.1 then (C.L j).map (fun l=>⟨x.2,false,l.p⟩) else C.L j:=by
   unfold Cac.cl
   cases hl:C.L x.1 with
   | none =>
    by_cases e:j=x.1
    ·subst e; simp [hl]
    ·simp [e]
   | some l =>
    unfold Cac.set
    by_cases e:j=x.1
    ·subst e; simp [hl]
    ·simp [e]
  rw [hL]
  by_cases e2:j=x.1
  ·rw [if_pos e2,if_pos e2]
   cases C.L j with
   | none=>rfl
   | some l =>
    cases setW (fun _=>none) r j with
    | none=>rfl
    | some z=>rfl
  ·rw [if_neg e2,if_neg e2]
   cases setW (fun _=>none) r j <;> rfl

theorem clnC_cap:∀ (W:Wl) (C:Cac),(clnC W C).cap=C.cap
 | [],C=>rfl
 | x :: r,C=>by
  show (clnC r (C.cl x.1 x.2)).cap=_
  rw [clnC_cap r]
  unfold Cac.cl
  cases C.L x.1 <;> rfl

end Go.Proofs.YtdfanhjnkjdngaaGreatDoor

/- What a group holds while its device lives. -/
namespace Go.Proofs.YtdfanhjnkjdngaaGreatDoor
set_option maxRecDepth 100000
set_option maxHeartbeats 8000000
open Go.RowKit Go.Shelf
set_option linter.unusedVariables false

def gval (X:Grp) (C:Cac) (L:Lg) (D:Dev) (b:Nat):List Int:=match X.Q b with | some z=>z | none=>match L.Q b with | some z=>z | none=>C.val D b

structure Gs (G:Geo) (E:Nat→Bool) (X:Grp) (C:Cac) (L:Lg) (D:Dev):Prop where
 su:Su G L D
 cl:C.cln D
 hm:cnt (C.wants fHeld) D.n ≤ C.cap
 c1:1 ≤ C.cap
 pn:∀ b l,C.L b=some l→l.p=0∧G.ib ≤ b
 xq:∀ b z,X.Q b=some z→G.ib ≤ b∧E b=true
 lq:∀ b z,L.Q b=some z→E b=true
 ne:G.uses (pendL G X.Q).length ≤ G.lg

theorem Gs.ali {G:Geo} {E:Nat→Bool} {X:Grp} {C:Cac} {L:Lg} {D:Dev} (h:Gs G E X C L D):D.ali:=h.su.live

theorem Gs.room {G:Geo} {E:Nat→Bool} {X:Grp} {C:Cac} {L:Lg} {D:Dev} (h:Gs G E X C L D) (b:Nat):C.L b ≠ none ∨ cnt (C.wants fHeld) D.n < C.cap ∨ C.those D.n fLoose ≠ []:=by
 by_cases hl:cnt (C.wants fHeld) D.n < C.cap
 ·exact .inr (.inl hl)
 ·refine .inr (.inr (fun e=>?_))
  have h1:=h.hm
  have h2:=h.c1
  have h3:=(those_nil_iff C D.n fLoose).1 e
  have h4:cnt (C.wants fHeld) D.n ≤ cnt (C.wants fLoose) D.n:=cnt_mono (fun j hj hw=>by
   unfold Cac.wants at hw ⊢
   cases hl:C.L j with
   | none=>rw [hl] at hw; cases hw
   | some l =>
    have:=(h.pn j l hl).1
    simp [fLoose,this])
  omega

theorem Gs.co {G:Geo} (hG:G.Ok) {E:Nat→Bool} {X:Grp} {C:Cac} {L:Lg} {D:Dev} (h:Gs G E X C L D) :
  coE C D=0∧Gs G E X (coC C D) L (coD C D)∧∀ j,j < G.n→gval X (coC C D) L (coD C D) j=gval X C L D j:=by
 have hn:=h.su.n
 obtain ⟨o1,o2,o3,o4,o5,o6,o7⟩:=out_facts (C.those D.n fDirty) C D h.ali h.cl (fun b hb=>(Cac.mem_those.1 hb).1)
 have hfar:∀ j,j < G.ib→(coD C D).rd j=D.rd j:=fun j hj=>out_far _ C D h.ali (fun b hb=>by
  have h2:=(Cac.mem_those.1 hb).2
  unfold Cac.wants at h2
  cases hl:C.L b with
  | none=>rw [hl] at h2; cases h2
  | some l=>have:=(h.pn b l hl).2; omega)
 refine ⟨o1,⟨h.su.turn hG o2 o3.1 hfar,o5,?_,?_,fun j l e=>?_,h.xq,h.lq,h.ne⟩,fun j hj=>?_⟩
 ·have e1:(coD C D).n=D.n:=o3.1
  have e2:(coC C D).cap=C.cap:=o4
  rw [e1,e2]
  refine Nat.le_trans (Nat.le_of_eq (cnt_congr (fun j _=>?_))) h.hm
  unfold Cac.wants
  rw [show (coC C D).L j=_ from o7 j]
  cases C.L j <;> rfl
 ·have e2:(coC C D).cap=C.cap:=o4
  rw [e2]
  exact h.c1
 ·rw [show (coC C D).L j=_ from o7 j] at e
  cases hl:C.L j with
  | none=>rw [hl] at e; cases e
  | some l0 =>
   rw [hl] at e
   simp at e
   subst e
   have:=h.pn j l0 hl
   split <;> exact this
 ·unfold gval
  have:=o6 j (by omega)
  rw [show (coC C D).val (coD C D) j=_ from this]

theorem Gs.fl {G:Geo} (hG:G.Ok) {E:Nat→Bool} {X:Grp} {C:Cac} {L:Lg} {D:Dev} (h:Gs G E X C L D):D.wE=0∧Gs G E X C L D.fD∧∀ j,gval X C L D.fD j=gval X C L D j:=by
 have hw:=h.su.live.wE
 have hr:D.fD.rd=D.rd:=ap_rd hw .f
 have hn:D.fD.n=D.n:=(runD_n [.f] D).1 ▸ by show D.fD.n=_; show _=(if D.wE=0 then D.fD else D.fD).n; split <;> rfl
 have hl:D.fD.Live:=h.su.live.ap .f
 refine ⟨hw,⟨h.su.turn hG hl hn (fun j _=>by rw [hr]),fun b l hb=>by rw [hr]; exact h.cl b l (by omega),by rw [hn]; exact h.hm,h.c1,h.pn,h.xq,h.lq,h.ne⟩,fun j=>?_⟩
 unfold gval Cac.val
 rw [hr]

theorem Gs.aply {G:Geo} (hG:G.Ok) {E:Nat→Bool} {X:Grp} {C:Cac} {L:Lg} {D:Dev} (h:Gs G E X C L D) :
  aplyE G L D=0∧Gs G E X (gapC G C L D) (aplyL G L D) (aplyD G L D)∧(aplyL G L D).h.used=0∧(aplyL G L D).h.seq=L.h.seq∧(aplyL G L D).Q=(fun _=>none)∧∀ j,G.ib ≤ j→j < G.n→gval X (gapC G C L D) (aplyL G L D) (aplyD G L D) j=gval X C L D j:=by
 obtain ⟨a1,a2,a3⟩:=h.su.aply hG
 obtain ⟨b1,b2,b3,b4,b5,b6⟩:=h.su.apl hG
 have hn:=h.su.n
 have e1:gapC G C L D=clnC (pendW G L.Q) C:=if_pos a1
 have hL:∀ j,j < G.n→(clnC (pendW G L.Q) C).L j=(C.L j).map (lnC (L.Q j)):=fun j hj=>by rw [clnC_L,setW_pend G L.Q hj]
 rw [a2,a3,e1]
 refine ⟨a1,⟨b2,fun j l hj e hd=>?_,?_,by rw [clnC_cap]; exact h.c1,fun j l e=>?_,h.xq,fun b z e=>(by rw [b5] at e; cases e),h.ne⟩,b3,b4,b5,fun j hj hj2=>?_⟩
 ·rw [b2.n] at hj
  rw [hL j hj] at e
  cases hl:C.L j with
  | none=>rw [hl] at e; cases e
  | some l0 =>
   rw [hl] at e
   simp at e
   rw [b6 j (h.pn j l0 hl).2 hj]
   subst e
   cases hq:L.Q j with
   | none =>
    rw [hq] at hd
    exact h.cl j l0 (by omega) hl hd
   | some z=>rfl
 ·rw [b2.n,← hn,clnC_cap]
  refine Nat.le_trans (Nat.le_of_eq (cnt_congr (fun j hj=>?_))) h.hm
  unfold Cac.wants
  rw [hL j (by omega)]
  cases C.L j <;> rfl
 ·rw [clnC_L] at e
  cases hl:C.L j with
  | none=>rw [hl] at e; cases e
  | some l0 =>
   rw [hl] at e
   simp at e
   subst e
   have:=h.pn j l0 hl
   unfold lnC
   split <;> exact this
 ·unfold gval
  rw [b5]
  cases X.Q j with
  | some z=>rfl
  | none =>
   simp only
   unfold Cac.val
   rw [hL j hj2,b6 j hj hj2]
   cases hq:L.Q j with
   | none=>cases C.L j <;> rfl
   | some z=>cases C.L j <;> rfl

theorem Gs.cmt {G:Geo} (hG:G.Ok) {E:Nat→Bool} {X:Grp} {C:Cac} {L:Lg} {D:Dev} (h:Gs G E X C L D) (h0:(pendL G X.Q).length ≠ 0) (hu:L.h.used + G.uses (pendL G X.Q).length ≤ G.lg) (hs:L.h.seq + G.parts (pendL G X.Q).length ≤ 4294967295) :
  cmtE G L (vOf G (pendW G X.Q)) D=0∧Gs G E X.clr C (cmtL G L (vOf G (pendW G X.Q)) D) (cmtD G L (vOf G (pendW G X.Q)) D)∧(cmtL G L (vOf G (pendW G X.Q)) D).h.seq=L.h.seq + G.parts (pendL G X.Q).length∧∀ j,G.ib ≤ j→j < G.n→gval X.clr C (cmtL G L (vOf G (pendW G X.Q)) D) (cmtD G L (vOf G (pendW G X.Q)) D) j=gval X C L D j:=by
 obtain ⟨c1,c2,c3,c4⟩:=h.su.cmt hG (fun b z e=>(h.xq b z e).1) h0 hu hs
 have hn:=h.su.n
 have e0:pendL G (fun _=>none)=[]:=by unfold pendL; simp
 have eQ:∀ j,j < G.n→(cmtL G L (vOf G (pendW G X.Q)) D).Q j=(X.Q j).or (L.Q j):=fun j hj=>by
  rw [c3]
  show setW L.Q (pendW G X.Q) j=_
  rw [setW_or',setW_pend G X.Q hj]
 refine ⟨c1,⟨c2,fun j l hj e hd=>?_,?_,h.c1,h.pn,fun b z e=>(by cases e),fun b z e=>?_,?_⟩,by rw [c3]; rfl,fun j hj hj2=>?_⟩
 ·rw [c2.n] at hj
  rw [c4 j (h.pn j l e).2 hj]
  exact h.cl j l (by omega) e hd
 ·rw [c2.n,← hn]; exact h.hm
 ·have hb:=(c2.q b z e).2
  rw [eQ b hb] at e
  cases hx:X.Q b with
  | some y=>exact (h.xq b y hx).2
  | none =>
   rw [hx] at e
   exact h.lq b z e
 ·show G.uses (pendL G (fun _=>none)).length ≤ G.lg
  rw [e0]
  have:=h.ne
  simp [Geo.uses,Geo.parts_zero hG]
 ·unfold gval
  show (match (cmtL G L (vOf G (pendW G X.Q)) D).Q j with | some z=>z | none=>C.val (cmtD G L (vOf G (pendW G X.Q)) D) j)=_
  rw [eQ j hj2]
  cases hx:X.Q j with
  | some z=>rfl
  | none =>
   cases hl:L.Q j with
   | some z=>rfl
   | none =>
    show C.val _ j=C.val _ j
    unfold Cac.val
    rw [c4 j hj hj2]

theorem Gs.clr {G:Geo} (hG:G.Ok) {E:Nat→Bool} {X:Grp} {C:Cac} {L:Lg} {D:Dev} (h:Gs G E X C L D) (h0:(pendL G X.Q).length=0):Gs G E X.clr C L D∧∀ j,j < G.n→gval X.clr C L D j=gval X C L D j:=by
 have e0:pendL G (fun _=>none)=[]:=by unfold pendL; simp
 refine ⟨⟨h.su,h.cl,h.hm,h.c1,h.pn,fun b z e=>(by cases e),h.lq,?_⟩,fun j hj=>?_⟩
 ·show G.uses (pendL G (fun _=>none)).length ≤ G.lg
  rw [e0]
  simp [Geo.uses,Geo.parts_zero hG]
 ·have:X.Q j=none:=by
   cases hx:X.Q j with
   | none=>rfl
   | some z =>
    have:j ∈ pendL G X.Q:=pendL_mem.2 ⟨hj,by rw [hx]; rfl⟩
    rw [List.length_eq_zero_iff.1 h0] at this
    simp at this
  unfold gval
  rw [this]
  rfl

theorem Gs.cmm {G:Geo} (hG:G.Ok) {E:Nat→Bool} {X:Grp} {C:Cac} {L:Lg} {D:Dev} (h:Gs G E X C L D) (hs:L.h.seq + G.parts (pendL G X.Q).length ≤ 4294967295) :
  (Go.Proofs.YtdfanhjnkjdngaaGreatDoor.cmm G X C L D).1=0∧Gs G E X.clr (Go.Proofs.YtdfanhjnkjdngaaGreatDoor.cmm G X C L D).2.1 (Go.Proofs.YtdfanhjnkjdngaaGreatDoor.cmm G X C L D).2.2.1 (Go.Proofs.YtdfanhjnkjdngaaGreatDoor.cmm G X C L D).2.2.2∧(Go.Proofs.YtdfanhjnkjdngaaGreatDoor.cmm G X C L D).2.2.1.h.seq ≤ L.h.seq + G.lg∧∀ j,G.ib ≤ j→j < G.n→gval X.clr (Go.Proofs.YtdfanhjnkjdngaaGreatDoor.cmm G X C L D).2.1 (Go.Proofs.YtdfanhjnkjdngaaGreatDoor.cmm G X C L D).2.2.1 (Go.Proofs.YtdfanhjnkjdngaaGreatDoor.cmm G X C L D).2.2.2 j=gval X C L D j:=by
 obtain ⟨o1,o2,o3⟩:=h.co hG
 have hpl:G.parts (pendL G X.Q).length ≤ G.lg:=by have:=h.ne; unfold Geo.uses at this; omega
 unfold Go.Proofs.YtdfanhjnkjdngaaGreatDoor.cmm
 rw [if_neg (by simpa using o1)]
 by_cases h0:(pendL G X.Q).length=0
 ·rw [if_pos h0]
  obtain ⟨f1,f2,f3⟩:=o2.fl hG
  obtain ⟨g1,g2⟩:=f2.clr hG h0
  exact ⟨f1,g1,by show L.h.seq ≤ _; omega,fun j hj hj2=>(g2 j hj2).trans ((f3 j).trans (o3 j hj2))⟩
 ·rw [if_neg h0]
  by_cases hr:G.lg - L.h.used < G.uses (pendL G X.Q).length
  ·rw [if_pos hr]
   obtain ⟨a1,a2,a3,a4,a5,a6⟩:=o2.aply hG
   rw [if_neg (by simpa using a1)]
   obtain ⟨c1,c2,c3,c4⟩:=a2.cmt hG h0 (by rw [a3]; have:=h.ne; omega) (by rw [a4]; exact hs)
   refine ⟨c1,c2,?_,fun j hj hj2=>(c4 j hj hj2).trans ((a6 j hj hj2).trans (o3 j hj2))⟩
   show (cmtL G (aplyL G L (coD C D)) (vOf G (pendW G X.Q)) (aplyD G L (coD C D))).h.seq ≤ _
   rw [c3,a4]
   omega
  ·rw [if_neg hr]
   obtain ⟨Ps,hI⟩:=h.su.inv
   have hus:=hI.ok.used
   obtain ⟨c1,c2,c3,c4⟩:=o2.cmt hG h0 (by omega) hs
   refine ⟨c1,c2,?_,fun j hj hj2=>(c4 j hj hj2).trans (o3 j hj2)⟩
   show (cmtL G L (vOf G (pendW G X.Q)) (coD C D)).h.seq ≤ _
   rw [c3]
   omega

end Go.Proofs.YtdfanhjnkjdngaaGreatDoor

/- End, on a device that lives. -/
namespace Go.Proofs.YtdfanhjnkjdngaaGreatDoor
set_option maxRecDepth 100000
set_option maxHeartbeats 8000000
open Go.RowKit Go.Shelf
set_option linter.unusedVariables false

structure Nk (G:Geo) (E:Nat→Bool) (N:Nat→Option Nt):Prop where
 k:∀ b t,N b=some t→G.ib ≤ b∧b < G.n∧(t.k=1∧E b=true ∨ t.k=2∧E b=false)
 u:G.uses (lstX (isK N 1) G.n).length ≤ G.lg

theorem Gs.pts {G:Geo} (hG:G.Ok) {E:Nat→Bool} {X:Grp} {L:Lg} (N:Nat→Option Nt):∀ (s:List Nat) (C:Cac) (D:Dev),Gs G E X C L D→(∀ b ∈ s,G.ib ≤ b∧b < G.n) →
  ptsE N s C D=0∧Gs G E X (ptsC N s C D) L (ptsD N s C D)∧∀ j,j < G.n→(ptsC N s C D).val (ptsD N s C D) j=if j ∈ s then ntZ N j else C.val D j
 | [],C,D,h,hs=>⟨rfl,h,fun j _=>by simp [ptsC,ptsD]⟩
 | b :: s,C,D,h,hs=>by
  have hb:=hs b (by simp)
  have hn:=h.su.n
  obtain ⟨p1,p2,p3,p4,p5,p6,p7,p8,p9⟩:=pt_facts C h.ali h.cl (b:=b) (by omega) (ntZ N b) h.hm (h.room b)
  have hfar:∀ j,j < G.ib→(C.ptD D b).rd j=D.rd j:=fun j hj=>by
   unfold Cac.ptD
   cases C.L b with
   | some l=>rfl
   | none=>exact rm_far C h.ali (fun b l e=>(h.pn b l e).2) hj
  have h1:Gs G E X (C.ptC D b (ntZ N b)) L (C.ptD D b):=by
   refine ⟨h.su.turn hG p2 p3.1 hfar,p5,by rw [p3.1,p4]; exact p9,by rw [p4]; exact h.c1,fun j l e=>?_,h.xq,h.lq,h.ne⟩
   by_cases ej:j=b
   ·subst ej
    obtain ⟨l2,e2,e3⟩:=p8
    rw [e2] at e
    cases e
    refine ⟨?_,hb.1⟩
    rw [e3]
    cases hl:C.L j with
    | none=>rfl
    | some l0=>exact (h.pn j l0 hl).1
   ·rcases p7 j ej with x | x
    ·rw [x] at e; exact h.pn j l e
    ·rw [x] at e; cases e
  obtain ⟨q1,q2,q3⟩:=Gs.pts hG N s _ _ h1 (fun c hc=>hs c (by simp [hc]))
  unfold ptsE ptsC ptsD
  rw [if_pos p1,if_pos p1,if_pos p1]
  refine ⟨q1,q2,fun j hj=>?_⟩
  rw [q3 j hj,p6 j (by omega)]
  by_cases e1:j ∈ s
  ·simp [e1]
  ·by_cases e2:j=b
   ·subst e2; simp [e1]
   ·simp [e1,e2]

theorem ownQ_at (N:Nat→Option Nt):∀ (s:List Nat) (Q:Nat→Option (List Int)) (j:Nat),ownQ N s Q j=if j ∈ s then some (ntZ N j) else Q j
 | [],Q,j=>by simp [ownQ]
 | b :: s,Q,j=>by
  unfold ownQ
  rw [ownQ_at N s _ j]
  by_cases e1:j ∈ s
  ·simp [e1]
  ·by_cases e2:j=b
   ·subst e2; simp [e1]
   ·simp [e1,e2]

theorem lstX_mem {p:Nat→Bool} {n j:Nat}:j ∈ lstX p n ↔ j < n∧p j=true:=by simp [lstX]

theorem own_len (G:Geo) (N:Nat→Option Nt) (Q:Nat→Option (List Int)):(pendL G (ownQ N (lstX (isK N 1) G.n) Q)).length=(pendL G Q).length + (lstX (isM N Q) G.n).length:=by
 have hp:=cnt_part (fun b=>(ownQ N (lstX (isK N 1) G.n) Q b).isSome) (fun b=>(Q b).isSome) G.n
 have e1:cnt (fun j=>(ownQ N (lstX (isK N 1) G.n) Q j).isSome && (Q j).isSome) G.n=(pendL G Q).length:=by
  refine cnt_congr (fun j hj=>?_)
  rw [ownQ_at]
  cases hq:Q j with
  | none=>simp
  | some z=>by_cases e:j ∈ lstX (isK N 1) G.n <;> simp [e]
 have e2:cnt (fun j=>(ownQ N (lstX (isK N 1) G.n) Q j).isSome && !(Q j).isSome) G.n=(lstX (isM N Q) G.n).length:=by
  refine cnt_congr (fun j hj=>?_)
  rw [ownQ_at]
  unfold isM
  cases hq:Q j with
  | some z=>simp
  | none =>
   by_cases e:isK N 1 j=true
   ·have:j ∈ lstX (isK N 1) G.n:=lstX_mem.2 ⟨hj,e⟩
    simp [this,e]
   ·have:¬ j ∈ lstX (isK N 1) G.n:=fun h=>e (lstX_mem.1 h).2
    simp [this,e]
 have e3:(pendL G (ownQ N (lstX (isK N 1) G.n) Q)).length=cnt (fun b=>(ownQ N (lstX (isK N 1) G.n) Q b).isSome) G.n:=rfl
 omega

theorem Gs.enR {G:Geo} (hG:G.Ok) {E:Nat→Bool} {X:Grp} {C:Cac} {L:Lg} {D:Dev} {N:Nat→Option Nt} (h:Gs G E X C L D) (hN:Nk G E N) (hs:L.h.seq + G.parts (pendL G X.Q).length ≤ 4294967295) :
  ∃ X' C' L' D',Go.Proofs.YtdfanhjnkjdngaaGreatDoor.enR G X N C L D=(0,X',C',L',D')∧X'.o=X.o∧Gs G E X' C' L' D'∧L'.h.seq ≤ L.h.seq + G.lg∧G.uses ((pendL G X'.Q).length + (lstX (isM N X'.Q) G.n).length) ≤ G.lg∧∀ j,G.ib ≤ j→j < G.n→gval X' C' L' D' j=gval X C L D j:=by
 unfold Go.Proofs.YtdfanhjnkjdngaaGreatDoor.enR
 by_cases hr:G.lg < G.uses ((pendL G X.Q).length + (lstX (isM N X.Q) G.n).length)
 ·rw [if_pos hr]
  obtain ⟨c1,c2,c3,c4⟩:=h.cmm hG hs
  rw [c1,if_pos rfl]
  refine ⟨_,_,_,_,rfl,rfl,c2,c3,?_,c4⟩
  have e0:pendL G X.clr.Q=[]:=by show pendL G (fun _=>none)=[]; unfold pendL; simp
  have e1:isM N X.clr.Q=isK N 1:=by funext j; show (isK N 1 j && true)=_; simp
  rw [e0,e1]
  simpa using hN.u
 ·rw [if_neg hr]
  exact ⟨_,_,_,_,rfl,rfl,h,by omega,by omega,fun _ _ _=>rfl⟩

theorem Gs.fin {G:Geo} (hG:G.Ok) {E:Nat→Bool} {X:Grp} {C:Cac} {L:Lg} {D:Dev} {N:Nat→Option Nt} (h:Gs G E X C L D) (hN:Nk G E N) (hs:L.h.seq + G.parts (pendL G X.Q).length ≤ 4294967295) :
  ∃ X' C' L' D',endR G X N C L D=(0,X',C',L',D')∧X'.N=none∧X'.o=X.o∧Gs G E X' C' L' D'∧L'.h.seq ≤ L.h.seq + G.lg∧∀ j,G.ib ≤ j→j < G.n→gval X' C' L' D' j=(match N j with | some t=>t.z | none=>gval X C L D j):=by
 obtain ⟨X1,C1,L1,D1,e1,eo,h1,s1,u1,v1⟩:=h.enR hG hN hs
 have k3:lstX (isK N 3) G.n=[]:=by
  unfold lstX
  refine List.filter_eq_nil_iff.2 (fun b _ hb=>?_)
  obtain ⟨t,e,k⟩:=isK_some hb
  have:=(hN.k b t e).2.2
  omega
 have d2:∀ b ∈ lstX (isK N 2) G.n,G.ib ≤ b∧b < G.n:=fun b hb=>by
  obtain ⟨t,e,_⟩:=isK_some (lstX_mem.1 hb).2
  have:=hN.k b t e
  omega
 obtain ⟨p1,p2,p3⟩:=Gs.pts hG N _ C1 D1 h1 d2
 have hu:=hN.u
 unfold endR
 rw [if_neg (by omega),e1,if_neg (by simp)]
 unfold enT
 simp only
 rw [if_neg (by simpa using p1),k3]
 refine ⟨_,_,_,_,rfl,rfl,eo,⟨p2.su,p2.cl,p2.hm,p2.c1,p2.pn,fun b z e=>?_,p2.lq,?_⟩,s1,fun j hj hj2=>?_⟩
 ·have e:ownQ N (lstX (isK N 1) G.n) X1.Q b=some z:=e
  rw [ownQ_at] at e
  by_cases hm:b ∈ lstX (isK N 1) G.n
  ·obtain ⟨t,et,kt⟩:=isK_some (lstX_mem.1 hm).2
   have:=hN.k b t et
   refine ⟨this.1,?_⟩
   rcases this.2.2 with x | x
   ·exact x.2
   ·omega
  ·rw [if_neg hm] at e
   exact h1.xq b z e
 ·show G.uses (pendL G (ownQ N (lstX (isK N 1) G.n) X1.Q)).length ≤ G.lg
  rw [own_len]
  exact u1
 ·show gval ⟨ownQ N (lstX (isK N 1) G.n) X1.Q,_,none,_⟩ (ptsC N (lstX (isK N 2) G.n) C1 D1) L1 (ptsD N (lstX (isK N 2) G.n) C1 D1) j=_
  unfold gval
  simp only
  rw [ownQ_at,p3 j hj2]
  have hv:=v1 j hj hj2
  cases hN':N j with
  | none =>
   have m1:¬ j ∈ lstX (isK N 1) G.n:=fun hm=>by
    have:=(lstX_mem.1 hm).2
    unfold isK at this
    rw [hN'] at this
    cases this
   have m2:¬ j ∈ lstX (isK N 2) G.n:=fun hm=>by
    have:=(lstX_mem.1 hm).2
    unfold isK at this
    rw [hN'] at this
    cases this
   rw [if_neg m1,if_neg m2]
   exact hv
  | some t =>
   have hz:ntZ N j=t.z:=by unfold ntZ; rw [hN']
   rcases (hN.k j t hN').2.2 with ⟨k1,k2⟩ | ⟨k1,k2⟩
   ·have m1:j ∈ lstX (isK N 1) G.n:=lstX_mem.2 ⟨hj2,by unfold isK; rw [hN']; simp [k1]⟩
    rw [if_pos m1,hz]
   ·have m1:¬ j ∈ lstX (isK N 1) G.n:=fun hm=>by
     have:=(lstX_mem.1 hm).2
     unfold isK at this
     rw [hN'] at this
     simp [k1] at this
    have m2:j ∈ lstX (isK N 2) G.n:=lstX_mem.2 ⟨hj2,by unfold isK; rw [hN']; simp [k1]⟩
    have xn:X1.Q j=none:=by
     cases hx:X1.Q j with
     | none=>rfl
     | some z=>have:=(h1.xq j z hx).2; rw [k2] at this; cases this
    have ln:L1.Q j=none:=by
     cases hx:L1.Q j with
     | none=>rfl
     | some z=>have:=h1.lq j z hx; rw [k2] at this; cases this
    rw [if_neg m1,if_pos m2,xn,ln,hz]

end Go.Proofs.YtdfanhjnkjdngaaGreatDoor

/- What a Commit that is done has brought onto the device. -/
namespace Go.Proofs.YtdfanhjnkjdngaaGreatDoor
set_option maxRecDepth 100000
set_option maxHeartbeats 8000000
open Go.RowKit Go.Shelf
set_option linter.unusedVariables false

def Cac.tidy (C:Cac) (n:Nat):Prop:=∀ j l,j < n→C.L j=some l→l.d=false

theorem fd_fl {D:Dev} (h:D.Live):∀ j,j < D.n→D.fD.Y j=[]:=fun j hj=>by
 have:=run_flush [] D h j hj
 have e:runD ([] ++ [.f]) D=D.fD:=by show (if D.wE=0 then D.fD else D.fD)=_; split <;> rfl
 rwa [e] at this

theorem Su.cmt_fl {G:Geo} (hG:G.Ok) {L:Lg} {D:Dev} (h:Su G L D) {Q:Nat→Option (List Int)} (hQ:∀ b z,Q b=some z→G.ib ≤ b) (h0:(pendL G Q).length ≠ 0) (hu:L.h.used + G.uses (pendL G Q).length ≤ G.lg) (hs:L.h.seq + G.parts (pendL G Q).length ≤ 4294967295) :
  ∀ j,j < G.n→(cmtD G L (vOf G (pendW G Q)) D).Y j=[]:=by
 have hl:=vOf_ok hQ (by omega) hs
 have hlen:(vOf G (pendW G Q)).length=(pendL G Q).length:=by unfold vOf; rw [List.length_map,pendW_len]
 have hnd:¬ (L.dead=true):=by rw [h.ld]; decide
 have hr:¬ (G.lg - L.h.used < G.uses (pendW G Q).length):=by rw [pendW_len]; omega
 intro j hj
 unfold cmtD
 rw [if_pos hl,if_neg hnd,if_neg (by rw [hlen]; exact h0),wl_vOf]
 unfold cmD
 rw [if_neg hr]
 unfold cmD0 comS
 rw [stl_end]
 exact run_flush _ D h.live j (by rw [h.n]; exact hj)

theorem Gs.co_tidy {G:Geo} {E:Nat→Bool} {X:Grp} {C:Cac} {L:Lg} {D:Dev} (h:Gs G E X C L D):(coC C D).tidy G.n:=by
 have hn:=h.su.n
 obtain ⟨o1,o2,o3,o4,o5,o6,o7⟩:=out_facts (C.those D.n fDirty) C D h.ali h.cl (fun b hb=>(Cac.mem_those.1 hb).1)
 intro j l hj e
 rw [show (coC C D).L j=_ from o7 j] at e
 cases hl:C.L j with
 | none=>rw [hl] at e; cases e
 | some l0 =>
  rw [hl] at e
  simp at e
  subst e
  by_cases hm:j ∈ C.those D.n fDirty
  ·rw [if_pos hm]
  ·rw [if_neg hm]
   cases hd:l0.d with
   | false=>rfl
   | true=>exact absurd (Cac.mem_those.2 ⟨by omega,by unfold Cac.wants; rw [hl]; exact hd⟩) hm

theorem gap_tidy {G:Geo} {C:Cac} {L:Lg} {D:Dev} (h:C.tidy G.n):(gapC G C L D).tidy G.n:=by
 unfold gapC
 split
 ·intro j l hj e
  rw [clnC_L] at e
  cases hl:C.L j with
  | none=>rw [hl] at e; cases e
  | some l0 =>
   rw [hl] at e
   simp at e
   subst e
   have:=h j l0 hj hl
   unfold lnC
   split
   ·rfl
   ·exact this
 ·exact h

theorem Gs.cmm_fl {G:Geo} (hG:G.Ok) {E:Nat→Bool} {X:Grp} {C:Cac} {L:Lg} {D:Dev} (h:Gs G E X C L D) (hs:L.h.seq + G.parts (pendL G X.Q).length ≤ 4294967295) :
  (∀ j,j < G.n→(Go.Proofs.YtdfanhjnkjdngaaGreatDoor.cmm G X C L D).2.2.2.Y j=[])∧(Go.Proofs.YtdfanhjnkjdngaaGreatDoor.cmm G X C L D).2.1.tidy G.n:=by
 obtain ⟨o1,o2,o3⟩:=h.co hG
 have ot:=h.co_tidy
 unfold Go.Proofs.YtdfanhjnkjdngaaGreatDoor.cmm
 rw [if_neg (by simpa using o1)]
 by_cases h0:(pendL G X.Q).length=0
 ·rw [if_pos h0]
  exact ⟨fun j hj=>fd_fl o2.su.live j (by rw [o2.su.n]; exact hj),ot⟩
 ·rw [if_neg h0]
  by_cases hr:G.lg - L.h.used < G.uses (pendL G X.Q).length
  ·rw [if_pos hr]
   obtain ⟨a1,a2,a3,a4,a5,a6⟩:=o2.aply hG
   rw [if_neg (by simpa using a1)]
   exact ⟨a2.su.cmt_fl hG (fun b z e=>(h.xq b z e).1) h0 (by rw [a3]; have:=h.ne; omega) (by rw [a4]; exact hs),gap_tidy ot⟩
  ·rw [if_neg hr]
   obtain ⟨Ps,hI⟩:=h.su.inv
   have hus:=hI.ok.used
   exact ⟨o2.su.cmt_fl hG (fun b z e=>(h.xq b z e).1) h0 (by omega) hs,ot⟩

theorem Su.st {G:Geo} {L:Lg} {D:Dev} (h:Su G L D) (hf:∀ j,j < G.n→D.Y j=[]):St G L D:=⟨h.live,h.ld,h.n,h.inv,hf,h.q⟩

theorem Gs.told {G:Geo} {E:Nat→Bool} {X:Grp} {C:Cac} {L:Lg} {D:Dev} (h:Gs G E X.clr C L D) (ht:C.tidy G.n) {j:Nat} (hj:j < G.n):gval X.clr C L D j=(L.Q j).getD (D.rd j):=by
 have hn:=h.su.n
 unfold gval
 show (match L.Q j with | some z=>z | none=>C.val D j)=_
 cases L.Q j with
 | some z=>rfl
 | none =>
  show C.val D j=D.rd j
  unfold Cac.val
  cases hl:C.L j with
  | none=>rfl
  | some l=>exact (h.cl j l (by omega) hl (ht j l hj hl)).symm

end Go.Proofs.YtdfanhjnkjdngaaGreatDoor

/- What Out has brought onto the device, where operations gave data alone. -/
namespace Go.Proofs.YtdfanhjnkjdngaaGreatDoor
set_option maxRecDepth 100000
set_option maxHeartbeats 8000000
open Go.RowKit Go.Shelf
set_option linter.unusedVariables false

def Cac.dirtyIn (C:Cac) (s:List Nat):Prop:=∀ j l,C.L j=some l→l.d=true→j ∈ s

theorem Cac.dirtyIn.mono {C:Cac} {s s':List Nat} (h:C.dirtyIn s) (hs:∀ j ∈ s,j ∈ s'):C.dirtyIn s':=fun j l e d=>hs j (h j l e d)

theorem Gs.pts_in {G:Geo} (hG:G.Ok) {E:Nat→Bool} {X:Grp} {L:Lg} (N:Nat→Option Nt) {t:List Nat}:∀ (s:List Nat) (C:Cac) (D:Dev),Gs G E X C L D→(∀ b ∈ s,G.ib ≤ b∧b < G.n)→(∀ b ∈ s,b ∈ t)→C.dirtyIn t→(ptsC N s C D).dirtyIn t
 | [],C,D,h,hs,ht,hd=>hd
 | b :: s,C,D,h,hs,ht,hd=>by
  have hb:=hs b (by simp)
  have hn:=h.su.n
  obtain ⟨p1,p2,p3,p4,p5,p6,p7,p8,p9⟩:=pt_facts C h.ali h.cl (b:=b) (by omega) (ntZ N b) h.hm (h.room b)
  have h1:=Gs.pts hG N [b] C D h (fun c hc=>by obtain rfl:=List.mem_singleton.1 hc; exact hb)
  have h1':Gs G E X (C.ptC D b (ntZ N b)) L (C.ptD D b):=by
   have:=h1.2.1
   unfold ptsC ptsD at this
   rw [if_pos p1,if_pos p1] at this
   exact this
  have hd1:(C.ptC D b (ntZ N b)).dirtyIn t:=fun j l e d=>by
   by_cases ej:j=b
   ·rw [ej]; exact ht b (by simp)
   ·rcases p7 j ej with x | x
    ·rw [x] at e; exact hd j l e d
    ·rw [x] at e; cases e
  have:=Gs.pts_in hG N s _ _ h1' (fun c hc=>hs c (by simp [hc])) (fun c hc=>ht c (by simp [hc])) hd1
  unfold ptsC
  rw [if_pos p1]
  exact this

theorem Gs.fin_data {G:Geo} (hG:G.Ok) {E:Nat→Bool} {X:Grp} {C:Cac} {L:Lg} {D:Dev} {N:Nat→Option Nt} (h:Gs G E X C L D) (hN:Nk G E N) (hx:∀ j,X.Q j=none) (h2:∀ b t,N b=some t→t.k=2) {s:List Nat} (hd:C.dirtyIn s) (hs:∀ b t,N b=some t→b ∈ s) :
  ∃ X' C' D',endR G X N C L D=(0,X',C',L,D')∧X'.N=none∧X'.o=X.o∧(∀ j,X'.Q j=none)∧C'.dirtyIn s∧Gs G E X' C' L D'∧∀ j,G.ib ≤ j→j < G.n→gval X' C' L D' j=(match N j with | some t=>t.z | none=>gval X C L D j):=by
 have k1:lstX (isK N 1) G.n=[]:=by
  unfold lstX
  refine List.filter_eq_nil_iff.2 (fun b _ hb=>?_)
  obtain ⟨t,e,k⟩:=isK_some hb
  have:=h2 b t e
  omega
 have k3:lstX (isK N 3) G.n=[]:=by
  unfold lstX
  refine List.filter_eq_nil_iff.2 (fun b _ hb=>?_)
  obtain ⟨t,e,k⟩:=isK_some hb
  have:=h2 b t e
  omega
 have km:lstX (isM N X.Q) G.n=[]:=by
  unfold lstX
  refine List.filter_eq_nil_iff.2 (fun b hb hm=>?_)
  have hm':isK N 1 b=true:=by unfold isM at hm; simp at hm; exact hm.1
  have:b ∈ lstX (isK N 1) G.n:=lstX_mem.2 ⟨by simpa using hb,hm'⟩
  rw [k1] at this
  simp at this
 have kp:pendL G X.Q=[]:=by
  unfold pendL
  refine List.filter_eq_nil_iff.2 (fun b _ hm=>?_)
  rw [hx b] at hm
  cases hm
 have u0:¬ G.lg < G.uses 0:=by simp [Geo.uses,Geo.parts_zero hG]
 have d2:∀ b ∈ lstX (isK N 2) G.n,G.ib ≤ b∧b < G.n:=fun b hb=>by
  obtain ⟨t,e,_⟩:=isK_some (lstX_mem.1 hb).2
  have:=hN.k b t e
  omega
 have dt:∀ b ∈ lstX (isK N 2) G.n,b ∈ s:=fun b hb=>by
  obtain ⟨t,e,_⟩:=isK_some (lstX_mem.1 hb).2
  exact hs b t e
 obtain ⟨p1,p2,p3⟩:=Gs.pts hG N _ C D h d2
 have p4:=Gs.pts_in hG N _ C D h d2 dt hd
 have en:Go.Proofs.YtdfanhjnkjdngaaGreatDoor.enR G X N C L D=(0,X,C,L,D):=by
  unfold Go.Proofs.YtdfanhjnkjdngaaGreatDoor.enR
  rw [kp,km]
  rw [if_neg (by simpa using u0)]
 unfold endR
 rw [k1,en]
 rw [if_neg (by simpa using u0),if_neg (by simp)]
 unfold enT
 simp only
 rw [if_neg (by simpa using p1),k3,k1]
 refine ⟨_,_,_,rfl,rfl,rfl,fun j=>hx j,p4,⟨p2.su,p2.cl,p2.hm,p2.c1,p2.pn,h.xq,p2.lq,h.ne⟩,fun j hj hj2=>?_⟩
 have e:gval X C L D j=(match L.Q j with | some z=>z | none=>C.val D j):=by unfold gval; rw [hx j] <;> cases L.Q j <;> rfl
 show (match X.Q j with | some z=>z | none=>match L.Q j with | some z=>z | none=>(ptsC N (lstX (isK N 2) G.n) C D).val (ptsD N (lstX (isK N 2) G.n) C D) j)=_
 rw [hx j,e,p3 j hj2]
 cases hN':N j with
 | none =>
  have m2:¬ j ∈ lstX (isK N 2) G.n:=fun hm=>by
   have:=(lstX_mem.1 hm).2
   unfold isK at this
   rw [hN'] at this
   cases this
  rw [if_neg m2]
 | some t =>
  have hk:=h2 j t hN'
  have m2:j ∈ lstX (isK N 2) G.n:=lstX_mem.2 ⟨hj2,by unfold isK; rw [hN']; simp [hk]⟩
  have ef:E j=false:=by
   rcases (hN.k j t hN').2.2 with x | x
   ·omega
   ·exact x.2
  have ln:L.Q j=none:=by
   cases hl:L.Q j with
   | none=>rfl
   | some z=>have:=h.lq j z hl; rw [ef] at this; cases this
  rw [if_pos m2,ln]
  show ntZ N j=t.z
  unfold ntZ
  rw [hN']

theorem Gs.out_all {G:Geo} (hG:G.Ok) {E:Nat→Bool} {X:Grp} {C:Cac} {L:Lg} {D:Dev} (h:Gs G E X C L D) (hx:∀ j,X.Q j=none) {s:List Nat} (hs:∀ b ∈ s,G.ib ≤ b∧b < G.n) (hd:C.dirtyIn s) :
  gouE C D s=0∧Su G L (gouD C D s)∧(∀ j,j < G.n→(gouD C D s).Y j=[])∧∀ j,G.ib ≤ j→j < G.n→(L.Q j).getD ((gouD C D s).rd j)=gval X C L D j:=by
 have hn:=h.su.n
 obtain ⟨o1,o2,o3,o4,o5,o6,o7⟩:=out_facts s C D h.ali h.cl (fun b hb=>by have:=hs b hb; omega)
 have hl:(outD s C D).Live:=o2
 have hr:(outD s C D).fD.rd=(outD s C D).rd:=ap_rd hl.wE .f
 have e1:gouE C D s=0:=by unfold gouE; rw [if_pos o1]; exact hl.wE
 have e2:gouD C D s=(outD s C D).fD:=by unfold gouD; rw [if_pos o1]
 have hfn:(outD s C D).fD.n=(outD s C D).n:=by
  have:=(runD_n [.f] (outD s C D)).1
  have e:runD [.f] (outD s C D)=(outD s C D).fD:=by show (if (outD s C D).wE=0 then (outD s C D).fD else (outD s C D).fD)=_; split <;> rfl
  rwa [e] at this
 have su:Su G L (outD s C D).fD:=h.su.turn hG (hl.ap .f) (hfn.trans o3.1) (fun j hj=>by
  rw [hr]
  exact out_far s C D h.ali (fun b hb=>by have:=(hs b hb).1; omega))
 rw [e1,e2]
 refine ⟨rfl,su,fun j hj=>fd_fl hl j (by rw [o3.1,hn]; exact hj),fun j hj hj2=>?_⟩
 rw [hr]
 unfold gval
 rw [hx j]
 cases hq:L.Q j with
 | some z=>rfl
 | none =>
  show (outD s C D).rd j=C.val D j
  rw [← o6 j (by omega)]
  unfold Cac.val
  cases hl2:(outC s C D).L j with
  | none=>rfl
  | some l =>
   refine o5 j l (by rw [o3.1]; omega) hl2 ?_
   rw [o7 j] at hl2
   cases hl0:C.L j with
   | none=>rw [hl0] at hl2; cases hl2
   | some l0 =>
    rw [hl0] at hl2
    simp at hl2
    subst hl2
    by_cases hm:j ∈ s
    ·rw [if_pos hm]
    ·rw [if_neg hm]
     cases hd0:l0.d with
     | false=>rfl
     | true=>exact absurd (hd j l0 hl0 hd0) hm

end Go.Proofs.YtdfanhjnkjdngaaGreatDoor

/- GroupReads: its memory and its calls. -/
namespace Go.Proofs.YtdfanhjnkjdngaaGreatDoor
set_option maxRecDepth 100000
set_option maxHeartbeats 8000000
open Go.RowKit Go.Shelf Go.Maps
set_option linter.unusedVariables false

def ev (b:Nat):Bool:=b % 2 == 0

def hl (H:Nat→Int):List Int:=(List.range 60).map H

theorem hl_len (H:Nat→Int):(hl H).length=60:=by simp [hl]

theorem hl_at (H:Nat→Int) {j:Nat} (hj:j < 60):(hl H)[j]?.getD 0=H j:=by simp [hl,hj]

theorem hl_set (H:Nat→Int) {j:Nat} (hj:j < 60) (v:Int):(hl H).set j v=hl (fun i=>if i=j then v else H i):=by
 refine List.ext_getElem? (fun i=>?_)
 rw [List.getElem?_set]
 by_cases e:j=i
 ·subst e
  simp [hl,hj]
 ·rw [if_neg e]
  unfold hl
  by_cases hi:i < 60
  ·simp [hi,Ne.symm e]
  ·simp [hi]

theorem Gs.opn {G:Geo} {E:Nat→Bool} {X X':Grp} {C:Cac} {L:Lg} {D:Dev} (h:Gs G E X C L D) (e:X'.Q=X.Q):Gs G E X' C L D :=
 ⟨h.su,h.cl,h.hm,h.c1,h.pn,by rw [e]; exact h.xq,h.lq,by rw [e]; exact h.ne⟩

theorem gval_opn {X X':Grp} {C:Cac} {L:Lg} {D:Dev} (e:X'.Q=X.Q) (j:Nat):gval X' C L D j=gval X C L D j:=by
 unfold gval
 rw [e]

theorem Gs.seq {X:Grp} {C:Cac} {L:Lg} {D:Dev} (h:Gs sG ev X C L D) {i:Nat} (hq:L.h.seq ≤ i) (hi:i ≤ 4000):L.h.seq + sG.parts (pendL sG X.Q).length ≤ 4294967295:=by
 have:=h.ne
 have e:sG.lg=9:=rfl
 unfold Geo.uses at this
 omega

structure NN (N:Nat→Option Nt) (H H2:Nat→Int) (n:Nat):Prop where
 kk:∀ b t,N b=some t→16 ≤ b∧b < 60∧t.z=fl (H2 b)∧(t.k=1∧ev b=true ∨ t.k=2∧ev b=false)
 nn:∀ b,N b=none→H2 b=H b
 cc:(lstX (isK N 1) 60).length ≤ n
 bb:∀ j,0 ≤ H2 j∧H2 j ≤ 255

theorem NN.nk {N:Nat→Option Nt} {H H2:Nat→Int} {k:Nat} (h:NN N H H2 k) (hk:k ≤ 4):Nk sG ev N:=by
 refine ⟨fun b t e=>?_,?_⟩
 ·obtain ⟨h1,h2,_,h4⟩:=h.kk b t e
  exact ⟨by show 11 ≤ b; omega,h2,h4⟩
 ·have:=h.cc
  have hc:(lstX (isK N 1) sG.n).length ≤ 4:=by show (lstX (isK N 1) 60).length ≤ 4; omega
  generalize (lstX (isK N 1) sG.n).length=m at *
  have:∀ m:Fin 5,sG.uses m.val ≤ sG.lg:=by decide
  exact this ⟨m,by omega⟩

theorem NN.note {N:Nat→Option Nt} {H H2:Nat→Int} {k:Nat} (h:NN N H H2 k) {b:Nat} (hb:16 ≤ b∧b < 60) {v:Int} (hv:0 ≤ v∧v ≤ 255) {t:Nat} (ht:t=1∧ev b=true ∨ t=2∧ev b=false):NN (noteN N b ⟨t,fl v⟩) H (fun i=>if i=b then v else H2 i) (k + 1):=by
 refine ⟨fun c x e=>?_,fun c e=>?_,?_,fun j=>?_⟩
 ·unfold noteN at e
  by_cases ec:c=b
  ·rw [if_pos ec] at e
   cases e
   subst ec
   exact ⟨hb.1,hb.2,by simp,ht⟩
  ·rw [if_neg ec] at e
   obtain ⟨h1,h2,h3,h4⟩:=h.kk c x e
   exact ⟨h1,h2,by simp only [if_neg ec]; exact h3,h4⟩
 ·unfold noteN at e
  by_cases ec:c=b
  ·rw [if_pos ec] at e; cases e
  ·rw [if_neg ec] at e
   simp only [if_neg ec]
   exact h.nn c e
 ·have e1:isK (noteN N b ⟨t,fl v⟩) 1=fun j=>if j=b then (t == 1) else isK N 1 j:=by
   funext j
   unfold isK noteN
   by_cases ej:j=b
   ·simp [ej]
   ·simp [ej]
  rw [e1]
  have hu:=cnt_upd (isK N 1) b (t == 1) 60 hb.2
  have hc:=h.cc
  have e2:(lstX (isK N 1) 60).length=cnt (isK N 1) 60:=rfl
  have e3:(lstX (fun j=>if j=b then (t == 1) else isK N 1 j) 60).length=cnt (fun j=>if j=b then (t == 1) else isK N 1 j) 60:=rfl
  have:(if (t == 1)=true then 1 else 0) ≤ 1:=by split <;> omega
  omega
 ·show 0 ≤ (if j=b then v else H2 j)∧(if j=b then v else H2 j) ≤ 255
  by_cases ej:j=b
  ·rw [if_pos ej]; exact hv
  ·rw [if_neg ej]; exact h.bb j

end Go.Proofs.YtdfanhjnkjdngaaGreatDoor

