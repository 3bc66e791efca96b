/- Joined: SStepL, SStepO, SStepR, SStepS, SStepW. -/
import Derived.Test.YtknmgefpjdfenaaGreatSfJ50
import Derived.Test.YtknmgefpjdfenaaGreatSfJ40
import Derived.Test.YtknmgefpjdfenaaGreatSfJ49
import Derived.Deep.RegionHeld3
import Derived.Test.YtknmgefpjdfenaaGreatSfJ35
import Derived.Test.YtknmgefpjdfenaaGreatSfJ39
/- The law's step: List. -/
namespace Go.Proofs.YtknmgefpjdfenaaGreat
set_option maxRecDepth 100000
set_option maxHeartbeats 8000000
open Go.RowKit Go.Shelf Go.Maps
set_option linter.unusedVariables false

def en3 (e:List UInt8 × Int × Int):List Value:=[.string (St e.1),.int .i64 e.2.1,.int .i64 e.2.2]

def EnH (w:World) (v:Value) (es:List (List UInt8 × Int × Int)):Prop :=
 ∃ a c,v=.slice a es.length c∧∀ k e,es[k]?=some e→∃ b,a=some ⟨b,0,none⟩∧w.cell? ⟨b,k * 3,none⟩=some (.string (St e.1))∧w.cell? ⟨b,k * 3 + 1,none⟩=some (.int .i64 e.2.1)∧w.cell? ⟨b,k * 3 + 2,none⟩=some (.int .i64 e.2.2)

theorem en3_get:∀ (es:List (List UInt8 × Int × Int)) (k j:Nat) (e:List UInt8 × Int × Int),es[k]?=some e→j < 3→(es.flatMap en3)[k * 3 + j]?=(en3 e)[j]?
 | [],k,j,e,h,hj=>by cases h
 | a :: r,0,j,e,h,hj=>by
  simp at h
  subst h
  rw [List.flatMap_cons,Nat.zero_mul,Nat.zero_add,List.getElem?_append_left (by unfold en3; simpa using hj)]
 | a :: r,k + 1,j,e,h,hj=>by
  rw [List.flatMap_cons,List.getElem?_append_right (by unfold en3; simp; omega)]
  have:(k + 1) * 3 + j - (en3 a).length=k * 3 + j:=by unfold en3; simp; omega
  rw [this]
  exact en3_get r k j e (by simpa using h) hj

theorem EnH.of {B:Nat} {w:World} {v:Value} {es:List (List UInt8 × Int × Int)} (h:w.ownsRow B 107 3 v es.length (es.flatMap en3)):EnH w v es:=by
 rcases h.2 with ⟨rfl,e⟩ | ⟨g,cap,cur,rfl,hg,hh,_,_,_,ht⟩
 ·have:es=[]:=by
   cases es with
   | nil=>rfl
   | cons a r=>simp at e
  subst this
  exact ⟨none,0,rfl,fun k e he=>by cases he⟩
 ·refine ⟨_,cap,rfl,fun k e he=>⟨g,rfl,?_⟩⟩
  have hkl:k < es.length:=(List.getElem?_eq_some_iff.1 he).1
  have hc:∀ j,j < 3→w.cell? ⟨g,k * 3 + j,none⟩=(en3 e)[j]?:=fun j hj=>by
   have q:=en3_get es k j e he hj
   simp only [World.cell?,hh]
   rw [← q,← ht]
   rw [List.getElem?_take_of_lt (by omega)]
   simp
  exact ⟨hc 0 (by omega),hc 1 (by omega),hc 2 (by omega)⟩

theorem EnH.call {w w':World} {v:Value} {es:List (List UInt8 × Int × Int)} (h:EnH w v es) (hb:Below w.heap.size w w'):EnH w' v es:=by
 obtain ⟨a,c,e,hc⟩:=h
 refine ⟨a,c,e,fun k x hx=>?_⟩
 obtain ⟨b,e1,c0,c1,c2⟩:=hc k x hx
 exact ⟨b,e1,(hb.cell (p:=⟨b,k * 3,none⟩) (cell_block_lt c0)).trans c0,(hb.cell (p:=⟨b,k * 3 + 1,none⟩) (cell_block_lt c1)).trans c1,(hb.cell (p:=⟨b,k * 3 + 2,none⟩) (cell_block_lt c2)).trans c2⟩

theorem same_entries {w:World} {v1 v2:Value} {es:List (List UInt8 × Int × Int)} (h1:EnH w v1 es) (h2:EnH w v2 es) (hn:es.length ≤ 1800000000000) :
  Calls Tryz.prog 35 #[v1,v2] w fun e w'=>e=.returned (.bool true)∧Below w.heap.size w w':=by
 obtain ⟨a1,c1,rfl,e1⟩:=h1
 obtain ⟨a2,c2,rfl,e2⟩:=h2
 have H1:=hide e1
 have H2:=hide e2
 clear e1 e2
 have HB:Hid (Below w.heap.size w w):=Below.refl _ _
 generalize hl:es.length=n at *
 have HL:=hide hl
 clear hl
 go_enter Tryz.func35,Tryz.ntmps35
 go_wp2_with fail
 go_loopw [5] (fun iv wr=>∃ (k m:Nat),k ≤ n∧iv=.int .i64 (k:Int)∧wr=w.drewN m) (fun iv _=>n - (intOf iv).toNat)
 case atStart=>exact ⟨0,0,Nat.zero_le _,rfl,rfl⟩
 case round =>
  obtain ⟨k,m,hk,rfl,hwr⟩:=hrel
  subst hwr
  by_cases hlt:k < n
  ·have l0:(0:Int) ≤ (k:Int):=by omega
   have l1:(k:Int) < (n:Int):=by omega
   obtain ⟨e,he⟩:∃ e,es[k]?=some e:=⟨_,List.getElem?_eq_getElem (by have:=HL.out; omega)⟩
   obtain ⟨b1,rfl,x0,x1,x2⟩:=H1.out k e he
   obtain ⟨b2,rfl,y0,y1,y2⟩:=H2.out k e he
   clear he
   generalize St e.1=se at *
   generalize e.2.1=ek at *
   generalize e.2.2=en at *
   go_upto_region 6 with fail
   go_quiet (fail)
   go_wp2_with fail
   go_roundw
   case rel=>exact ⟨k + 1,_,by omega,by go_num,rfl⟩
   case measure=>simp [intOf]; omega
  ·obtain rfl:k=n:=by omega
   have d9:decide ((k:Int) < (k:Int))=false:=by simp
   have HR:Hid (Below w.heap.size w (w.drewN m)):=below_drewN (Below.refl _ _) m
   go_wp2_with fail
   go_ret
   exact ⟨rfl,HR.out⟩

def enT (s:Tr) (e:List UInt8 × Nat):List UInt8 × Int × Int:=match s.T e.2 with
 | some t=>(e.1,t.k,(t.n:Int))
 | none=>(e.1,0,0)

theorem enT_ecs (s:Tr) (e:List UInt8 × Nat):(ecs s e).toList=en3 (enT s e):=by
 unfold ecs enT
 cases s.T e.2 <;> rfl

theorem enT_recs {s:Tr} {u:RTr} {r n:Nat} (h:Rel s u) (hw:Wf s r n) {e:List UInt8 × Nat} {t:Th} (ht:s.T e.2=some t):recs u (nmS s e)=en3 (enT s e):=by
 obtain ⟨x,hx,hk⟩:=h.thing hw ht
 unfold recs enT
 simp only [ht]
 show [Value.string (St e.1),.int .i64 (kiR u (nmb s e.2)),.int .i64 (nmb s e.2:Int)]=_
 rw [kiR_of hx,hk.k,nmb_of ht]
 rfl

theorem lists_any {w:World} {S R:Nat→Prop} {g h r k:Nat} {s:Tr} {u:RTr} (hT:TM w S g s) (hM:SM w R h u) (hG:Good s u r k) (hn:k ≤ 1700000000000) {p:List UInt8} (hpl:p.length ≤ 9223372036854775807) :
  ∃ (E:Int) (es:List (List UInt8 × Int × Int)),es.length ≤ 1800000000000∧(∀ v,Below w.heap.size w v→Calls Tryz.prog 17 #[.pointer (some ⟨g,0,none⟩),.string (St p)] v fun e w'=>∃ x,e=.returned (.tuple #[x,.int .i64 E])∧EnH w' x es∧Below v.heap.size v w') ∧
   ∀ v,Below w.heap.size w v→Calls Tryz.prog 34 #[.pointer (some ⟨h,0,none⟩),.string (St p)] v fun e w'=>∃ x,e=.returned (.tuple #[x,.int .i64 E])∧EnH w' x es∧Below v.heap.size v w':=by
 have hw:=hG.1.wo.wf
 have hr:=hG.2.2
 have hrs:=hr.rs hw hn
 have hnil:∀ w':World,EnH w' (.slice none 0 0) []:=fun w'=>⟨none,0,rfl,fun k e he=>by cases he⟩
 have bad:∀ E:Int,LstN s r p E→(((fdR u p).1=E∧E ≠ 0) ∨ ((fdR u p).1=0∧kiR u (fdR u p).2 ≠ 2∧E=13))→_:=fun E h1 h2=>(⟨E,[],by simp,fun v hv=>(tlist_no (hT.below hv) hw hpl h1).mono (by rintro e w' ⟨rfl,hb⟩; exact ⟨_,rfl,hnil w',hb⟩),fun v hv=>(rlist_no (hM.below hv) hrs hpl h2).mono (by rintro e w' ⟨rfl,hb⟩; exact ⟨_,rfl,hnil w',hb⟩)⟩ :
  ∃ (E:Int) (es:List (List UInt8 × Int × Int)),es.length ≤ 1800000000000∧(∀ v,Below w.heap.size w v→Calls Tryz.prog 17 #[.pointer (some ⟨g,0,none⟩),.string (St p)] v fun e w'=>∃ x,e=.returned (.tuple #[x,.int .i64 E])∧EnH w' x es∧Below v.heap.size v w') ∧
   ∀ v,Below w.heap.size w v→Calls Tryz.prog 34 #[.pointer (some ⟨h,0,none⟩),.string (St p)] v fun e w'=>∃ x,e=.returned (.tuple #[x,.int .i64 E])∧EnH w' x es∧Below v.heap.size v w')
 cases hs:spl p with
 | none=>exact bad 16 (.inl ⟨hs,rfl⟩) (.inl ⟨by unfold fdR; rw [hs],by decide⟩)
 | some ps =>
  rcases rel_find hr hw ps with ⟨c,t,q1,ht,q2⟩ | ⟨E,hE,q1,q2⟩
  ·have hf:fdR u p=(0,nmb s c):=by rw [fdR_of hs,q2]
   obtain ⟨x,hx,hk⟩:=hr.thing hw ht
   rcases hw.ok.kind c t ht with h1 | h2
   ·exact bad 13 (.inr ⟨ps,hs,.inr ⟨c,t,q1,ht,h1,rfl⟩⟩) (.inr ⟨by rw [hf],by rw [hf,kiR_of hx,hk.k,h1]; decide,rfl⟩)
   ·refine ⟨0,t.ns.map (enT s),by rw [List.length_map]; have:=hw.ns_le ht; omega,fun v hv=>?_,fun v hv=>?_⟩
    ·refine (list_ok (hT.below hv) hw.ok hs q1 ht h2 (by have:=hw.ns_le ht; omega) (fun e he=>(hw.liv c t ht e he).2)).mono ?_
     rintro e w' ⟨x,rfl,hEL,hb⟩
     refine ⟨x,rfl,EnH.of (B:=v.heap.size) ?_,hb⟩
     unfold EL at hEL
     rw [List.length_map,List.flatMap_map]
     have e1:t.ns.flatMap (fun e=>(ecs s e).toList)=t.ns.flatMap (fun a=>en3 (enT s a)):=by
      congr 1
      funext e
      exact enT_ecs s e
     rw [← e1]
     exact hEL
    ·refine (rlist_ok (hM.below hv) hrs hpl hf hx (by rw [hk.k,h2])).mono ?_
     rintro e w' ⟨x',ms,rfl,hpm,hsr,ho,hb⟩
     refine ⟨x',rfl,EnH.of (B:=v.heap.size) ?_,hb⟩
     rw [srt_eq hw ht hk hpm hsr] at ho
     unfold OwnE at ho
     rw [List.length_map] at ho ⊢
     rw [List.flatMap_map] at ho ⊢
     have e1:t.ns.flatMap (fun a=>recs u (nmS s a))=t.ns.flatMap (fun a=>en3 (enT s a)):=by
      simp only [List.flatMap]
      refine congrArg List.flatten (List.map_congr_left fun e he=>?_)
      obtain ⟨te,hte⟩:=(hw.liv c t ht e he).1
      exact enT_recs hr hw hte
     rw [← e1]
     exact ho
  ·have hf:fdR u p=(E,0):=by rw [fdR_of hs,q2]
   exact bad E (.inr ⟨ps,hs,.inl ⟨by rw [q1],by rw [q1],by omega⟩⟩) (.inl ⟨by rw [hf],by omega⟩)

theorem step_list {W w:World} {g h r k:Nat} (hJ:JW W g h r k w) (hn:k ≤ 1700000000000) (P:Nat→Int) (o:OpD) (hk:o.kind=8) (ha:o.a.length ≤ 9223372036854775807) :
  Calls Tryz.prog 10 #[.pointer (some ⟨g,0,none⟩),.pointer (some ⟨h,0,none⟩),PvN P,.agg o.v] w fun e w'=>e=.returned (.bool true)∧JW W g h r (k + 1) w':=by
 have HJ:=hide hJ
 obtain ⟨S,R,s,u,hT,hM,hd,hG,hlo,hbW⟩:=hJ
 have hb1:Below w.heap.size w (w.alloc (.cells (Pc P) 23)):=(Below.refl _ w).alloc (Nat.le_refl _) _
 have hb0:Below w.heap.size w ((w.alloc (.cells (Pc P) 23)).alloc (.cells o.v 36)):=hb1.alloc hb1.size _
 have hbl:=Bl.new (w.alloc (.cells (Pc P) 23)) o.v 36
 rw [show (w.alloc (.cells (Pc P) 23)).heap.size=w.heap.size + 1 by simp] at hbl
 obtain ⟨E,es,hel,k1,k2⟩:=lists_any hT hM hG hn ha
 have K1:=hide (k1 _ hb0)
 have K2:=hide k2
 have HB:=hide hb0
 have HL:=hide hbl
 clear hT hM hd hG hlo hbW hb1 hb0 ha k1 k2
 obtain ⟨kind,oa,ob,of,on,om,da,dl,dc,data⟩:=o
 unfold OpD.v at *
 simp only at *
 subst hk
 generalize St oa=sa at *
 generalize St ob=sb at *
 have c0:=hbl.cell 0 _ rfl
 have c1:=hbl.cell 1 _ rfl
 clear hbl
 go_enter Tryz.func10,Tryz.ntmps10
 go_upto_region 1 with fail
 change Code.wp _ _ _ _ ((w.alloc (.cells (Pc P) 23)).alloc (.cells #[.int .i64 8,.string sa,.string sb,.int .i64 of,.int .i64 on,.int .i64 om,.slice da dl dc] 36))
 generalize (w.alloc (.cells (Pc P) 23)).alloc (.cells #[.int .i64 8,.string sa,.string sb,.int .i64 of,.int .i64 on,.int .i64 om,.slice da dl dc] 36)=w0 at *
 go_wp2_with fail
 refine (unhide K1).mono ?_
 rintro e w1 ⟨x1,rfl,h1,hb⟩
 have HB1:=hide (HB.out.trans (hb.mono HB.out.size))
 have K2:=hide (K2.out w1 HB1.out)
 have H1:=hide h1
 have hL:=HL.out.call hb
 clear K1 h1 hb HB HL c0 c1
 have c1:=hL.cell 1 _ rfl
 clear hL
 go_wp2_with fail
 refine (unhide K2).mono ?_
 rintro e w2 ⟨x2,rfl,h2,hb⟩
 have KS:=hide (same_entries (H1.out.call hb) h2 hel)
 have hwb:=HB1.out.trans (hb.mono HB1.out.size)
 have HB2:=hide hwb
 clear K2 h2 hb H1 HB1 hwb c1
 go_wp2_with fail
 refine (unhide KS).mono ?_
 rintro e w3 ⟨rfl,hb⟩
 have HR:=hide (HJ.out.still (HB2.out.trans (hb.mono HB2.out.size)) (Nat.le_succ k))
 clear KS HB2 HJ hb
 go_wp2_with fail
 go_ret
 exact ⟨rfl,HR.out⟩

end Go.Proofs.YtknmgefpjdfenaaGreat

/- The law's step: Open. -/
namespace Go.Proofs.YtknmgefpjdfenaaGreat
set_option maxRecDepth 100000
set_option maxHeartbeats 8000000
open Go.RowKit Go.Shelf Go.Maps
set_option linter.unusedVariables false

theorem frH_of {s:Tr} {u:RTr} {r n:Nat} (h:Rel s u) (hw:Wf s r n) (hl:Low s):(∀ f,FreeH s f→frH u=some f)∧((∀ j,j < 16→∃ b,s.opn j=some b)→frH u=none):=by
 constructor
 ·rintro f ⟨h1,h2,h3⟩
  refine frH_some h1 ((h.of_none hw hl h1).2 h2) (fun j hj e=>?_)
  have:=(h.of_none hw hl (by omega)).1 e
  obtain ⟨b,hb⟩:=h3 j hj
  rw [this] at hb
  cases hb
 ·intro h1
  refine frH_none (fun j hj e=>?_)
  have:=(h.of_none hw hl hj).1 e
  obtain ⟨b,hb⟩:=h1 j hj
  rw [this] at hb
  cases hb

theorem pair_open {w:World} {S R:Nat→Prop} {g h r k:Nat} {s:Tr} {u:RTr} (hT:TM w S g s) (hG:Good s u r k) (hn:k ≤ 1700000000000) {p:List UInt8} (hpl:p.length ≤ 9223372036854775807) :
  Calls Tryz.prog 18 #[.pointer (some ⟨g,0,none⟩),.string (St p)] w fun e w1=>∃ (f E:Int) (s':Tr),e=.returned (.tuple #[.int .i64 f,.int .i64 E])∧TM w1 (Up S w.heap.size w1.heap.size) g s'∧Kp S w w1 ∧
   ∀ v,SM v R h u→Calls Tryz.prog 36 #[.pointer (some ⟨h,0,none⟩),.string (St p)] v fun e w2=>∃ u',e=.returned (.tuple #[.int .i64 f,.int .i64 E])∧SM w2 (Up R v.heap.size w2.heap.size) h u'∧Kp R v w2∧Good s' u' r (k + 1):=by
 have hw:=hG.1.wo.wf
 have hr:=hG.2.2
 have hrs:=hr.rs hw hn
 obtain ⟨f1,f2⟩:=frH_of hr hw hG.2.1.low
 refine (openE_any hT hw hpl).mono ?_
 rintro e w1 ⟨f,E,s',rfl,h1,h2,hc⟩
 refine ⟨f,E,s',rfl,h1,h2,fun v hv=>?_⟩
 have up:∀ {w2:World} {u':RTr},SM w2 R h u'→Kp R v w2→SM w2 (Up R v.heap.size w2.heap.size) h u':=fun hM hkp=>hM.kept (fun _ _=>rfl) (fun k q=>.inl q) (fun k q=>q.elim (fun e=>hM.lt k e) (fun e=>e.2))
 refine (ropen_any hv hrs hpl).mono ?_
 rintro e w2 ⟨rfl,hM,hkp⟩
 rcases hc with ⟨hE,rfl,hN,hss⟩ | ⟨rfl,j,ns,b,t,rfl,hF,hs,hg,ht,hk1,rfl⟩
 ·obtain rfl:=hss.symm
  have hop:opR u p=(0,E,u):=by
   unfold opR
   rcases hN with ⟨hs,rfl⟩ | ⟨ps,hs,⟨g1,g2⟩ | ⟨x,tx,hg,hx,⟨hk2,rfl⟩ | ⟨hk1,hfull,rfl⟩⟩⟩
   ·have hf:fdR u p=(16,0):=by unfold fdR; rw [hs]
    rw [hf]
    exact if_pos (by decide)
   ·have hf:fdR u p=(E,0):=by rw [fdR_of hs,(find_no hr hw g1).1,g2]
    rw [hf]
    exact if_pos hE
   ·have hf:fdR u p=(0,nmb s x):=by rw [fdR_of hs]; exact find_yes hr hw hg
    obtain ⟨xx,hxx,hkx⟩:=hr.thing hw hx
    rw [hf,if_neg (by simp),if_pos (by rw [kiR_of hxx,hkx.k,hk2])]
   ·have hf:fdR u p=(0,nmb s x):=by rw [fdR_of hs]; exact find_yes hr hw hg
    obtain ⟨xx,hxx,hkx⟩:=hr.thing hw hx
    rw [hf,if_neg (by simp),if_neg (by rw [kiR_of hxx,hkx.k,hk1]; decide),opL_none _ (f2 hfull)]
  rw [hop] at hM ⊢
  exact ⟨u,rfl,up hM hkp,hkp,hG.mono (Nat.le_succ _)⟩
 ·have hf:fdR u p=(0,nmb s b):=by rw [fdR_of hs]; exact find_yes hr hw hg
  obtain ⟨xx,hxx,hkx⟩:=hr.thing hw ht
  have hop:opR u p=(j,0,u.opened j (nmb s b)):=by
   unfold opR
   rw [hf,if_neg (by simp),if_neg (by rw [kiR_of hxx,hkx.k,hk1]; decide),opL_some _ (f1 j hF)]
  rw [hop] at hM ⊢
  exact ⟨_,rfl,up hM hkp,hkp,hG.opened hF.1 (o:=some b) (fun c e=>by cases e; exact ⟨t,ht,hk1⟩)⟩

theorem step_open {W w:World} {g h r k:Nat} (hJ:JW W g h r k w) (hn:k ≤ 1700000000000) (P:Nat→Int) (o:OpD) (hk:o.kind=9) (ha:o.a.length ≤ 9223372036854775807) :
  Calls Tryz.prog 10 #[.pointer (some ⟨g,0,none⟩),.pointer (some ⟨h,0,none⟩),PvN P,.agg o.v] w fun e w'=>e=.returned (.bool true)∧JW W g h r (k + 1) w':=by
 obtain ⟨S,R,s,u,hT,hM,hd,hG,hlo,hbW⟩:=hJ
 have hb1:Below w.heap.size w (w.alloc (.cells (Pc P) 23)):=(Below.refl _ w).alloc (Nat.le_refl _) _
 have hb0:Below w.heap.size w ((w.alloc (.cells (Pc P) 23)).alloc (.cells o.v 36)):=hb1.alloc hb1.size _
 have hbl:=Bl.new (w.alloc (.cells (Pc P) 23)) o.v 36
 rw [show (w.alloc (.cells (Pc P) 23)).heap.size=w.heap.size + 1 by simp] at hbl
 have hT0:=hT.below hb0
 have hM0:=hM.below hb0
 have hbW0:=hbW.trans (hb0.mono hbW.size)
 have K1:=hide (pair_open (R:=R) (h:=h) (u:=u) hT0 hG hn ha)
 have HJ:Hid (∀ w1 w2 s' u',TM w1 (Up S ((w.alloc (.cells (Pc P) 23)).alloc (.cells o.v 36)).heap.size w1.heap.size) g s'→Kp S ((w.alloc (.cells (Pc P) 23)).alloc (.cells o.v 36)) w1→SM w2 (Up R w1.heap.size w2.heap.size) h u'→Kp R w1 w2→Good s' u' r (k + 1)→JW W g h r (k + 1) w2):=fun w1 w2 s' u' a1 a2 a3 a4 a5=>JW.pair hT0 hM0 hd hlo hbW0 a1 a2 a3 a4 a5
 have HMk:Hid (∀ w1,Kp S ((w.alloc (.cells (Pc P) 23)).alloc (.cells o.v 36)) w1→SM w1 R h u∧Bl w1 (w.heap.size + 1) o.v 36):=fun w1 hk=>⟨hM0.kp hk (fun j q q2=>hd j q2 q),(hk.block _ hbl.lt (fun q=>by have:=hT.lt _ q; omega)).trans hbl⟩
 clear hT hM hd hG hlo hbW hb1 hb0 hT0 hM0 hbW0 ha
 obtain ⟨kind,oa,ob,of,on,om,da,dl,dc,data⟩:=o
 unfold OpD.v at *
 simp only at *
 subst hk
 generalize St oa=sa at *
 generalize St ob=sb at *
 have c0:=hbl.cell 0 _ rfl
 have c1:=hbl.cell 1 _ rfl
 clear hbl
 go_enter Tryz.func10,Tryz.ntmps10
 go_upto_region 1 with fail
 change Code.wp _ _ _ _ ((w.alloc (.cells (Pc P) 23)).alloc (.cells #[.int .i64 9,.string sa,.string sb,.int .i64 of,.int .i64 on,.int .i64 om,.slice da dl dc] 36))
 generalize (w.alloc (.cells (Pc P) 23)).alloc (.cells #[.int .i64 9,.string sa,.string sb,.int .i64 of,.int .i64 on,.int .i64 om,.slice da dl dc] 36)=w0 at *
 go_wp2_with fail
 refine (unhide K1).mono ?_
 rintro e w1 ⟨f,E,s',rfl,q1,q2,q3⟩
 obtain ⟨hMw,hbl⟩:=HMk.out w1 q2
 have K2:=hide (q3 w1 hMw)
 have HQ:=hide (And.intro q1 q2)
 clear K1 HMk q1 q2 q3 hMw c0 c1
 have c0:=hbl.cell 0 _ rfl
 have c1:=hbl.cell 1 _ rfl
 clear hbl
 go_wp2_with fail
 refine (unhide K2).mono ?_
 rintro e w2 ⟨u',rfl,z1,z2,z3⟩
 have HR:=hide (HJ.out w1 w2 s' u' HQ.out.1 HQ.out.2 z1 z2 z3)
 clear K2 HJ HQ z1 z2 z3 c0 c1
 go_wp2_with fail
 go_ret
 exact ⟨rfl,HR.out⟩

end Go.Proofs.YtknmgefpjdfenaaGreat

/- The law's step: calls that answer an error alone. -/
namespace Go.Proofs.YtknmgefpjdfenaaGreat
set_option maxRecDepth 100000
set_option maxHeartbeats 8000000
open Go.RowKit Go.Shelf Go.Maps
set_option linter.unusedVariables false

theorem step_rename {W w:World} {g h r k:Nat} (hJ:JW W g h r k w) (hn:k ≤ 1700000000000) (P:Nat→Int) (o:OpD) (hk:o.kind=4) (ha:o.a.length ≤ 9223372036854775807) (hb:o.b.length ≤ 9223372036854775807) :
  Calls Tryz.prog 10 #[.pointer (some ⟨g,0,none⟩),.pointer (some ⟨h,0,none⟩),PvN P,.agg o.v] w fun e w'=>e=.returned (.bool true)∧JW W g h r (k + 1) w':=by
 obtain ⟨S,R,s,u,hT,hM,hd,hG,hlo,hbW⟩:=hJ
 have hb1:Below w.heap.size w (w.alloc (.cells (Pc P) 23)):=(Below.refl _ w).alloc (Nat.le_refl _) _
 have hb0:Below w.heap.size w ((w.alloc (.cells (Pc P) 23)).alloc (.cells o.v 36)):=hb1.alloc hb1.size _
 have hbl:=Bl.new (w.alloc (.cells (Pc P) 23)) o.v 36
 rw [show (w.alloc (.cells (Pc P) 23)).heap.size=w.heap.size + 1 by simp] at hbl
 have hT0:=hT.below hb0
 have hM0:=hM.below hb0
 have hbW0:=hbW.trans (hb0.mono hbW.size)
 have K1:=hide (pair_rename (R:=R) (h:=h) (u:=u) hT0 hG hn ha hb)
 have HJ:Hid (∀ w1 w2 s' u',TM w1 (Up S ((w.alloc (.cells (Pc P) 23)).alloc (.cells o.v 36)).heap.size w1.heap.size) g s'→Kp S ((w.alloc (.cells (Pc P) 23)).alloc (.cells o.v 36)) w1→SM w2 (Up R w1.heap.size w2.heap.size) h u'→Kp R w1 w2→Good s' u' r (k + 1)→JW W g h r (k + 1) w2):=fun w1 w2 s' u' a1 a2 a3 a4 a5=>JW.pair hT0 hM0 hd hlo hbW0 a1 a2 a3 a4 a5
 have HMk:Hid (∀ w1,Kp S ((w.alloc (.cells (Pc P) 23)).alloc (.cells o.v 36)) w1→SM w1 R h u∧Bl w1 (w.heap.size + 1) o.v 36):=fun w1 hk=>⟨hM0.kp hk (fun j q q2=>hd j q2 q),(hk.block _ hbl.lt (fun q=>by have:=hT.lt _ q; omega)).trans hbl⟩
 clear hT hM hd hG hlo hbW hb1 hb0 hT0 hM0 hbW0 ha hb
 obtain ⟨kind,oa,ob,of,on,om,da,dl,dc,data⟩:=o
 unfold OpD.v at *
 simp only at *
 subst hk
 generalize St oa=sa at *
 generalize St ob=sb at *
 have c0:=hbl.cell 0 _ rfl
 have c1:=hbl.cell 1 _ rfl
 have c2:=hbl.cell 2 _ rfl
 have c3:=hbl.cell 3 _ rfl
 have c4:=hbl.cell 4 _ rfl
 have c5:=hbl.cell 5 _ rfl
 have c6:=hbl.cell 6 _ rfl
 clear hbl
 go_enter Tryz.func10,Tryz.ntmps10
 go_upto_region 1 with fail
 change Code.wp _ _ _ _ ((w.alloc (.cells (Pc P) 23)).alloc (.cells #[.int .i64 4,.string sa,.string sb,.int .i64 of,.int .i64 on,.int .i64 om,.slice da dl dc] 36))
 generalize (w.alloc (.cells (Pc P) 23)).alloc (.cells #[.int .i64 4,.string sa,.string sb,.int .i64 of,.int .i64 on,.int .i64 om,.slice da dl dc] 36)=w0 at *
 go_wp2_with fail
 refine (unhide K1).mono ?_
 rintro e w1 ⟨E,s',rfl,q1,q2,q3⟩
 obtain ⟨hMw,hbl⟩:=(HMk.out w1 q2)
 have K2:=hide (q3 w1 hMw)
 have HQ:=hide (And.intro q1 q2)
 clear K1 HMk q1 q2 q3 hMw c0 c1 c2 c3 c4 c5 c6
 have c0:=hbl.cell 0 _ rfl
 have c1:=hbl.cell 1 _ rfl
 have c2:=hbl.cell 2 _ rfl
 have c3:=hbl.cell 3 _ rfl
 have c4:=hbl.cell 4 _ rfl
 have c5:=hbl.cell 5 _ rfl
 have c6:=hbl.cell 6 _ rfl
 clear hbl
 go_wp2_with fail
 refine (unhide K2).mono ?_
 rintro e w2 ⟨u',rfl,z1,z2,z3⟩
 have HR:=hide (HJ.out w1 w2 s' u' HQ.out.1 HQ.out.2 z1 z2 z3)
 clear K2 HJ HQ z1 z2 z3 c0 c1 c2 c3 c4 c5 c6
 go_wp2_with fail
 go_ret
 exact ⟨rfl,HR.out⟩

end Go.Proofs.YtknmgefpjdfenaaGreat

/- The law's step: Stat. -/
namespace Go.Proofs.YtknmgefpjdfenaaGreat
set_option maxRecDepth 100000
set_option maxHeartbeats 8000000
open Go.RowKit Go.Shelf Go.Maps
set_option linter.unusedVariables false

theorem st_eq {s:Tr} {u:RTr} {r k:Nat} (hG:Good s u r k) (hn:k ≤ 1700000000000) (p:List UInt8):stR u p=stA s r p:=by
 have hw:=hG.1.wo.wf
 have hr:=hG.2.2
 unfold stR stA
 cases hs:spl p with
 | none =>
  have hf:fdR u p=(16,0):=by unfold fdR; rw [hs]
  rw [hf]
  exact if_pos (by decide)
 | some ps =>
  simp only
  rcases rel_find hr hw ps with ⟨c,t,q1,ht,q2⟩ | ⟨E,hE,q1,q2⟩
  ·have hf:fdR u p=(0,nmb s c):=by rw [fdR_of hs,q2]
   obtain ⟨x,hx,hk⟩:=hr.thing hw ht
   simp only [hf,q1,ht,hx]
   rw [if_neg (by simp),hr.stat hw hG.2.1.rl ht hk]
  ·have hf:fdR u p=(E,0):=by rw [fdR_of hs,q2]
   simp only [hf,q1]
   rw [if_pos (by omega)]

theorem st_agg (s:Tr) (r:Nat) (p:List UInt8):∃ a b c d E,stA s r p=(.agg #[.int .i64 a,.int .i64 b,.int .i64 c,.int .i64 d],E):=by
 unfold stA
 split
 ·exact ⟨0,0,0,0,16,rfl⟩
 ·split
  ·exact ⟨0,0,0,0,_,rfl⟩
  ·split
   ·exact ⟨0,0,0,0,0,rfl⟩
   ·exact ⟨_,_,_,_,0,rfl⟩

theorem small_th {s:Tr} {u:RTr} {r n:Nat} (h:Rel s u) (hw:Wf s r n) (i:Nat) (x:RT) (hx:u.th[i]?=some x):x.d.length ≤ 1800000000000:=by
 have hi:i < s.row.length:=by rw [← h.len]; exact (List.getElem?_eq_some_iff.1 hx).1
 cases ho:s.row[i] with
 | none =>
  obtain ⟨y,hy,_,e,_⟩:=h.no i (by rw [List.getElem?_eq_getElem hi,ho])
  rw [hx] at hy
  cases hy
  rw [e]
  simp
 | some b =>
  have hr:s.row[i]?=some (some b):=by rw [List.getElem?_eq_getElem hi,ho]
  obtain ⟨t,ht,_⟩:=hw.row i b hr
  obtain ⟨y,hy,hk⟩:=h.yes i b t hr ht
  rw [hx] at hy
  cases hy
  have:=hw.siz b t ht
  have:=hw.mst
  rw [hk.d]
  omega

theorem step_stat {W w:World} {g h r k:Nat} (hJ:JW W g h r k w) (hn:k ≤ 1700000000000) (P:Nat→Int) (o:OpD) (hk:o.kind=7) (ha:o.a.length ≤ 9223372036854775807) :
  Calls Tryz.prog 10 #[.pointer (some ⟨g,0,none⟩),.pointer (some ⟨h,0,none⟩),PvN P,.agg o.v] w fun e w'=>e=.returned (.bool true)∧JW W g h r (k + 1) w':=by
 have HJ:=hide hJ
 obtain ⟨S,R,s,u,hT,hM,hd,hG,hlo,hbW⟩:=hJ
 have hb1:Below w.heap.size w (w.alloc (.cells (Pc P) 23)):=(Below.refl _ w).alloc (Nat.le_refl _) _
 have hb0:Below w.heap.size w ((w.alloc (.cells (Pc P) 23)).alloc (.cells o.v 36)):=hb1.alloc hb1.size _
 have hbl:=Bl.new (w.alloc (.cells (Pc P) 23)) o.v 36
 rw [show (w.alloc (.cells (Pc P) 23)).heap.size=w.heap.size + 1 by simp] at hbl
 have hT0:=hT.below hb0
 have hM0:=hM.below hb0
 have hw:=hG.1.wo.wf
 have hr:=hG.2.2
 obtain ⟨a,b,c,d,E,hst⟩:=st_agg s r o.a
 have k1:=stat_any hT0 hw hn (p:=o.a) ha
 rw [hst] at k1
 have K1:=hide k1
 have K2:Hid (∀ v,Below w.heap.size w v→Calls Tryz.prog 33 #[.pointer (some ⟨h,0,none⟩),.string (St o.a)] v fun e w'=>e=.returned (.tuple #[.agg #[.int .i64 a,.int .i64 b,.int .i64 c,.int .i64 d],.int .i64 E])∧Below v.heap.size v w'):=fun v hv=>by
  have:=rStat_any (hM.below hv) (hr.rs hw hn) (p:=o.a) ha (fun i=>links_le hr hw hn i) (small_th hr hw)
  rw [st_eq hG hn,hst] at this
  exact this
 have HB:=hide hb0
 have HL:=hide hbl
 have hml:=hbl.lt
 clear hT hM hd hG hlo hbW hb1 hb0 hT0 hM0 ha hw hr hst k1
 obtain ⟨kind,oa,ob,of,on,om,da,dl,dc,data⟩:=o
 unfold OpD.v at *
 simp only at *
 subst hk
 generalize St oa=sa at *
 generalize St ob=sb at *
 have c0:=hbl.cell 0 _ rfl
 have c1:=hbl.cell 1 _ rfl
 clear hbl
 go_enter Tryz.func10,Tryz.ntmps10
 go_upto_region 1 with fail
 change Code.wp _ _ _ _ ((w.alloc (.cells (Pc P) 23)).alloc (.cells #[.int .i64 7,.string sa,.string sb,.int .i64 of,.int .i64 on,.int .i64 om,.slice da dl dc] 36))
 generalize (w.alloc (.cells (Pc P) 23)).alloc (.cells #[.int .i64 7,.string sa,.string sb,.int .i64 of,.int .i64 on,.int .i64 om,.slice da dl dc] 36)=w0 at *
 go_wp2_with fail
 refine (unhide K1).mono ?_
 rintro e w1 ⟨rfl,hb⟩
 have hb2:Below w0.heap.size w0 (w1.alloc (.cells #[.int .i64 a,.int .i64 b,.int .i64 c,.int .i64 d] 46)):=hb.alloc hb.size _
 have hs1:=Bl.new w1 #[.int .i64 a,.int .i64 b,.int .i64 c,.int .i64 d] 46
 have hwb:=HB.out.trans (hb2.mono HB.out.size)
 have K2:=hide (K2.out _ hwb)
 have HB2:=hide hwb
 have hL2:=(HL.out.call hb2)
 have c1':=hL2.cell 1 _ rfl
 have HS1:=hide hs1
 go_upto_region 26 with fail
 change Code.wp _ _ _ _ (w1.alloc (.cells #[.int .i64 a,.int .i64 b,.int .i64 c,.int .i64 d] 46))
 clear K1 hb hb2 hwb hL2 c0 c1 HL hs1
 generalize w1.alloc (.cells #[.int .i64 a,.int .i64 b,.int .i64 c,.int .i64 d] 46)=w2 at *
 generalize w1.heap.size=m1 at *
 go_wp2_with fail
 refine (unhide K2).mono ?_
 rintro e w3 ⟨rfl,hb⟩
 have hb3:Below w2.heap.size w2 (w3.alloc (.cells #[.int .i64 a,.int .i64 b,.int .i64 c,.int .i64 d] 46)):=hb.alloc hb.size _
 have hs2:=Bl.new w3 #[.int .i64 a,.int .i64 b,.int .i64 c,.int .i64 d] 46
 have hs1:=HS1.out.call hb3
 have HR:=hide (HJ.out.still (HB2.out.trans (hb3.mono HB2.out.size)) (Nat.le_succ k))
 have x0:=hs1.cell 0 _ rfl
 have x1:=hs1.cell 1 _ rfl
 have x2:=hs1.cell 2 _ rfl
 have x3:=hs1.cell 3 _ rfl
 have y0:=hs2.cell 0 _ rfl
 have y1:=hs2.cell 1 _ rfl
 have y2:=hs2.cell 2 _ rfl
 have y3:=hs2.cell 3 _ rfl
 go_upto_region 27 with fail
 change Code.wp _ _ _ _ (w3.alloc (.cells #[.int .i64 a,.int .i64 b,.int .i64 c,.int .i64 d] 46))
 clear K2 hb hb3 hs1 hs2 HB2 HS1 HJ c1'
 generalize w3.alloc (.cells #[.int .i64 a,.int .i64 b,.int .i64 c,.int .i64 d] 46)=w4 at *
 generalize w3.heap.size=m2 at *
 go_wp2_with fail
 go_ret
 exact ⟨rfl,HR.out⟩

end Go.Proofs.YtknmgefpjdfenaaGreat

/- The law's step: calls that answer an error alone. -/
namespace Go.Proofs.YtknmgefpjdfenaaGreat
set_option maxRecDepth 100000
set_option maxHeartbeats 8000000
open Go.RowKit Go.Shelf Go.Maps
set_option linter.unusedVariables false

theorem step_write {W w:World} {g h r k:Nat} (hJ:JW W g h r k w) (hn:k ≤ 1700000000000) (P:Nat→Int) (o:OpD) (hk:o.kind=12) (ha:o.a.length ≤ 9223372036854775807) (hb:o.b.length ≤ 9223372036854775807)
  (hdat:Has W o.da o.dl o.data∧o.dl ≤ 140737488351232∧(0 < o.dl→∀ x,o.da=some x→x.block < W.heap.size)) :
  Calls Tryz.prog 10 #[.pointer (some ⟨g,0,none⟩),.pointer (some ⟨h,0,none⟩),PvN P,.agg o.v] w fun e w'=>e=.returned (.bool true)∧JW W g h r (k + 1) w':=by
 obtain ⟨S,R,s,u,hT,hM,hd,hG,hlo,hbW⟩:=hJ
 have hb1:Below w.heap.size w (w.alloc (.cells (Pc P) 23)):=(Below.refl _ w).alloc (Nat.le_refl _) _
 have hb0:Below w.heap.size w ((w.alloc (.cells (Pc P) 23)).alloc (.cells o.v 36)):=hb1.alloc hb1.size _
 have hbl:=Bl.new (w.alloc (.cells (Pc P) 23)) o.v 36
 rw [show (w.alloc (.cells (Pc P) 23)).heap.size=w.heap.size + 1 by simp] at hbl
 have hT0:=hT.below hb0
 have hM0:=hM.below hb0
 have hbW0:=hbW.trans (hb0.mono hbW.size)
 have hHas:∀ v,Below W.heap.size W v→Has v o.da o.dl o.data:=fun v hv=>by
  by_cases q:0 < o.dl
  ·exact hdat.1.keptW (fun x hx=>hv.block _ (hdat.2.2 q x hx))
  ·exact ⟨hdat.1.1,fun q2=>absurd q2 q⟩
 have hSd:0 < o.dl→∀ x,o.da=some x→¬ S x.block∧x.block < ((w.alloc (.cells (Pc P) 23)).alloc (.cells o.v 36)).heap.size:=fun q x hx=>by
  have:=hdat.2.2 q x hx
  exact ⟨fun hs=>by have:=hlo _ (.inl hs); omega,Nat.lt_of_lt_of_le this (Nat.le_trans hbW.size hb0.size)⟩
 have K1:=hide (pair_write (R:=R) (h:=h) (u:=u) hT0 hG hn hG.2.1.mo o.f o.n o.da o.dl o.dc o.data (hHas _ hbW0) hdat.2.1 hSd)
 have HJ:Hid (∀ w1 w2 s' u',TM w1 (Up S ((w.alloc (.cells (Pc P) 23)).alloc (.cells o.v 36)).heap.size w1.heap.size) g s'→Kp S ((w.alloc (.cells (Pc P) 23)).alloc (.cells o.v 36)) w1→SM w2 (Up R w1.heap.size w2.heap.size) h u'→Kp R w1 w2→Good s' u' r (k + 1)→JW W g h r (k + 1) w2):=fun w1 w2 s' u' a1 a2 a3 a4 a5=>JW.pair hT0 hM0 hd hlo hbW0 a1 a2 a3 a4 a5
 have HMk:Hid (∀ w1,Kp S ((w.alloc (.cells (Pc P) 23)).alloc (.cells o.v 36)) w1→SM w1 R h u∧Bl w1 (w.heap.size + 1) o.v 36∧Has w1 o.da o.dl o.data):=fun w1 hk=>⟨hM0.kp hk (fun j q q2=>hd j q2 q),(hk.block _ hbl.lt (fun q=>by have:=hT.lt _ q; omega)).trans hbl,hHas w1 (hbW0.trans (hk.below hbW0.size (fun j q=>hlo j (.inl q))))⟩
 clear hT hM hd hG hlo hbW hb1 hb0 hT0 hM0 hbW0 ha hb hdat hHas hSd
 obtain ⟨kind,oa,ob,of,on,om,da,dl,dc,data⟩:=o
 unfold OpD.v at *
 simp only at *
 subst hk
 generalize St oa=sa at *
 generalize St ob=sb at *
 have c0:=hbl.cell 0 _ rfl
 have c1:=hbl.cell 1 _ rfl
 have c2:=hbl.cell 2 _ rfl
 have c3:=hbl.cell 3 _ rfl
 have c4:=hbl.cell 4 _ rfl
 have c5:=hbl.cell 5 _ rfl
 have c6:=hbl.cell 6 _ rfl
 clear hbl
 go_enter Tryz.func10,Tryz.ntmps10
 go_upto_region 1 with fail
 change Code.wp _ _ _ _ ((w.alloc (.cells (Pc P) 23)).alloc (.cells #[.int .i64 12,.string sa,.string sb,.int .i64 of,.int .i64 on,.int .i64 om,.slice da dl dc] 36))
 generalize (w.alloc (.cells (Pc P) 23)).alloc (.cells #[.int .i64 12,.string sa,.string sb,.int .i64 of,.int .i64 on,.int .i64 om,.slice da dl dc] 36)=w0 at *
 go_wp2_with fail
 refine (unhide K1).mono ?_
 rintro e w1 ⟨E,s',rfl,q1,q2,q3⟩
 obtain ⟨hMw,hbl⟩:=(HMk.out w1 q2).imp id And.left
 have K2:=hide (q3 w1 hMw (HMk.out w1 q2).2.2)
 have HQ:=hide (And.intro q1 q2)
 clear K1 HMk q1 q2 q3 hMw c0 c1 c2 c3 c4 c5 c6
 have c0:=hbl.cell 0 _ rfl
 have c1:=hbl.cell 1 _ rfl
 have c2:=hbl.cell 2 _ rfl
 have c3:=hbl.cell 3 _ rfl
 have c4:=hbl.cell 4 _ rfl
 have c5:=hbl.cell 5 _ rfl
 have c6:=hbl.cell 6 _ rfl
 clear hbl
 go_wp2_with fail
 refine (unhide K2).mono ?_
 rintro e w2 ⟨u',rfl,z1,z2,z3⟩
 have HR:=hide (HJ.out w1 w2 s' u' HQ.out.1 HQ.out.2 z1 z2 z3)
 clear K2 HJ HQ z1 z2 z3 c0 c1 c2 c3 c4 c5 c6
 go_wp2_with fail
 go_ret
 exact ⟨rfl,HR.out⟩

end Go.Proofs.YtknmgefpjdfenaaGreat

