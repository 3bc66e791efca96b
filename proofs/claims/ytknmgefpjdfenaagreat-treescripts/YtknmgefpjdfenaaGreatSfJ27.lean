/- Joined: TStat, TNew, TWakes, TOpen, TRead. -/
import Derived.Test.YtknmgefpjdfenaaGreatSfJ26
import Derived.Test.YtknmgefpjdfenaaGreatSfCCell
import Derived.Deep.RegionHeld3
import Derived.Test.YtknmgefpjdfenaaGreatSfGClone
/- size, Stat, New. -/
namespace Go.Proofs.YtknmgefpjdfenaaGreat
set_option maxRecDepth 100000
set_option maxHeartbeats 8000000
open Go.RowKit Go.Shelf Go.Maps
set_option linter.unusedVariables false

def sizeT (t:Th):Int:=(t.d.length:Int) + 16 * (t.ns.length:Int)

def Small (t:Th):Prop:=t.d.length ≤ 1800000000000∧t.ns.length ≤ 1800000000000∧(t.k=2 ∨ t.ns=[])

theorem size_any {w:World} {S:Nat→Prop} {g b:Nat} {s:Tr} {t:Th} (h:TM w S g s) (ht:s.T b=some t) (hs:Small t) :
  Calls Tryz.prog 49 #[.pointer (some ⟨b,0,none⟩)] w fun e w'=>e=.returned (.int .i64 (sizeT t))∧∃ q,w'=w.drewN q:=by
 obtain ⟨_,_,_,c3,c4,_⟩:=h.thing_cells ht
 have hl:∀ q ty,(Builtin.len_ #[67] ty #[if t.k=2 then .map (some t.mp) else .map none]).run Tryz.prog (w.drewN q)=.ok (.int .i64 (t.ns.length:Int)) (w.drewN q):=by
  intro q ty
  by_cases h2:t.k=2
  ·rw [if_pos h2]
   exact MapS.len (u:=w.drewN q) ((h.map b t ht h2).kept rfl) ty
  ·rw [if_neg h2]
   have:t.ns=[]:=hs.2.2.resolve_left h2
   rw [this]
   exact Maps.len_nil undM ty
 obtain ⟨s1,s2,_⟩:=hs
 unfold sizeT
 clear h ht
 generalize (if t.k=2 then Value.map (some t.mp) else Value.map none)=mv at *
 generalize t.d.length=n at *
 generalize t.ns.length=m at *
 have e1:wrap64 (16 * (m:Int))=16 * (m:Int):=by unfold wrap64; omega
 have e2:wrap64 ((n:Int) + 16 * (m:Int))=(n:Int) + 16 * (m:Int):=by unfold wrap64; omega
 go_enter Tryz.func49,Tryz.ntmps49
 go_wp2_with fail
 go_quiet (fail)
 go_wp2_with fail
 go_ret
 exact ⟨by first | rfl | (congr 2) ,_,rfl⟩

def statV (t:Th):Value:=.agg #[.int .i64 t.k,.int .i64 (t.n:Int),.int .i64 t.l,.int .i64 (sizeT t)]

theorem stat_ok {w:World} {S:Nat→Prop} {g r b:Nat} {s:Tr} {t:Th} (h:TM w S g s) (hk:Ok s r) {p:List UInt8} {ns:List (List UInt8)} (hp:spl p=some ns) (hg:go s ns r=(0,some b)) (ht:s.T b=some t) (hs:Small t) :
  Calls Tryz.prog 15 #[.pointer (some ⟨g,0,none⟩),.string (St p)] w fun e w'=>e=.returned (.tuple #[statV t,.int .i64 0])∧Below w.heap.size w w':=by
 have hb0:Below w.heap.size w (w.alloc (.cells #[.int .i64 0,.int .i64 0,.int .i64 0,.int .i64 0] 46)):=(Below.refl _ w).alloc (Nat.le_refl _) _
 have hlt:w.heap.size < (w.alloc (.cells #[.int .i64 0,.int .i64 0,.int .i64 0,.int .i64 0] 46)).heap.size:=by simp
 have hbl:=Bl.new w #[.int .i64 0,.int .i64 0,.int .i64 0,.int .i64 0] 46
 have K:=refuses_one (p:=p) (h.below hb0) hk.row_ne (by have:=spl_len hp; omega) (Below.refl _ _)
 rw [splE_of hp] at K
 have KR:Hid (Calls Tryz.prog 52 #[.pointer (some ⟨g,0,none⟩),.slice (some ⟨w.heap.size + 1,0,none⟩) 1 1] ((w.alloc (.cells #[.int .i64 0,.int .i64 0,.int .i64 0,.int .i64 0] 46)).alloc (.cells #[.string (St p)] 9)) fun e w'=>e=.returned (.int .i64 0)∧Below (w.alloc (.cells #[.int .i64 0,.int .i64 0,.int .i64 0,.int .i64 0] 46)).heap.size (w.alloc (.cells #[.int .i64 0,.int .i64 0,.int .i64 0,.int .i64 0] 46)) w'):=by
  rw [show w.heap.size + 1=(w.alloc (.cells #[.int .i64 0,.int .i64 0,.int .i64 0,.int .i64 0] 46)).heap.size by simp]
  exact K
 have KF:Hid (∀ u,TM u S g s→Calls Tryz.prog 53 #[.pointer (some ⟨g,0,none⟩),.string (St p)] u fun e w'=>e=.returned (.tuple #[.pointer (some ⟨b,0,none⟩),.int .i64 0])∧Below u.heap.size u w'):=fun u hu=>by
  have:=find_any hu hk hp
  rw [hg] at this
  exact this
 have KS:Hid (∀ u,TM u S g s→Calls Tryz.prog 49 #[.pointer (some ⟨b,0,none⟩)] u fun e w'=>e=.returned (.int .i64 (sizeT t))∧∃ q,w'=u.drewN q):=fun u hu=>size_any hu ht hs
 have HT:=hide (h.below hb0)
 have HX:=hide ht
 have HB:=hide hb0
 have HL:=hide hbl
 clear h hk hp hg ht hs K hb0 hbl
 generalize St p=sp at *
 go_enter Tryz.func15,Tryz.ntmps15
 go_wp2_with fail
 generalize w.alloc (.cells #[.int .i64 0,.int .i64 0,.int .i64 0,.int .i64 0] 46)=w0 at *
 generalize hm:w.heap.size=m at *
 refine (unhide KR).mono ?_
 rintro e w1 ⟨rfl,hb⟩
 have HT:=hide (HT.out.below hb)
 have HB:=hide (HB.out.trans (hb.mono (Nat.le_of_lt hlt)))
 have HL:=hide (HL.out.call hb)
 have KF:=hide (KF.out w1 HT.out)
 clear KR hb hlt
 go_wp2_with fail
 refine (unhide KF).mono ?_
 rintro e w2 ⟨rfl,hb⟩
 have HT:=hide (HT.out.below hb)
 have HB:=hide (HB.out.trans (hb.mono (Nat.le_of_lt HL.out.lt)))
 have HL:=hide (HL.out.call hb)
 clear KF hb
 obtain ⟨t0,t1,t2,_,_,tf⟩:=HT.out.thing_cells HX.out
 have l0:=HL.out.cell 0 _ rfl
 have l1:=HL.out.cell 1 _ rfl
 have l2:=HL.out.cell 2 _ rfl
 have l3:=HL.out.cell 3 _ rfl
 have lf:=HL.out.free
 have hmb:b ≠ m:=fun e=>by
  have h1:=HT.out.thg b t HX.out
  rw [e] at h1
  exact row_neT h1 HL.out (by decide) rfl
 have KS:Hid (∀ q,Calls Tryz.prog 49 #[.pointer (some ⟨b,0,none⟩)] (w2.drewN q) fun e w'=>e=.returned (.int .i64 (sizeT t))∧∃ q',w'=(w2.drewN q).drewN q'):=fun q=>KS.out _ (HT.out.kept (fun _ _=>rfl) (fun _ h=>h) HT.out.lt)
 have KS0:Hid (Calls Tryz.prog 49 #[.pointer (some ⟨b,0,none⟩)] w2.drew fun e w'=>e=.returned (.int .i64 (sizeT t))∧∃ q',w'=w2.drewN q'):=by
  refine (KS.out 1).mono ?_
  rintro e w' ⟨rfl,q',rfl⟩
  exact ⟨rfl,1 + q',(World.drewN_drewN _ _ _)⟩
 clear HT HX KS
 have HV:Hid (statV t=.agg #[.int .i64 t.k,.int .i64 (t.n:Int),.int .i64 t.l,.int .i64 (sizeT t)]):=rfl
 generalize sizeT t=sz at *
 generalize t.k=tk at *
 generalize t.n=tn at *
 generalize t.l=tl at *
 have b0:∀ v:World,v.heap[b]?=w2.heap[b]?→Hid True∧v.cell? ⟨b,0,none⟩=some (.int .i64 tk)∧v.cell? ⟨b,1,none⟩=some (.int .i64 (tn:Int))∧v.cell? ⟨b,2,none⟩=some (.int .i64 tl):=fun v hv=>by
  simp only [World.cell?,hv]
  exact ⟨trivial,t0,t1,t2⟩
 have J:=b0 w2.drew rfl
 have J1:Hid (∀ q,Hid True∧(w2.drewN q).cell? ⟨b,0,none⟩=some (.int .i64 tk)∧(w2.drewN q).cell? ⟨b,1,none⟩=some (.int .i64 (tn:Int))∧(w2.drewN q).cell? ⟨b,2,none⟩=some (.int .i64 tl)):=fun q=>b0 _ rfl
 have J2:Hid (∀ q,Hid True∧(((((w2.drewN q).setCell ⟨m,0,none⟩ (.int .i64 tk)).setCell ⟨m,1,none⟩ (.int .i64 (tn:Int))).setCell ⟨m,2,none⟩ (.int .i64 tl)).setCell ⟨m,3,none⟩ (.int .i64 sz)).cell? ⟨b,0,none⟩=some (.int .i64 tk)∧(((((w2.drewN q).setCell ⟨m,0,none⟩ (.int .i64 tk)).setCell ⟨m,1,none⟩ (.int .i64 (tn:Int))).setCell ⟨m,2,none⟩ (.int .i64 tl)).setCell ⟨m,3,none⟩ (.int .i64 sz)).cell? ⟨b,1,none⟩=some (.int .i64 (tn:Int))∧(((((w2.drewN q).setCell ⟨m,0,none⟩ (.int .i64 tk)).setCell ⟨m,1,none⟩ (.int .i64 (tn:Int))).setCell ⟨m,2,none⟩ (.int .i64 tl)).setCell ⟨m,3,none⟩ (.int .i64 sz)).cell? ⟨b,2,none⟩=some (.int .i64 tl)):=fun q=>b0 _
  ((Below.heap_setCell _ _ _ _ hmb).trans ((Below.heap_setCell _ _ _ _ hmb).trans ((Below.heap_setCell _ _ _ _ hmb).trans (Below.heap_setCell _ _ _ _ hmb))))
 have HF:Hid (∀ q,Bl (((((w2.drewN q).setCell ⟨m,0,none⟩ (.int .i64 tk)).setCell ⟨m,1,none⟩ (.int .i64 (tn:Int))).setCell ⟨m,2,none⟩ (.int .i64 tl)).setCell ⟨m,3,none⟩ (.int .i64 sz)) m #[.int .i64 tk,.int .i64 (tn:Int),.int .i64 tl,.int .i64 sz] 46∧Below m w (((((w2.drewN q).setCell ⟨m,0,none⟩ (.int .i64 tk)).setCell ⟨m,1,none⟩ (.int .i64 (tn:Int))).setCell ⟨m,2,none⟩ (.int .i64 tl)).setCell ⟨m,3,none⟩ (.int .i64 sz))):=fun q =>
  ⟨setAll_whole [.int .i64 tk,.int .i64 (tn:Int),.int .i64 tl,.int .i64 sz] (w2.drewN q) _ (show Bl (w2.drewN q) m _ _ from HL.out) rfl,
   below_setAll (Nat.le_refl m) [.int .i64 tk,.int .i64 (tn:Int),.int .i64 tl,.int .i64 sz] w (w2.drewN q) 0 ⟨HB.out.os,HB.out.tape,HB.out.output,HB.out.size,HB.out.block⟩⟩
 clear b0
 go_upto_region 7 with fail
 go_region_held3 (fun v=>Hid True∧v.cell? ⟨b,0,none⟩=some (.int .i64 tk)∧v.cell? ⟨b,1,none⟩=some (.int .i64 (tn:Int))∧v.cell? ⟨b,2,none⟩=some (.int .i64 tl))
  (with_reducible (first | exact J | exact unhide J1 _ | exact unhide J2 _))
  (first | (go_at_call 49; refine (unhide KS0).mono ?_; rintro e w' ⟨rfl,q,rfl⟩))
 all_goals
  go_wp2_with fail
  obtain ⟨hA,hW⟩:=HF.out q
  change bodyPost _ _ _ _ _ (((((w2.drewN q).setCell ⟨m,0,none⟩ (.int .i64 tk)).setCell ⟨m,1,none⟩ (.int .i64 (tn:Int))).setCell ⟨m,2,none⟩ (.int .i64 tl)).setCell ⟨m,3,none⟩ (.int .i64 sz))
  generalize ((((w2.drewN q).setCell ⟨m,0,none⟩ (.int .i64 tk)).setCell ⟨m,1,none⟩ (.int .i64 (tn:Int))).setCell ⟨m,2,none⟩ (.int .i64 tl)).setCell ⟨m,3,none⟩ (.int .i64 sz)=wf at *
  refine bodyPost_ret (v:=.tuple #[.agg #[.int .i64 tk,.int .i64 (tn:Int),.int .i64 tl,.int .i64 sz],.int .i64 0]) ?_ rfl ⟨by rw [HV.out],?_⟩
  ·simp [results,Tryz.results15,go_sem,hA.cell 0 _ rfl,hA.cell 1 _ rfl,hA.cell 2 _ rfl,hA.cell 3 _ rfl]
  ·rw [hm]; exact hW

end Go.Proofs.YtknmgefpjdfenaaGreat

/- New. -/
namespace Go.Proofs.YtknmgefpjdfenaaGreat
set_option maxRecDepth 100000
set_option maxHeartbeats 8000000
open Go.RowKit Go.Shelf Go.Maps
set_option linter.unusedVariables false

theorem new_bad {n:Int} (hn:n < 1 ∨ 524288 < n) (w:World):Calls Tryz.prog 8 #[.int .i64 n] w fun e w'=>e=.returned (.tuple #[.pointer none,.int .i64 1])∧w'=w:=by
 by_cases h1:n < 1
 ·clear hn
  go_enter Tryz.func8,Tryz.ntmps8
  go_wp2_with fail
  go_ret2
  exact ⟨rfl,rfl⟩
 ·have h2:524288 < n:=hn.resolve_left h1
  clear hn
  go_enter Tryz.func8,Tryz.ntmps8
  go_wp2_with fail
  go_ret2
  exact ⟨rfl,rfl⟩

def rootT (mp:Nat):Th:={ k:=2,n:=1,l:=1,d:=[],da:=none,dc:=0,mp:=mp,ns:=[] }

def Tr0 (n:Int) (b mp:Nat) (ra:Option Addr) (rc:Nat):Tr :=
 { most:=n,row:=[none,some b],ra:=ra,rc:=rc,least:=1,opn:=fun _=>none,T:=fun k=>if k=b then some (rootT mp) else none }

def TrN (n:Int):Tr:={ most:=n,row:=[],ra:=none,rc:=0,least:=1,opn:=fun _=>none,T:=fun _=>none }

def tcs (n:Int):Array Value:=#[.int .i64 n,.slice none 0 0,.int .i64 1,.pointer none,.pointer none,.pointer none,.pointer none,.pointer none,.pointer none,.pointer none,.pointer none,.pointer none,.pointer none,.pointer none,.pointer none,.pointer none,.pointer none,.pointer none,.pointer none]

theorem tm_new (n:Int) (w:World):TM (w.alloc (.cells (tcs n) 66)) (fun k=>k=w.heap.size) w.heap.size (TrN n):=by
 refine ⟨World.rowIs_alloc w (tcs n) _ _ (fun i hi=>?_),OwnP.nil _ _,fun b t e=>(by cases e),fun b t e=>(by cases e),fun b t e=>(by cases e),fun b b' t t' e=>(by cases e),fun b b' t t' x e=>(by cases e),rfl,fun x e=>(by cases e),fun b t e=>(by cases e),fun b t e=>(by cases e),fun b t x e=>(by cases e),fun k hk=>by rw [hk]; simp⟩
 have hi':i < 19:=hi
 clear hi
 match i,hi' with
 | 0,_=>rfl
 | 1,_=>rfl
 | 2,_=>rfl
 | 3,_=>rfl
 | 4,_=>rfl
 | 5,_=>rfl
 | 6,_=>rfl
 | 7,_=>rfl
 | 8,_=>rfl
 | 9,_=>rfl
 | 10,_=>rfl
 | 11,_=>rfl
 | 12,_=>rfl
 | 13,_=>rfl
 | 14,_=>rfl
 | 15,_=>rfl
 | 16,_=>rfl
 | 17,_=>rfl
 | 18,_=>rfl
 | k + 19,h=>exact absurd h (by omega)

theorem ok_root (n:Int) (b mp:Nat) (ra:Option Addr) (rc:Nat):Ok (Tr0 n b mp ra rc) b:=by
 have hT:∀ c t,(Tr0 n b mp ra rc).T c=some t→c=b∧t=rootT mp:=fun c t e=>by
  unfold Tr0 at e
  simp only at e
  by_cases h:c=b
  ·rw [if_pos h] at e; cases e; exact ⟨h,rfl⟩
  ·rw [if_neg h] at e; cases e
 refine ⟨rfl,⟨rootT mp,if_pos rfl,rfl⟩,fun c t e=>?_,fun c t x d e hx=>?_⟩
 ·rw [(hT c t e).2]; exact .inr rfl
 ·rw [(hT c t e).2] at hx; cases hx

theorem new_ok {n:Int} (h1:1 ≤ n) (h2:n ≤ 524288) (w:World):Calls Tryz.prog 8 #[.int .i64 n] w fun e w'=>∃ g b mp ra rc S,e=.returned (.tuple #[.pointer (some ⟨g,0,none⟩),.int .i64 0])∧TM w' S g (Tr0 n b mp ra rc)∧(∀ k,S k→w.heap.size ≤ k)∧Below w.heap.size w w':=by
 have hb0:Below w.heap.size w (w.alloc (.cells (tcs n) 66)):=(Below.refl _ w).alloc (Nat.le_refl _) _
 have ht:=tm_new n w
 have K:Hid (Calls Tryz.prog 23 #[.pointer (some ⟨w.heap.size,0,none⟩),.int .i64 2] (w.alloc (.cells (tcs n) 66)) fun e w'=>BornP (w.alloc (.cells (tcs n) 66)) (fun k=>k=w.heap.size) w.heap.size 1 (TrN n) 2 e w') :=
  born_any ht ⟨Nat.le_refl _,fun i h1 h2=>by have h1':1 ≤ i:=h1; omega,.inl rfl⟩ (.inr rfl) (by omega) (by show 0 ≤ 1800000000000; omega)
 have HB:=hide hb0
 have d1:decide (n < 1)=false:=by simp; omega
 have d2:decide (n > 524288)=false:=by simp; omega
 clear hb0 ht h1 h2
 go_enter Tryz.func8,Tryz.ntmps8
 go_upto_region 4 with fail
 change Code.wp _ _ _ _ (w.alloc (.cells (tcs n) 66))
 generalize w.alloc (.cells (tcs n) 66)=w0 at *
 go_wp2_with fail
 refine (unhide K).mono ?_
 rintro e w1 ⟨b,mp,ra,rc,rfl,hb1,hb2,htm,hkp⟩
 have hb0:(({ TrN n with row:=(pad (TrN n).row 1).set 1 (some b),ra:=ra,rc:=rc,least:=1 }:Tr).upd b (newT 2 1 mp)).T b=some (newT 2 1 mp):=by rw [Tr.upd_T,if_pos rfl]
 have t2:w1.cell? ⟨b,2,none⟩=some (.int .i64 0):=(htm.thing_cells hb0).2.2.1
 have tf:=(htm.thing_cells hb0).2.2.2.2.2
 have h5:=htm.setH hb0 1
 rw [Tr.upd_upd] at h5
 have hsz:=HB.out.size
 have HR:Hid (TM (w1.setCell ⟨b,2,none⟩ (.int .i64 1)) (Up (fun k=>k=w.heap.size) w0.heap.size w1.heap.size) w.heap.size (Tr0 n b mp ra rc)∧(∀ k,(Up (fun k=>k=w.heap.size) w0.heap.size w1.heap.size) k→w.heap.size ≤ k)∧Below w.heap.size w (w1.setCell ⟨b,2,none⟩ (.int .i64 1))):=by
  refine ⟨h5,fun k hk=>?_,?_⟩
  ·rcases hk with q | q
   ·exact Nat.le_of_eq q.symm
   ·omega
  ·have hk1:Below w.heap.size w0 w1:=hkp.below hsz (fun k hk=>Nat.le_of_eq hk.symm)
   exact (HB.out.trans hk1).setCell (p:=⟨b,2,none⟩) (by show w.heap.size ≤ b; omega) _
 clear K htm hkp h5 hb0 hb1 hb2 hsz HB
 go_wp2_with fail
 go_ret2
 exact ⟨w.heap.size,b,mp,ra,rc,_,rfl,HR.out⟩

end Go.Proofs.YtknmgefpjdfenaaGreat

/- The fixed call of the laws. -/
namespace Go.Proofs.YtknmgefpjdfenaaGreat
set_option maxRecDepth 100000
set_option maxHeartbeats 8000000
open Go.RowKit Go.Shelf Go.Maps
set_option linter.unusedVariables false

theorem nmB_of' {x:List UInt8} (h:(decide (1 ≤ x.length) && decide (x.length ≤ 13) && !(x == [46]) && !(x == [46,46]) && (x.map (fun b=>(b.toNat:Int))).all inName)=true):nmB x=true:=by
 unfold nmB nameB byts
 rw [St_size,St_toList,data_St]
 exact h

theorem spl_d:spl [47,100]=some ([] ++ [[100]]):=by
 have h:okN [[100]]=true:=by
  rw [okN_iff]
  refine ⟨by decide,fun n hn=>?_,by decide⟩
  simp only [List.mem_cons,List.not_mem_nil,or_false] at hn
  subst hn
  exact nmB_of' (by decide)
 exact spl_jn h

theorem spl_da:spl [47,100,47,97]=some ([[100]] ++ [[97]]):=by
 have h:okN [[100],[97]]=true:=by
  rw [okN_iff]
  refine ⟨by decide,fun n hn=>?_,by decide⟩
  simp only [List.mem_cons,List.not_mem_nil,or_false] at hn
  rcases hn with rfl | rfl
  ·exact nmB_of' (by decide)
  ·exact nmB_of' (by decide)
 exact spl_jn h

theorem made_T {s:Tr} {f:Nat} {k:Int} {d:Nat} {t:Th} {z:List UInt8} {b mp:Nat} {ra:Option Addr} {rc:Nat} (c:Nat):(s.made f k d t z b mp ra rc).T c=if c=d then some { t with ns:=putN z b t.ns } else if c=b then some { newT k f mp with l:=1 } else s.T c:=rfl

theorem pad_get {row:List (Option Nat)} {f i:Nat} (o:Option Nat) (hi:i ≠ f) {x:Option Nat} (h:row[i]?=some x):((pad row f).set f o)[i]?=some x:=by
 rw [List.getElem?_set_ne (fun e=>hi e.symm)]
 unfold pad
 rw [List.getElem?_append_left (List.getElem?_eq_some_iff.1 h).1]
 exact h

theorem Ok.made {s:Tr} {r:Nat} (h:Ok s r) {f:Nat} {k:Int} {d:Nat} {t:Th} {z:List UInt8} {b mp:Nat} {ra:Option Addr} {rc:Nat} (hf:Free s f) (hk:k=1 ∨ k=2) (ht:s.T d=some t) (h2:t.k=2) (hb:s.T b=none):Ok (s.made f k d t z b mp ra rc) r:=by
 have hbd:b ≠ d:=fun e=>by rw [e,ht] at hb; cases hb
 have hlive:∀ c,(∃ t',s.T c=some t')→∃ t',(s.made f k d t z b mp ra rc).T c=some t':=fun c ⟨t',e⟩=>by
  rw [made_T]
  by_cases h1:c=d
  ·rw [if_pos h1]; exact ⟨_,rfl⟩
  ·rw [if_neg h1]
   by_cases h3:c=b
   ·rw [if_pos h3]; exact ⟨_,rfl⟩
   ·rw [if_neg h3]; exact ⟨t',e⟩
 have hbl:∃ t',(s.made f k d t z b mp ra rc).T b=some t':=by
  rw [made_T,if_neg hbd,if_pos rfl]; exact ⟨_,rfl⟩
 refine ⟨?_,?_,fun c u e=>?_,fun c u x j e hx=>?_⟩
 ·refine pad_get _ (fun e=>?_) h.root
  rcases hf.free with q | q <;> rw [← e,h.root] at q <;> cases q
 ·obtain ⟨tr,htr,hkr⟩:=h.dir
  by_cases h1:r=d
  ·exact ⟨{ t with ns:=putN z b t.ns },by rw [made_T,if_pos h1],h2⟩
  ·refine ⟨tr,?_,hkr⟩
   rw [made_T,if_neg h1,if_neg (fun e=>by rw [e,hb] at htr; cases htr)]
   exact htr
 ·rw [made_T] at e
  by_cases h1:c=d
  ·rw [if_pos h1] at e; cases e; exact .inr h2
  ·rw [if_neg h1] at e
   by_cases h3:c=b
   ·rw [if_pos h3] at e; cases e; exact hk
   ·rw [if_neg h3] at e; exact h.kind c u e
 ·rw [made_T] at e
  by_cases h1:c=d
  ·rw [if_pos h1] at e
   cases e
   rw [look_put] at hx
   by_cases hz:x=z
   ·rw [if_pos hz] at hx; cases hx; exact hbl
   ·rw [if_neg hz] at hx; exact hlive j (h.live d t x j ht hx)
  ·rw [if_neg h1] at e
   by_cases h3:c=b
   ·rw [if_pos h3] at e; cases e; cases hx
   ·rw [if_neg h3] at e; exact hlive j (h.live c u x j e hx)

theorem plc_here {s:Tr} {r:Nat} {t:Th} (ht:s.T r=some t) (h2:t.k=2):plc s [] r=(0,some r):=by
 have h1:¬ t.k=1:=by omega
 unfold plc go
 simp [ht,h1]

theorem plc_step {s:Tr} {r c:Nat} {t u:Th} {x:List UInt8} (ht:s.T r=some t) (h2:t.k=2) (hx:t.ns.lookup x=some c) (hu:s.T c=some u) (hk:u.k=2):plc s [x] r=(0,some c):=by
 have h1:¬ u.k=1:=by omega
 unfold plc
 rw [go_step ht h2 hx]
 unfold go
 simp [hu,h1]

theorem wakes_any (w:World):Calls Tryz.prog 7 #[] w fun e w'=>e=.returned (.bool true)∧Below w.heap.size w w':=by
 have KN:=hide (new_ok (n:=1000) (by decide) (by decide) w)
 go_enter Tryz.func7,Tryz.ntmps7
 go_wp2_with fail
 refine (unhide KN).mono ?_
 rintro e w1 ⟨g,r,mp,ra,rc,S,rfl,htm,hS,hb⟩
 have hok:=ok_root 1000 r mp ra rc
 have htr:(Tr0 1000 r mp ra rc).T r=some (rootT mp):=if_pos rfl
 have hf:Free (Tr0 1000 r mp ra rc) 2:=⟨by show 1 ≤ 2; omega,fun i h1 h2=>by
  have h1':1 ≤ i:=h1
  obtain rfl:i=1:=by omega
  exact ⟨r,rfl⟩,.inl rfl⟩
 have KM:=hide (mkdir_new htm hok spl_d (plc_here htr rfl) htr rfl rfl (by show 0 < 1000000000000000; omega) hf (by omega) (by show 2 ≤ 1800000000000; omega))
 have hrS:r < w1.heap.size:=htm.lt r (htm.sb r _ htr)
 have HB:=hide hb
 have HO:=hide hok
 have HS:=hide hS
 have HF:=hide hf
 clear KN htm hb hok hS hf
 change Hid (Calls Tryz.prog 21 #[.pointer (some ⟨g,0,none⟩),.string ⟨#[47,100]⟩] w1 _) at KM
 go_wp2_with fail
 refine (unhide KM).mono ?_
 rintro e w2 ⟨b1,m1,ra1,rc1,rfl,hb1,htm,hkp⟩
 have hbr:b1 ≠ r:=by omega
 have hnb:(Tr0 1000 r mp ra rc).T b1=none:=if_neg hbr
 have hok:=HO.out.made HF.out (z:=[100]) (mp:=m1) (ra:=ra1) (rc:=rc1) (.inr rfl) htr rfl hnb
 have hS2:∀ k,Up S w1.heap.size w2.heap.size k→w.heap.size ≤ k:=fun k hk=>hk.elim (HS.out k) (fun q=>Nat.le_trans HB.out.size q.1)
 have hB2:Below w.heap.size w w2:=HB.out.trans (hkp.below HB.out.size HS.out)
 have ht1:((Tr0 1000 r mp ra rc).made 2 2 r (rootT mp) [100] b1 m1 ra1 rc1).T r=some { rootT mp with ns:=[([100],b1)] }:=by rw [made_T,if_pos rfl]; rfl
 have ht2:((Tr0 1000 r mp ra rc).made 2 2 r (rootT mp) [100] b1 m1 ra1 rc1).T b1=some { newT 2 2 m1 with l:=1 }:=by rw [made_T,if_neg hbr,if_pos rfl]
 have hlk:([([100],b1)]:NS).lookup [100]=some b1:=rfl
 have hf:Free ((Tr0 1000 r mp ra rc).made 2 2 r (rootT mp) [100] b1 m1 ra1 rc1) 3:=⟨by show 2 ≤ 3; omega,fun i h1 h2=>by
  have h1':2 ≤ i:=h1
  obtain rfl:i=2:=by omega
  exact ⟨b1,rfl⟩,.inl rfl⟩
 have KC:=hide (create_new htm hok spl_da (plc_step ht1 rfl hlk ht2 rfl) ht2 rfl rfl (by show 0 < 1000000000000000; omega) hf (by omega) (by show 3 ≤ 1800000000000; omega))
 have hrS2:r < w2.heap.size:=htm.lt r (htm.sb r _ ht1)
 have hbS2:b1 < w2.heap.size:=htm.lt b1 (htm.sb b1 _ ht2)
 have HB:=hide hB2
 have HO:=hide hok
 have HS:=hide hS2
 have HF:=hide hf
 clear KM htm hkp hb1 hok hS2 hB2 hf hnb
 change Hid (Calls Tryz.prog 22 #[.pointer (some ⟨g,0,none⟩),.string ⟨#[47,100,47,97]⟩] w2 _) at KC
 go_wp2_with fail
 refine (unhide KC).mono ?_
 rintro e w3 ⟨b2,m2,ra2,rc2,rfl,hb2,htm,hkp⟩
 have hb2r:b2 ≠ r:=by omega
 have hb2b:b2 ≠ b1:=by omega
 have hnb:((Tr0 1000 r mp ra rc).made 2 2 r (rootT mp) [100] b1 m1 ra1 rc1).T b2=none:=by rw [made_T,if_neg hb2r,if_neg hb2b]; exact if_neg hb2r
 have hok:=HO.out.made HF.out (z:=[97]) (mp:=m2) (ra:=ra2) (rc:=rc2) (.inl rfl) ht2 rfl hnb
 have hB3:Below w.heap.size w w3:=HB.out.trans (hkp.below HB.out.size HS.out)
 have hu1:(((Tr0 1000 r mp ra rc).made 2 2 r (rootT mp) [100] b1 m1 ra1 rc1).made 3 1 b1 { newT 2 2 m1 with l:=1 } [97] b2 m2 ra2 rc2).T r=some { rootT mp with ns:=[([100],b1)] }:=by rw [made_T,if_neg (fun e=>hbr e.symm),if_neg (fun e=>hb2r e.symm)]; exact ht1
 have hu2:(((Tr0 1000 r mp ra rc).made 2 2 r (rootT mp) [100] b1 m1 ra1 rc1).made 3 1 b1 { newT 2 2 m1 with l:=1 } [97] b2 m2 ra2 rc2).T b1=some { newT 2 2 m1 with l:=1,ns:=[([97],b2)] }:=by rw [made_T,if_pos rfl]; rfl
 have hu3:(((Tr0 1000 r mp ra rc).made 2 2 r (rootT mp) [100] b1 m1 ra1 rc1).made 3 1 b1 { newT 2 2 m1 with l:=1 } [97] b2 m2 ra2 rc2).T b2=some { newT 1 3 m2 with l:=1 }:=by rw [made_T,if_neg hb2b,if_pos rfl]
 have hgo:go (((Tr0 1000 r mp ra rc).made 2 2 r (rootT mp) [100] b1 m1 ra1 rc1).made 3 1 b1 { newT 2 2 m1 with l:=1 } [97] b2 m2 ra2 rc2) ([[100]] ++ [[97]]) r=(0,some b2):=by
  show go _ [[100],[97]] r=_
  rw [go_step hu1 rfl (show ([([100],b1)]:NS).lookup [100]=some b1 from rfl),go_step hu2 rfl (show ([([97],b2)]:NS).lookup [97]=some b2 from rfl)]
  rfl
 have KS:=hide (stat_ok htm hok spl_da hgo hu3 ⟨by show 0 ≤ 1800000000000; omega,by show 0 ≤ 1800000000000; omega,.inr rfl⟩)
 have HB:=hide hB3
 clear KC htm hkp hb2 hok hB3 hnb HO HS HF ht1 ht2 hu1 hu2 hu3 hgo hlk
 change Hid (Calls Tryz.prog 15 #[.pointer (some ⟨g,0,none⟩),.string ⟨#[47,100,47,97]⟩] w3 fun e w'=>e=.returned (.tuple #[.agg #[.int .i64 1,.int .i64 3,.int .i64 1,.int .i64 0],.int .i64 0])∧Below w3.heap.size w3 w') at KS
 go_wp2_with fail
 refine (unhide KS).mono ?_
 rintro e w4 ⟨rfl,hb⟩
 have HB:=hide (HB.out.trans (hb.mono HB.out.size))
 have HB2:=hide (HB.out.alloc HB.out.size (.cells #[.int .i64 1,.int .i64 3,.int .i64 1,.int .i64 0] 46))
 clear KS hb
 go_wp2_with fail
 go_ret
 exact ⟨rfl,HB2.out⟩

end Go.Proofs.YtknmgefpjdfenaaGreat

/- slices.Index over the handles, Open, file, Close. -/
namespace Go.Proofs.YtknmgefpjdfenaaGreat
set_option maxRecDepth 100000
set_option maxHeartbeats 8000000
open Go.RowKit Go.Shelf Go.Maps
set_option linter.unusedVariables false

structure FreeH (s:Tr) (f:Nat):Prop where
 lt:f < 16
 free:s.opn f=none
 full:∀ i,i < f→∃ b,s.opn i=some b

theorem index_free {w:World} {S:Nat→Prop} {g f:Nat} {s:Tr} (h:TM w S g s) (hf:FreeH s f) :
  Calls Tryz.prog 63 #[.slice (some ⟨g,3,none⟩) 16 16,.pointer none] w fun e w'=>e=.returned (.int .i64 (f:Int))∧w'=w:=by
 have HC:Hid (∀ i,i < 16→w.cell? ⟨g,3 + i,none⟩=some (ptrO (s.opn i))):=fun i hi=>h.open_cell hi
 have HF:=hide hf
 have hlt:=hf.lt
 clear h hf
 go_enter Tryz.func63,Tryz.ntmps63
 go_wp2_with fail
 go_loopw [8] (fun iv wr=>∃ k:Nat,k ≤ f∧iv=.int .i64 (k:Int)∧wr=w) (fun iv _=>16 - (intOf iv).toNat)
 case atStart=>exact ⟨0,Nat.zero_le _,rfl,rfl⟩
 case round =>
  obtain ⟨k,hk,rfl,rfl⟩:=hrel
  have c:=HC.out k (by omega)
  have l1:(k:Int) < 16:=by omega
  have l0:(0:Int) ≤ (k:Int):=by omega
  by_cases hlt:k < f
  ·obtain ⟨b,hb⟩:=HF.out.full k hlt
   rw [hb] at c
   simp only [ptrO,Option.map_some] at c
   have hn:∀ w:World,(binOp .eql 63 (.pointer none) (.pointer (some ⟨b,0,none⟩))).run Tryz.prog w=.ok (.bool false) w:=fun w=>by kernel_rfl
   clear HC HF hb
   go_wp2_with fail
   go_roundw
   case rel=>exact ⟨k + 1,by omega,by go_num,trivial⟩
   case measure=>simp [intOf]; omega
  ·obtain rfl:k=f:=by omega
   rw [HF.out.free] at c
   simp only [ptrO,Option.map_none] at c
   clear HC HF
   go_wp2_with fail
   go_ret
   exact ⟨rfl,rfl⟩

def Tr.opened (s:Tr) (f:Nat) (o:Option Nat):Tr:={ s with opn:=fun i=>if i=f then o else s.opn i }

theorem TM.opened {u:World} {S:Nat→Prop} {g:Nat} {s:Tr} (h:TM u S g s) {f:Nat} (hf:f < 16) (o:Option Nat):TM (u.setCell ⟨g,3 + f,none⟩ (ptrO o)) S g (s.opened f o):=by
 refine h.setT (3 + f) _ (fun j hj=>?_) rfl (h.row.kept (fun x ex=>?_)) h.sr
 ·unfold tcell Tr.opened
  by_cases h0:j=0
  ·subst h0; rw [if_pos rfl,if_neg (by omega),if_pos rfl]
  ·by_cases h1:j=1
   ·subst h1; rw [if_neg h0,if_pos rfl,if_neg (by omega),if_neg h0,if_pos rfl]
   ·by_cases h2:j=2
    ·subst h2; rw [if_neg h0,if_neg h1,if_pos rfl,if_neg (by omega),if_neg h0,if_neg h1,if_pos rfl]
    ·rw [if_neg h0,if_neg h1,if_neg h2,if_neg h0,if_neg h1,if_neg h2]
     by_cases h3:j=3 + f
     ·subst h3
      rw [if_pos rfl]
      show ptrO (if 3 + f - 3=f then o else s.opn (3 + f - 3))=ptrO o
      rw [if_pos (by omega)]
     ·rw [if_neg h3]
      show ptrO (if j - 3=f then o else s.opn (j - 3))=ptrO (s.opn (j - 3))
      rw [if_neg (by omega)]
 ·obtain ⟨_,_,cur,hcu⟩:=h.row.lt ex
  exact Below.heap_setCell _ _ _ _ (row_neT h.str hcu (by decide))

theorem open_ok {w:World} {S:Nat→Prop} {g r b f:Nat} {s:Tr} {t:Th} (h:TM w S g s) (hk:Ok s r) {p:List UInt8} {ns:List (List UInt8)} (hp:spl p=some ns) (hg:go s ns r=(0,some b)) (ht:s.T b=some t) (h1:t.k=1) (hf:FreeH s f) :
  Calls Tryz.prog 18 #[.pointer (some ⟨g,0,none⟩),.string (St p)] w fun e w'=>e=.returned (.tuple #[.int .i64 (f:Int),.int .i64 0])∧TM w' S g (s.opened f (some b))∧Kp S w w':=by
 have K:=hide (refuses_one (p:=p) h hk.row_ne (by have:=spl_len hp; omega) (Below.refl _ _))
 rw [splE_of hp] at K
 have KF:Hid (∀ u,TM u S g s→Calls Tryz.prog 53 #[.pointer (some ⟨g,0,none⟩),.string (St p)] u fun e w'=>e=.returned (.tuple #[.pointer (some ⟨b,0,none⟩),.int .i64 0])∧Below u.heap.size u w'):=fun u hu=>by
  have:=find_any hu hk hp
  rw [hg] at this
  exact this
 have KI:Hid (∀ u,TM u S g s→Calls Tryz.prog 63 #[.slice (some ⟨g,3,none⟩) 16 16,.pointer none] u fun e w'=>e=.returned (.int .i64 (f:Int))∧w'=u):=fun u hu=>index_free hu hf
 have HT:=hide h
 have HX:=hide (And.intro ht h1)
 have hlt:=hf.lt
 clear h hk hp hg ht h1 hf
 generalize St p=sp at *
 go_enter Tryz.func18,Tryz.ntmps18
 go_wp2_with fail
 refine (unhide K).mono ?_
 rintro e w1 ⟨rfl,hb⟩
 have HT:=hide (HT.out.below hb)
 have HB:=hide hb
 have KF:=hide (KF.out w1 HT.out)
 clear K hb
 go_wp2_with fail
 refine (unhide KF).mono ?_
 rintro e w2 ⟨rfl,hb⟩
 have HT:=hide (HT.out.below hb)
 have HB:=hide (HB.out.trans (hb.mono HB.out.size))
 have t0:=(HT.out.thing_cells HX.out.1).1
 rw [HX.out.2] at t0
 have KI:=hide (KI.out w2 HT.out)
 clear KF hb
 go_wp2_with fail
 refine (unhide KI).mono ?_
 rintro e w3 ⟨rfl,rfl⟩
 clear KI
 have c3:=HT.out.open_cell hlt
 have cf:=HT.out.tree_cells.2.2.2
 have l0:(0:Int) ≤ (f:Int):=by omega
 have l1:(f:Int) < 16:=by omega
 have d0:decide ((f:Int) < 0)=false:=by simp
 have HR:Hid (TM (w3.setCell ⟨g,3 + f,none⟩ (.pointer (some ⟨b,0,none⟩))) S g (s.opened f (some b))∧Kp S w (w3.setCell ⟨g,3 + f,none⟩ (.pointer (some ⟨b,0,none⟩)))):=⟨HT.out.opened hlt (some b),(Kp.of HB.out).setCell (p:=⟨g,3 + f,none⟩) (.inl HT.out.sg) _⟩
 clear HT HB HX hlt
 go_wp2_with fail
 go_ret2
 exact ⟨rfl,HR.out⟩

end Go.Proofs.YtknmgefpjdfenaaGreat

/- file and Read. -/
namespace Go.Proofs.YtknmgefpjdfenaaGreat
set_option maxRecDepth 100000
set_option maxHeartbeats 8000000
open Go.RowKit Go.Shelf Go.Maps
set_option linter.unusedVariables false

theorem bclone_nil (cap:Nat) (w:World):Calls Tryz.prog 50 #[.slice none 0 cap] w fun e w'=>e=.returned (.slice none 0 0)∧w'=w:=by
 have q:∀ (w:World) (a:Option Addr) (n c n' c':Nat),(binOp .eql 34 (.slice a n c) (.slice none n' c')).run Tryz.prog w=.ok (.bool a.isNone) w:=fun w a n c n' c'=>Lib.run_eql_slice_nil w _ _ a n c n' c' Tryz.underlying34
 go_enter Tryz.func50,Tryz.ntmps50
 go_wp2_with fail
 go_ret
 exact ⟨rfl,rfl⟩

theorem bclone_all (a:Option Addr) (len cap:Nat) (zs:List Int) (w:World) (hr:Has w a len zs) (hn:len ≤ 140737488351232) :
  Calls Tryz.prog 50 #[.slice a len cap] w fun e w'=>∃ a' c',e=.returned (.slice a' len c')∧Own w.heap.size w' a' len c' zs∧Below w.heap.size w w':=by
 cases a with
 | some x=>exact bclone_any x len cap zs w hr hn
 | none =>
  have h0:len=0:=by
   by_cases h:0 < len
   ·obtain ⟨b,off,e,_⟩:=hr.2 h
    cases e
   ·omega
  subst h0
  obtain rfl:zs=[]:=List.eq_nil_of_length_eq_zero hr.1
  refine (bclone_nil cap w).mono ?_
  rintro e w' ⟨rfl,rfl⟩
  exact ⟨none,0,rfl,Own.nil _ _,Below.refl _ _⟩

theorem file_ok {w:World} {S:Nat→Prop} {g f b:Nat} {s:Tr} (h:TM w S g s) (hf:f < 16) (ho:s.opn f=some b) (hr:s.row ≠ []) :
  Calls Tryz.prog 64 #[.pointer (some ⟨g,0,none⟩),.int .i64 (f:Int)] w fun e w'=>e=.returned (.tuple #[.pointer (some ⟨b,0,none⟩),.int .i64 0])∧w'=w:=by
 have K:=hide (isnone_no h hr)
 have c:=h.open_cell hf
 rw [ho] at c
 simp only [ptrO,Option.map_some] at c
 have l0:(0:Int) ≤ (f:Int):=by omega
 have l1:(f:Int) < 16:=by omega
 clear h ho hr hf
 go_enter Tryz.func64,Tryz.ntmps64
 go_wp2_with fail
 refine (unhide K).mono ?_
 rintro e w1 ⟨rfl,rfl⟩
 clear K
 go_wp2_with fail
 go_ret2
 exact ⟨rfl,rfl⟩

theorem read_ok {w:World} {S:Nat→Prop} {g f b:Nat} {s:Tr} {t:Th} (h:TM w S g s) (hf:f < 16) (ho:s.opn f=some b) (hr:s.row ≠ []) (ht:s.T b=some t) (hd:t.d.length ≤ 1800000000000) (at0 n:Nat) (ha:at0 ≤ 9223372036854775807) (hn:n ≤ 4096) :
  Calls Tryz.prog 19 #[.pointer (some ⟨g,0,none⟩),.int .i64 (f:Int),.int .i64 (at0:Int),.int .i64 (n:Int)] w fun e w'=>∃ a c,e=.returned (.tuple #[.slice a (min n (t.d.length - min at0 t.d.length)) c,.int .i64 0]) ∧
   Own w.heap.size w' a (min n (t.d.length - min at0 t.d.length)) c ((t.d.drop (min at0 t.d.length)).take (min n (t.d.length - min at0 t.d.length)))∧Below w.heap.size w w':=by
 have K:=hide (file_ok h hf ho hr)
 have c3:=(h.thing_cells ht).2.2.2.1
 have hO:=h.dat b t ht
 obtain ⟨a1,z1,R1,hz1,hH1⟩:=cut_l hO.has (l:=min at0 t.d.length) hO.2.1 (by omega)
 obtain ⟨a2,z2,R2,hz2,hH2⟩:=cut_h hH1 (k:=min n (t.d.length - min at0 t.d.length)) hz1 (by omega)
 have KC:Hid (∀ q,Calls Tryz.prog 50 #[.slice a2 (min n (t.d.length - min at0 t.d.length)) z2] (w.drewN q) fun e w'=>∃ a c,e=.returned (.slice a (min n (t.d.length - min at0 t.d.length)) c)∧Own w.heap.size w' a (min n (t.d.length - min at0 t.d.length)) c ((t.d.drop (min at0 t.d.length)).take (min n (t.d.length - min at0 t.d.length)))∧Below w.heap.size w w'):=fun q=>by
  refine (bclone_all a2 _ z2 _ (w.drewN q) hH2 (by omega)).mono ?_
  rintro e w' ⟨a,c,rfl,o,bb⟩
  exact ⟨a,c,rfl,o,bb.os,bb.tape,bb.output,bb.size,bb.block⟩
 have m1:min (at0:Int) (t.d.length:Int)=((min at0 t.d.length:Nat):Int):=by omega
 have m2:min (n:Int) ((t.d.length - min at0 t.d.length:Nat):Int)=((min n (t.d.length - min at0 t.d.length):Nat):Int):=by omega
 have d1:decide ((n:Int) > 4096)=false:=by simp; omega
 clear h hf ho hr ht hO hH1 hH2 hz1 hz2
 generalize min n (t.d.length - min at0 t.d.length)=k2 at *
 generalize t.d.length - min at0 t.d.length=l2 at *
 generalize min at0 t.d.length=k1 at *
 generalize t.d.length=l1 at *
 go_enter Tryz.func19,Tryz.ntmps19
 go_wp2_with fail
 refine (unhide K).mono ?_
 rintro e w1 ⟨rfl,rfl⟩
 clear K
 go_wp2_with fail
 go_region
 go_wp2_with fail
 refine (unhide KC 1).mono ?_
 rintro e w2 ⟨a,c,rfl,ho,hb⟩
 have HR:=hide (And.intro ho hb)
 clear KC ho hb
 go_wp2_with fail
 go_ret2
 exact ⟨a,c,rfl,HR.out⟩

end Go.Proofs.YtknmgefpjdfenaaGreat

