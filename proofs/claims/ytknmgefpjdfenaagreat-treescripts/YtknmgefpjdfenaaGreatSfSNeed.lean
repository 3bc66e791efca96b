/- Need of both trees. -/
import Derived.Test.YtknmgefpjdfenaaGreatSfJ42
import Derived.Test.YtknmgefpjdfenaaGreatSfJ33
import Derived.Test.YtknmgefpjdfenaaGreatSfJ39
import Derived.Test.YtknmgefpjdfenaaGreatSfJ1
import Derived.Test.YtknmgefpjdfenaaGreatSfJ11
import Derived.Test.YtknmgefpjdfenaaGreatSfJ11
namespace Go.Proofs.YtknmgefpjdfenaaGreat
set_option maxRecDepth 100000
set_option maxHeartbeats 8000000
open Go.RowKit Go.Shelf Go.Maps
set_option linter.unusedVariables false

theorem infoInt:(Tryz.prog.info? 3).map (fun i=>(i.zero,i.size,i.bytes))=some (some (.int .i64 0),1,8):=by kernel_rfl

theorem undInt:Tryz.prog.underlying 110=some (.slice 3):=by kernel_rfl

def OwnJ (B:Nat) (w:World) (a:Option Addr) (c:Nat) (xs:List Int):Prop:=w.ownsRow B 3 1 (.slice a xs.length c) xs.length (xs.map (Value.int .i64))

theorem OwnJ.nil (B:Nat) (w:World):OwnJ B w none 0 []:=⟨rfl,.inl ⟨rfl,rfl⟩⟩

theorem OwnJ.kept {B:Nat} {w w':World} {a:Option Addr} {c:Nat} {xs:List Int} (h:OwnJ B w a c xs) (hk:∀ g,a=some ⟨g,0,none⟩→w'.heap[g]?=w.heap[g]?):OwnJ B w' a c xs:=by
 refine ⟨h.1,h.2.imp id ?_⟩
 rintro ⟨g,cap,cur,e,hg,hh,r⟩
 have ea:a=some ⟨g,0,none⟩:=by injection e
 exact ⟨g,cap,cur,e,hg,(hk g ea).trans hh,r⟩

theorem OwnJ.at {B:Nat} {w:World} {a:Option Addr} {c:Nat} {xs:List Int} (h:OwnJ B w a c xs) {g:Nat} (e:a=some ⟨g,0,none⟩):g < w.heap.size∧B ≤ g:=by
 rcases h.2 with ⟨q,_⟩ | ⟨g',cap,cur,q,hg,hh,_⟩
 ·injection q with q1
  rw [e] at q1
  cases q1
 ·injection q with q1
  rw [e] at q1
  cases q1
  exact ⟨(Array.getElem?_eq_some_iff.1 hh).1,hg⟩

theorem OwnJ.app {B:Nat} {w:World} {a:Option Addr} {c:Nat} {xs:List Int} (h:OwnJ B w a c xs) (hB:B ≤ w.heap.size) (z:Int) (hn:xs.length ≤ 1800000000000) :
  ∃ (x c':Nat) (w':World),(∀ ty,(Builtin.append_ #[110,110] ty #[.slice a xs.length c,.slice (some ⟨w.heap.size,0,none⟩) 1 1]).run Tryz.prog (w.alloc (.cells #[.int .i64 z] 3))=.ok (.slice (some ⟨x,0,none⟩) (xs.length + 1) c') w')∧OwnJ B w' (some ⟨x,0,none⟩) c' (xs ++ [z])∧Below B w w' ∧
   (∀ k,k < w.heap.size→(∀ x,a=some ⟨x,0,none⟩→k ≠ x)→w'.heap[k]?=w.heap[k]?)∧(a=some ⟨x,0,none⟩ ∨ w.heap.size ≤ x):=by
 obtain ⟨i0,hi,hz0,hz1,hz2⟩:=info_parts infoInt
 have hb0:Below w.heap.size w (w.alloc (.cells #[.int .i64 z] 3)):=(Below.refl _ w).alloc (Nat.le_refl _) _
 have h1:OwnJ B (w.alloc (.cells #[.int .i64 z] 3)) a c xs:=h.kept (fun g eg=>hb0.block g (h.at eg).1)
 have hbl:=Bl.new w #[.int .i64 z] 3
 obtain ⟨x,c',w',hr,ho2,hg,hx,hlt⟩:=run_append_lies (P:=Tryz.prog) (w.alloc (.cells #[.int .i64 z] 3)) 110 0 B 3 i0 _ 1 8 undInt hi hz0 hz1 hz2 rfl (by decide) (.slice a xs.length c) xs.length _ h1 ⟨w.heap.size,0,none⟩ 1 1 [.int .i64 z] rfl
  (fun j u hj=>by rw [World.add_zero_spot,Nat.zero_add]; exact hbl.cell j u (by simpa using hj)) (by intro z hz; simp at hz; rw [hz]; rfl) (by decide) (by unfold maxLen; omega) (by omega) (Nat.le_trans hB hb0.size) _ rfl
 have e1:(xs ++ [z]).map (Value.int .i64)=xs.map (Value.int .i64) ++ [.int .i64 z]:=by simp
 have hl:(xs ++ [z]).length=xs.length + 1:=by simp
 refine ⟨x,c',w',fun ty=>hr,by unfold OwnJ; rw [e1,hl]; exact ho2,?_,fun k hk hne=>?_,?_⟩
 ·refine (hb0.mono hB).grown hg (Nat.le_trans hB hb0.size) (fun k ek=>?_)
  rcases h.2 with ⟨q,_⟩ | ⟨g,cap,cur,q,hgB,_⟩
  ·injection q with q1 q2 q3
   subst q1
   simp [Value.ownBlock] at ek
  ·cases q
   simp [Value.ownBlock] at ek
   omega
 ·refine (hg.block k (Nat.lt_of_lt_of_le hk hb0.size) (fun ek=>?_)).trans (hb0.block k hk)
  rcases h.2 with ⟨q,_⟩ | ⟨g,cap,cur,q,hgB,_⟩
  ·injection q with q1 q2 q3
   subst q1
   simp [Value.ownBlock] at ek
  ·cases q
   simp [Value.ownBlock] at ek
   exact hne g rfl ek
 ·rcases hx with hx | hx
  ·left
   rcases h.2 with ⟨q,_⟩ | ⟨g,cap,cur,q,hgB,_⟩
   ·injection q with q1 q2 q3
    subst q1
    simp [Value.ownBlock] at hx
   ·cases q
    simp [Value.ownBlock] at hx
    rw [hx]
  ·right
   rw [hx]
   exact hb0.size

theorem OwnJ.has {B:Nat} {w:World} {a:Option Addr} {c:Nat} {xs:List Int} (h:OwnJ B w a c xs):IHas w a xs.length xs:=by
 obtain ⟨a',c',e,hi⟩:=ihas_of_row h
 cases e
 exact hi

def Two2 (w:World) (a1:Option Addr) (c1:Nat) (F:List Int) (a2:Option Addr) (c2:Nat) (D:List Int) (u:World):Prop :=
 OwnJ w.heap.size u a1 c1 F∧OwnJ w.heap.size u a2 c2 D∧Below w.heap.size w u∧∀ g,a1=some ⟨g,0,none⟩→a2 ≠ some ⟨g,0,none⟩

theorem Two2.fst {w:World} {a1 a2:Option Addr} {c1 c2:Nat} {F D:List Int} {u:World} (h:Two2 w a1 c1 F a2 c2 D u) (z:Int) (hn:F.length ≤ 1800000000000) :
  ∃ (x c':Nat) (w':World),(∀ ty,(Builtin.append_ #[110,110] ty #[.slice a1 F.length c1,.slice (some ⟨u.heap.size,0,none⟩) 1 1]).run Tryz.prog (u.alloc (.cells #[.int .i64 z] 3))=.ok (.slice (some ⟨x,0,none⟩) (F.length + 1) c') w')∧Two2 w (some ⟨x,0,none⟩) c' (F ++ [z]) a2 c2 D w':=by
 obtain ⟨h1,h2,h3,h4⟩:=h
 obtain ⟨x,c',w',r,o,b,k,l⟩:=h1.app h3.size z hn
 refine ⟨x,c',w',r,o,h2.kept (fun g e=>k g (h2.at e).1 (fun x e' q=>h4 x e' (by rw [← q]; exact e))),h3.trans b,fun g e e2=>?_⟩
 cases e
 rcases l with l | l
 ·exact h4 x l e2
 ·have:=(h2.at e2).1
  omega

theorem Two2.snd {w:World} {a1 a2:Option Addr} {c1 c2:Nat} {F D:List Int} {u:World} (h:Two2 w a1 c1 F a2 c2 D u) (z:Int) (hn:D.length ≤ 1800000000000) :
  ∃ (x c':Nat) (w':World),(∀ ty,(Builtin.append_ #[110,110] ty #[.slice a2 D.length c2,.slice (some ⟨u.heap.size,0,none⟩) 1 1]).run Tryz.prog (u.alloc (.cells #[.int .i64 z] 3))=.ok (.slice (some ⟨x,0,none⟩) (D.length + 1) c') w')∧Two2 w a1 c1 F (some ⟨x,0,none⟩) c' (D ++ [z]) w':=by
 obtain ⟨h1,h2,h3,h4⟩:=h
 obtain ⟨x,c',w',r,o,b,k,l⟩:=h2.app h3.size z hn
 refine ⟨x,c',w',r,h1.kept (fun g e=>k g (h1.at e).1 (fun x e' q=>h4 x (by rw [← q]; exact e) e')),o,h3.trans b,fun g e e2=>?_⟩
 cases e2
 rcases l with l | l
 ·exact h4 x e l
 ·have:=(h1.at e).1
  omega

theorem Two2.start (w u:World) (hb:Below w.heap.size w u):Two2 w none 0 [] none 0 [] u:=⟨OwnJ.nil _ _,OwnJ.nil _ _,hb,fun g e=>by cases e⟩

def fsL (xs:List RT):List Int:=xs.flatMap (fun x=>if x.k=1 then [(x.d.length:Int)] else [])
def dsL (xs:List RT):List Int:=xs.flatMap (fun x=>if x.k=2 then [(x.ns.length:Int)] else [])

theorem fsL_len (xs:List RT):(fsL xs).length + (dsL xs).length ≤ xs.length:=by
 induction xs with
 | nil=>simp [fsL,dsL]
 | cons x xs ih =>
  unfold fsL dsL at *
  rw [List.flatMap_cons,List.flatMap_cons,List.length_append,List.length_append,List.length_cons]
  have:(if x.k=1 then [(x.d.length:Int)] else []).length + (if x.k=2 then [(x.ns.length:Int)] else []).length ≤ 1:=by
   by_cases h1:x.k=1
   ·rw [if_pos h1,if_neg (by omega)]; simp
   ·rw [if_neg h1]
    by_cases h2:x.k=2
    ·rw [if_pos h2]; simp
    ·rw [if_neg h2]; simp
  omega

theorem fsL_step {xs:List RT} {k:Nat} {x:RT} (h:xs[k]?=some x):fsL (xs.take (k + 1))=fsL (xs.take k) ++ (if x.k=1 then [(x.d.length:Int)] else []):=by
 unfold fsL
 rw [List.take_add_one,h,List.flatMap_append]
 simp

theorem dsL_step {xs:List RT} {k:Nat} {x:RT} (h:xs[k]?=some x):dsL (xs.take (k + 1))=dsL (xs.take k) ++ (if x.k=2 then [(x.ns.length:Int)] else []):=by
 unfold dsL
 rw [List.take_add_one,h,List.flatMap_append]
 simp

theorem rneed_any {w:World} {S:Nat→Prop} {g:Nat} {s:RTr} (h:SM w S g s) (hs:Rs s) (P:Nat→Int) :
  Calls Tryz.prog 45 #[.pointer (some ⟨g,0,none⟩),PvN P] w fun e w'=>AnsA e (trEN P (fsL s.th) (dsL s.th)) (trB P (fsL s.th) (dsL s.th)) (trI P (fsL s.th) (dsL s.th))∧Below w.heap.size w w':=by
 have hb0:Below w.heap.size w (w.alloc (.cells (Pc P) 23)):=(Below.refl _ w).alloc (Nat.le_refl _) _
 have HK:=hide (KpN.start w P)
 have HT:=hide (h.below hb0)
 have HS:=hide hs
 have hln:=hs.len
 have HN:Hid (∀ u a1 a2 l1 l2 c1 c2,IHas u a1 l1 (fsL s.th)→IHas u a2 l2 (dsL s.th)→l1 + l2 ≤ 1800000000000→Calls Tryz.prog 91 #[PvN P,.slice a1 l1 c1,.slice a2 l2 c2] u fun e w'=>AnsA e (trEN P (fsL s.th) (dsL s.th)) (trB P (fsL s.th) (dsL s.th)) (trI P (fsL s.th) (dsL s.th))∧Below u.heap.size u w'):=fun u a1 a2 l1 l2 c1 c2 h1 h2 hl=>rtree_any P a1 a2 l1 c1 l2 c2 _ _ u h1 h2 (by omega)
 have HFL:Hid (∀ k,(fsL (s.th.take k)).length ≤ 1800000000000∧(dsL (s.th.take k)).length ≤ 1800000000000):=fun k=>by
  have:=fsL_len (s.th.take k)
  rw [List.length_take] at this
  omega
 clear h hs hb0
 generalize hsl:s.th.length=n at *
 have HSL:=hide hsl
 clear hsl
 go_enter Tryz.func45,Tryz.ntmps45
 go_upto_region 2 with fail
 change Code.wp _ _ _ _ (w.alloc (.cells (Pc P) 23))
 generalize hw0:w.alloc (.cells (Pc P) 23)=w0 at *
 have H0:Hid (Two2 w0 none 0 (fsL (s.th.take 0)) none 0 (dsL (s.th.take 0)) w0):=by
  rw [List.take_zero]
  exact Two2.start w0 w0 (Below.refl _ _)
 clear hw0
 go_wp2_with fail
 go_loopw [6,7,8] (fun fv dv iv wr=>∃ (k:Nat) (a1:Option Addr) (c1:Nat) (a2:Option Addr) (c2:Nat),k ≤ n∧fv=.slice a1 (fsL (s.th.take k)).length c1∧dv=.slice a2 (dsL (s.th.take k)).length c2∧iv=.int .i64 (k:Int)∧Hid (Two2 w0 a1 c1 (fsL (s.th.take k)) a2 c2 (dsL (s.th.take k)) wr)) (fun _ _ iv _=>n - (intOf iv).toNat)
 case atStart=>exact ⟨0,none,0,none,0,Nat.zero_le _,rfl,rfl,rfl,H0⟩
 case round =>
  obtain ⟨k,a1,c1,a2,c2,hkn,rfl,rfl,rfl,hJ⟩:=hrel
  clear H0
  have hT:=HT.out.below hJ.out.2.2.1
  have g1:=hT.cells.2.1
  rw [HSL.out] at g1
  have l0:(0:Int) ≤ (k:Int):=by omega
  by_cases hlt:k < n
  ·have l1:(k:Int) < (n:Int):=by omega
   obtain ⟨x,hx⟩:∃ x,s.th[k]?=some x:=⟨_,List.getElem?_eq_getElem (by have:=HSL.out; omega)⟩
   obtain ⟨rb,era,_,t0,t1,t2,_⟩:=hT.row.cell hx
   rw [era] at g1
   have e1:=fsL_step hx
   have e2:=dsL_step hx
   obtain ⟨hf1,hd1⟩:=HFL.out k
   by_cases h1:x.k=1
   ·rw [h1] at t0
    have h2:¬ x.k=2:=by omega
    rw [if_pos h1] at e1
    rw [if_neg h2,List.append_nil] at e2
    obtain ⟨xb,cb,wu,r,hN⟩:=hJ.out.fst (x.d.length:Int) hf1
    have R:=hide r
    have HJ2:Hid (Two2 w0 (some ⟨xb,0,none⟩) cb (fsL (s.th.take (k + 1))) a2 c2 (dsL (s.th.take (k + 1))) wu):=by rw [e1,e2]; exact hN
    have el1:(fsL (s.th.take (k + 1))).length=(fsL (s.th.take k)).length + 1:=by rw [e1]; simp
    have el2:(dsL (s.th.take (k + 1))).length=(dsL (s.th.take k)).length:=by rw [e2]
    have hwu:Hid (∃ t2',wu.cell? ⟨g,1,none⟩=some (.slice (some ⟨rb,0,none⟩) n s.tc)∧wu.cell? ⟨rb,k * 3,none⟩=some (.int .i64 1)∧t2'=True):=by
     have hT2:=HT.out.below hN.2.2.1
     have q1:=hT2.cells.2.1
     rw [HSL.out,era] at q1
     obtain ⟨rb',era',_,q2,_⟩:=hT2.row.cell hx
     rw [era] at era'
     cases era'
     rw [h1] at q2
     exact ⟨True,q1,q2,rfl⟩
    obtain ⟨_,g2,t3,_⟩:=hwu.out
    clear hT hJ r hN e1 e2 hx h1 h2 hf1 hd1 era hwu
    go_wp2_with (at_builtin; refine wpList_append_run 110 rfl _ _ rfl _ _ _ rfl rfl (unhide R) ?_; clear R)
    go_roundw
    case rel=>exact ⟨k + 1,_,cb,a2,c2,by omega,by rw [el1],by rw [el2],by go_num,HJ2⟩
    case measure=>simp [intOf]; omega
   ·by_cases h2:x.k=2
    ·rw [h2] at t0
     rw [if_neg h1,List.append_nil] at e1
     rw [if_pos h2] at e2
     obtain ⟨xb,cb,wu,r,hN⟩:=hJ.out.snd (x.ns.length:Int) hd1
     have R:=hide r
     have HJ2:Hid (Two2 w0 a1 c1 (fsL (s.th.take (k + 1))) (some ⟨xb,0,none⟩) cb (dsL (s.th.take (k + 1))) wu):=by rw [e1,e2]; exact hN
     have el1:(fsL (s.th.take (k + 1))).length=(fsL (s.th.take k)).length:=by rw [e1]
     have el2:(dsL (s.th.take (k + 1))).length=(dsL (s.th.take k)).length + 1:=by rw [e2]; simp
     clear hT hJ r hN e1 e2 hx h1 h2 hf1 hd1 era
     go_wp2_with (at_builtin; refine wpList_append_run 110 rfl _ _ rfl _ _ _ rfl rfl (unhide R) ?_; clear R)
     go_roundw
     case rel=>exact ⟨k + 1,a1,c1,_,cb,by omega,by rw [el1],by rw [el2],by go_num,HJ2⟩
     case measure=>simp [intOf]; omega
    ·have d1:(x.k == 1)=false:=by simpa using h1
     have d2:(x.k == 2)=false:=by simpa using h2
     rw [if_neg h1,List.append_nil] at e1
     rw [if_neg h2,List.append_nil] at e2
     have HJ2:Hid (Two2 w0 a1 c1 (fsL (s.th.take (k + 1))) a2 c2 (dsL (s.th.take (k + 1))) wr):=by rw [e1,e2]; exact hJ.out
     have el1:(fsL (s.th.take (k + 1))).length=(fsL (s.th.take k)).length:=by rw [e1]
     have el2:(dsL (s.th.take (k + 1))).length=(dsL (s.th.take k)).length:=by rw [e2]
     clear hT hJ e1 e2 hx h1 h2 hf1 hd1 era
     generalize x.k=xk at *
     go_wp2_with fail
     go_roundw
     case rel=>exact ⟨k + 1,a1,c1,a2,c2,by omega,by rw [el1],by rw [el2],by go_num,HJ2⟩
     case measure=>simp [intOf]; omega
  ·obtain rfl:k=n:=by omega
   have hall:s.th.take k=s.th:=List.take_of_length_le (by have:=HSL.out; omega)
   rw [hall] at hJ
   have hfl:=fsL_len s.th
   rw [HSL.out] at hfl
   have KN:=hide (HN.out wr a1 a2 _ _ c1 c2 hJ.out.1.has hJ.out.2.1.has (by omega))
   rw [hall]
   obtain ⟨f0,f1,f2,f3,f4,f5,f6,f7,f8,f9,f10,f11⟩:=(HK.out.call hJ.out.2.2.1).cells
   have HB:Hid (Below w.heap.size w wr):=(HK.out.call hJ.out.2.2.1).2
   have d9:decide ((k:Int) < (k:Int))=false:=by simp
   clear hJ hT hall hfl HFL HN
   generalize (fsL s.th).length=lf at *
   generalize (dsL s.th).length=ld at *
   go_wp2_with fail
   go_at_call 91
   refine (unhide KN).mono ?_
   rintro r w2 ⟨⟨x,y,rfl,hx,hy⟩,hb⟩
   have HR:Hid (Rd x (trB P (fsL s.th) (dsL s.th))∧Rd y (trI P (fsL s.th) (dsL s.th))∧Below w.heap.size w w2):=⟨hx,hy,HB.out.trans (hb.mono HB.out.size)⟩
   clear KN hx hy hb
   go_wp2_with fail
   go_ret2
   exact ⟨⟨x,y,rfl,HR.out.1,HR.out.2.1⟩,HR.out.2.2⟩

def oT (s:Tr) (k:Int) (f:Th→Nat) (o:Option Nat):List Int:=match o with
 | none=>[]
 | some b=>match s.T b with
  | none=>[]
  | some t=>if t.k=k then [(f t:Int)] else []
def fsT (s:Tr) (row:List (Option Nat)):List Int:=row.flatMap (oT s 1 (fun t=>t.d.length))
def dsT (s:Tr) (row:List (Option Nat)):List Int:=row.flatMap (oT s 2 (fun t=>t.ns.length))

theorem flat_eq {α β:Type} (f:α→List Int) (g:β→List Int):∀ (xs:List α) (ys:List β),xs.length=ys.length→(∀ (j:Nat) (x:α) (y:β),xs[j]?=some x→ys[j]?=some y→f x=g y)→xs.flatMap f=ys.flatMap g
 | [],[],_,_=>rfl
 | [],_ :: _,h,_=>by cases h
 | _ :: _,[],h,_=>by cases h
 | x :: xs,y :: ys,h,hp=>by
  rw [List.flatMap_cons,List.flatMap_cons,hp 0 x y rfl rfl,flat_eq f g xs ys (by simpa using h) (fun j a b ha hb=>hp (j + 1) a b (by simpa using ha) (by simpa using hb))]

theorem Rel.need {s:Tr} {u:RTr} {r n:Nat} (h:Rel s u) (hw:Wf s r n):fsL u.th=fsT s s.row∧dsL u.th=dsT s s.row:=by
 have hc:∀ (j:Nat) (x:RT) (o:Option Nat),u.th[j]?=some x→s.row[j]?=some o→(o=none∧x.k=0) ∨ ∃ b t,o=some b∧s.T b=some t∧Lk s t x:=fun j x o hx ho=>by
  cases o with
  | none =>
   obtain ⟨y,hy,hk,_⟩:=h.no j ho
   rw [hx] at hy
   cases hy
   exact .inl ⟨rfl,hk⟩
  | some b =>
   obtain ⟨t,ht,_⟩:=hw.row j b ho
   obtain ⟨y,hy,hk⟩:=h.yes j b t ho ht
   rw [hx] at hy
   cases hy
   exact .inr ⟨b,t,rfl,ht,hk⟩
 constructor
 ·refine flat_eq _ _ _ _ h.len (fun j x o hx ho=>?_)
  rcases hc j x o hx ho with ⟨rfl,hk⟩ | ⟨b,t,rfl,ht,hk⟩
  ·rw [if_neg (by omega)]; rfl
  ·unfold oT
   simp only [ht]
   rw [hk.k,hk.d]
 ·refine flat_eq _ _ _ _ h.len (fun j x o hx ho=>?_)
  rcases hc j x o hx ho with ⟨rfl,hk⟩ | ⟨b,t,rfl,ht,hk⟩
  ·rw [if_neg (by omega)]; rfl
  ·unfold oT
   simp only [ht]
   have:=hk.ns.length_eq
   rw [List.length_map] at this
   rw [hk.k,this]

theorem oT_step (s:Tr) (k:Int) (f:Th→Nat) {row:List (Option Nat)} {i:Nat} {o:Option Nat} (h:row[i]?=some o):(row.take (i + 1)).flatMap (oT s k f)=(row.take i).flatMap (oT s k f) ++ oT s k f o:=by
 rw [List.take_add_one,h,List.flatMap_append]
 simp

theorem oT_len (s:Tr) (row:List (Option Nat)):(fsT s row).length + (dsT s row).length ≤ row.length:=by
 induction row with
 | nil=>simp [fsT,dsT]
 | cons o row ih =>
  unfold fsT dsT at *
  rw [List.flatMap_cons,List.flatMap_cons,List.length_append,List.length_append,List.length_cons]
  have:(oT s 1 (fun t=>t.d.length) o).length + (oT s 2 (fun t=>t.ns.length) o).length ≤ 1:=by
   unfold oT
   cases o with
   | none=>simp
   | some b =>
    cases hb:s.T b with
    | none=>simp [hb]
    | some t =>
     simp only [hb]
     by_cases h1:t.k=1
     ·rw [if_pos h1,if_neg (by omega)]; simp
     ·rw [if_neg h1]
      by_cases h2:t.k=2
      ·rw [if_pos h2]; simp
      ·rw [if_neg h2]; simp
  omega

theorem tneed_any {w:World} {S:Nat→Prop} {g r n:Nat} {s:Tr} (h:TM w S g s) (hw:Wf s r n) (hn:n ≤ 1700000000000) (P:Nat→Int) :
  Calls Tryz.prog 20 #[.pointer (some ⟨g,0,none⟩),PvN P] w fun e w'=>AnsA e (trEN P (fsT s s.row) (dsT s s.row)) (trB P (fsT s s.row) (dsT s s.row)) (trI P (fsT s s.row) (dsT s s.row))∧Below w.heap.size w w':=by
 have hb0:Below w.heap.size w (w.alloc (.cells (Pc P) 23)):=(Below.refl _ w).alloc (Nat.le_refl _) _
 have HK:=hide (KpN.start w P)
 have HT:=hide (h.below hb0)
 have HW:=hide hw
 have hln:=hw.len
 have KI:Hid (∀ v,TM v S g s→Calls Tryz.prog 46 #[.pointer (some ⟨g,0,none⟩)] v fun e w'=>e=.returned (.bool false)∧w'=v):=fun v hv=>isnone_no hv hw.ok.row_ne
 have HN:Hid (∀ u a1 a2 l1 l2 c1 c2,IHas u a1 l1 (fsT s s.row)→IHas u a2 l2 (dsT s s.row)→l1 + l2 ≤ 1800000000002→Calls Tryz.prog 65 #[PvN P,.slice a1 l1 c1,.slice a2 l2 c2] u fun e w'=>AnsA e (trEN P (fsT s s.row) (dsT s s.row)) (trB P (fsT s s.row) (dsT s s.row)) (trI P (fsT s s.row) (dsT s s.row))∧Below u.heap.size u w'):=fun u a1 a2 l1 l2 c1 c2 h1 h2 hl=>tree_any P a1 a2 l1 c1 l2 c2 _ _ u h1 h2 (by omega) (by omega)
 have HFL:Hid (∀ k,(fsT s (s.row.take k)).length ≤ 1800000000000∧(dsT s (s.row.take k)).length ≤ 1800000000000):=fun k=>by
  have:=oT_len s (s.row.take k)
  rw [List.length_take] at this
  omega
 clear h hw hb0
 generalize hsl:s.row.length=m at *
 have HSL:=hide hsl
 clear hsl
 go_enter Tryz.func20,Tryz.ntmps20
 go_upto_region 1 with fail
 change Code.wp _ _ _ _ (w.alloc (.cells (Pc P) 23))
 generalize hw0:w.alloc (.cells (Pc P) 23)=w0 at *
 have H0:Hid (Two2 w0 none 0 (fsT s (s.row.take 0)) none 0 (dsT s (s.row.take 0)) w0):=by
  rw [List.take_zero]
  exact Two2.start w0 w0 (Below.refl _ _)
 clear hw0
 have KI:=hide (KI.out w0 HT.out)
 go_wp2_with fail
 refine (unhide KI).mono ?_
 rintro e w1 ⟨rfl,hw1⟩
 obtain rfl:=hw1.symm
 clear KI
 have g1:=HT.out.tree_cells.2.1
 rw [HSL.out] at g1
 have HP:Hid (∀ v,Below w0.heap.size w0 v→∀ k,k < m→∃ gp,s.ra=some ⟨gp,0,none⟩∧v.cell? ⟨gp,k,none⟩=some (ptrO (s.row[k]?.getD none))):=fun v hv k hk=>by
  obtain ⟨gp,e,_,c,_⟩:=(HT.out.below hv).row.cell (j:=k) (by rw [HSL.out]; exact hk)
  exact ⟨gp,e,c⟩
 generalize s.ra=ra at *
 generalize s.rc=rc at *
 go_wp2_with fail
 go_loopw [6,7,17] (fun fv dv iv wr=>∃ (k:Nat) (a1:Option Addr) (c1:Nat) (a2:Option Addr) (c2:Nat),k ≤ m∧fv=.slice a1 (fsT s (s.row.take k)).length c1∧dv=.slice a2 (dsT s (s.row.take k)).length c2∧iv=.int .i64 (k:Int)∧Hid (Two2 w0 a1 c1 (fsT s (s.row.take k)) a2 c2 (dsT s (s.row.take k)) wr)) (fun _ _ iv _=>m - (intOf iv).toNat)
 case atStart=>exact ⟨0,none,0,none,0,Nat.zero_le _,rfl,rfl,rfl,H0⟩
 case round =>
  obtain ⟨k,a1,c1,a2,c2,hkn,rfl,rfl,rfl,hJ⟩:=hrel
  clear H0
  have l0:(0:Int) ≤ (k:Int):=by omega
  by_cases hlt:k < m
  ·have l1:(k:Int) < (m:Int):=by omega
   obtain ⟨gp,rfl,hcl⟩:=HP.out wr hJ.out.2.2.1 k hlt
   obtain ⟨o,ho⟩:∃ o,s.row[k]?=some o:=⟨_,List.getElem?_eq_getElem (by have:=HSL.out; omega)⟩
   rw [ho] at hcl
   have e1:fsT s (s.row.take (k + 1))=fsT s (s.row.take k) ++ oT s 1 (fun t=>t.d.length) o:=oT_step s 1 _ ho
   have e2:dsT s (s.row.take (k + 1))=dsT s (s.row.take k) ++ oT s 2 (fun t=>t.ns.length) o:=oT_step s 2 _ ho
   obtain ⟨hf1,hd1⟩:=HFL.out k
   cases o with
   | none =>
    have HJ2:Hid (Two2 w0 a1 c1 (fsT s (s.row.take (k + 1))) a2 c2 (dsT s (s.row.take (k + 1))) wr):=by rw [e1,e2]; simp only [oT,List.append_nil]; exact hJ.out
    have el1:(fsT s (s.row.take (k + 1))).length=(fsT s (s.row.take k)).length:=by rw [e1]; simp [oT]
    have el2:(dsT s (s.row.take (k + 1))).length=(dsT s (s.row.take k)).length:=by rw [e2]; simp [oT]
    change wr.cell? ⟨gp,k,none⟩=some (.pointer none) at hcl
    clear hJ e1 e2 ho hf1 hd1 HP
    go_wp2_with fail
    go_roundw
    case rel=>exact ⟨k + 1,a1,c1,a2,c2,by omega,by rw [el1],by rw [el2],by go_num,HJ2⟩
    case measure=>simp [intOf]; omega
   | some b =>
    obtain ⟨t,ht,_⟩:=HW.out.row k b ho
    have hT:=HT.out.below hJ.out.2.2.1
    obtain ⟨t0,_,_,t3,t4,_⟩:=hT.thing_cells ht
    change wr.cell? ⟨gp,k,none⟩=some (.pointer (some ⟨b,0,none⟩)) at hcl
    have o1:oT s 1 (fun t=>t.d.length) (some b)=if t.k=1 then [(t.d.length:Int)] else []:=by unfold oT; simp only [ht]
    have o2:oT s 2 (fun t=>t.ns.length) (some b)=if t.k=2 then [(t.ns.length:Int)] else []:=by unfold oT; simp only [ht]
    rw [o1] at e1
    rw [o2] at e2
    rcases HW.out.ok.kind b t ht with h1 | h1
    ·rw [h1] at t0
     rw [if_pos h1] at e1
     rw [if_neg (by omega),List.append_nil] at e2
     obtain ⟨xb,cb,wu,rr,hN⟩:=hJ.out.fst (t.d.length:Int) hf1
     have R:=hide rr
     have HJ2:Hid (Two2 w0 (some ⟨xb,0,none⟩) cb (fsT s (s.row.take (k + 1))) a2 c2 (dsT s (s.row.take (k + 1))) wu):=by rw [e1,e2]; exact hN
     have el1:(fsT s (s.row.take (k + 1))).length=(fsT s (s.row.take k)).length + 1:=by rw [e1]; simp
     have el2:(dsT s (s.row.take (k + 1))).length=(dsT s (s.row.take k)).length:=by rw [e2]
     clear hT hJ rr hN e1 e2 o1 o2 ht h1 hf1 hd1 ho HP t4
     generalize (fsT s (s.row.take k)).length=lf at *
     generalize (dsT s (s.row.take k)).length=ld at *
     go_wp2_with (at_builtin; refine wpList_append_run 110 rfl _ _ rfl _ _ _ rfl rfl (unhide R) ?_; clear R)
     go_roundw
     case rel=>exact ⟨k + 1,_,cb,a2,c2,by omega,by rw [el1],by rw [el2],by go_num,HJ2⟩
     case measure=>simp [intOf]; omega
    ·rw [h1] at t0
     rw [if_pos h1] at t4
     rw [if_neg (by omega),List.append_nil] at e1
     rw [if_pos h1] at e2
     obtain ⟨xb,cb,wu,rr,hN⟩:=hJ.out.snd (t.ns.length:Int) hd1
     have R:=hide rr
     have HJ2:Hid (Two2 w0 a1 c1 (fsT s (s.row.take (k + 1))) (some ⟨xb,0,none⟩) cb (dsT s (s.row.take (k + 1))) wu):=by rw [e1,e2]; exact hN
     have el1:(fsT s (s.row.take (k + 1))).length=(fsT s (s.row.take k)).length:=by rw [e1]
     have el2:(dsT s (s.row.take (k + 1))).length=(dsT s (s.row.take k)).length + 1:=by rw [e2]; simp
     have LM:=(hT.map b t ht h1).len
     clear hT hJ rr hN e1 e2 o1 o2 ht h1 hf1 hd1 ho HP t3
     generalize (fsT s (s.row.take k)).length=lf at *
     generalize (dsT s (s.row.take k)).length=ld at *
     generalize t.ns.length=nl at *
     go_wp2_with (at_builtin; refine wpList_append_run 110 rfl _ _ rfl _ _ _ rfl rfl (unhide R) ?_; clear R)
     go_roundw
     case rel=>exact ⟨k + 1,a1,c1,_,cb,by omega,by rw [el1],by rw [el2],by go_num,HJ2⟩
     case measure=>simp [intOf]; omega
  ·obtain rfl:k=m:=by omega
   have hall:s.row.take k=s.row:=List.take_of_length_le (by have:=HSL.out; omega)
   rw [hall] at hJ
   have hfl:=oT_len s s.row
   rw [HSL.out] at hfl
   have KN:=hide (HN.out wr a1 a2 _ _ c1 c2 hJ.out.1.has hJ.out.2.1.has (by omega))
   rw [hall]
   obtain ⟨f0,f1,f2,f3,f4,f5,f6,f7,f8,f9,f10,f11⟩:=(HK.out.call hJ.out.2.2.1).cells
   have HB:Hid (Below w.heap.size w wr):=(HK.out.call hJ.out.2.2.1).2
   have d9:decide ((k:Int) < (k:Int))=false:=by simp
   clear hJ hall hfl HFL HN HP
   generalize (fsT s s.row).length=lf at *
   generalize (dsT s s.row).length=ld at *
   go_wp2_with fail
   go_at_call 65
   refine (unhide KN).mono ?_
   rintro r w2 ⟨⟨x,y,rfl,hx,hy⟩,hb⟩
   have HR:Hid (Rd x (trB P (fsT s s.row) (dsT s s.row))∧Rd y (trI P (fsT s s.row) (dsT s s.row))∧Below w.heap.size w w2):=⟨hx,hy,HB.out.trans (hb.mono HB.out.size)⟩
   clear KN hx hy hb
   go_wp2_with fail
   go_ret2
   exact ⟨⟨x,y,rfl,HR.out.1,HR.out.2.1⟩,HR.out.2.2⟩

end Go.Proofs.YtknmgefpjdfenaaGreat
