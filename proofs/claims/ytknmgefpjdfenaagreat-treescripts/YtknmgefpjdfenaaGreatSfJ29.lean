/- Joined: TDump1, TEach, TDump, SMem, TSame, TSum. -/
import Derived.Test.YtknmgefpjdfenaaGreatSfTKeys
import Derived.Test.YtknmgefpjdfenaaGreatSfJ27
import Derived.Deep.RegionHeld3
import Derived.Shelf.Lay
import Derived.Shelf.Strings.Prefix
/- Dump's visitor: one Node more. -/
namespace Go.Proofs.YtknmgefpjdfenaaGreat
set_option maxRecDepth 100000
set_option maxHeartbeats 8000000
open Go.RowKit Go.Shelf Go.Maps
set_option linter.unusedVariables false

structure Nd where
 p:List UInt8
 t:Th
 da:Option Addr
 dc:Nat

def ncs (x:Nd):Array Value:=#[.string (St x.p),.int .i64 x.t.k,.int .i64 (x.t.n:Int),.int .i64 x.t.l,.int .i64 (sizeT x.t),.slice x.da x.t.d.length x.dc]

theorem infoN:(Tryz.prog.info? 43).map (fun i=>(i.zero,i.size,i.bytes))=some (some (.agg #[.string ⟨#[]⟩,.int .i64 0,.int .i64 0,.int .i64 0,.int .i64 0,.slice none 0 0]),6,72):=by kernel_rfl

theorem undN:Tryz.prog.underlying 38=some (.slice 43):=by kernel_rfl

def dcells (xs:List Nd):List Value:=xs.flatMap (fun x=>(ncs x).toList)

def DL (B:Nat) (w:World) (v:Value) (xs:List Nd):Prop:=w.ownsRow B 43 6 v xs.length (dcells xs)∧∀ x ∈ xs,Own B w x.da x.t.d.length x.dc x.t.d

theorem DL.nil (B:Nat) (w:World):DL B w (.slice none 0 0) []:=⟨World.ownsRow_nil _ _ _ _,fun x hx=>absurd hx (by simp)⟩

theorem DL.kept {B:Nat} {w w':World} {v:Value} {xs:List Nd} (h:DL B w v xs) (hk:∀ k cs t,B ≤ k→w.heap[k]?=some (Obj.cells cs t (0,0))→(t=43 ∨ t=5)→w'.heap[k]?=w.heap[k]?):DL B w' v xs:=by
 refine ⟨ownsRow_block h.1 (fun g cur hg hh=>hk g cur _ hg hh (.inl rfl)),fun x hx=>?_⟩
 have ho:=h.2 x hx
 exact ho.kept (fun g e=>by obtain ⟨_,hg,cur,hc⟩:=ho.lt e; exact hk g cur _ hg hc (.inr rfl))

theorem DL.shape {B:Nat} {w:World} {v:Value} {xs:List Nd} (h:DL B w v xs):∃ a c,v=.slice a xs.length c:=by
 rcases h.1.2 with ⟨rfl,hn⟩ | ⟨g,cap,cur,rfl,_⟩
 ·exact ⟨none,0,by rw [hn]⟩
 ·exact ⟨_,_,rfl⟩

theorem DL.below {B n:Nat} {w w':World} {v:Value} {xs:List Nd} (h:DL B w v xs) (hb:Below n w w') (hn:w.heap.size ≤ n):DL B w' v xs :=
 h.kept (fun k cs t _ hh _=>hb.block k (by have:=(Array.getElem?_eq_some_iff.1 hh).1; omega))

theorem DL.app {B:Nat} {w:World} {v:Value} {xs:List Nd} (h:DL B w v xs) (hB:B ≤ w.heap.size) (x:Nd) (ho:Own B w x.da x.t.d.length x.dc x.t.d) (hn:xs.length ≤ 1800000000000) :
  ∃ (v':Value) (w':World),(∀ ty,(Builtin.append_ #[38,38] ty #[v,.slice (some ⟨w.heap.size,0,none⟩) 1 1]).run Tryz.prog (w.alloc (.cells (ncs x) 43))=.ok v' w')∧DL B w' v' (xs ++ [x])∧Below B w w' ∧
   (∀ (k:Nat) cs t,w.heap[k]?=some (Obj.cells cs t (0,0))→t ≠ 43→w'.heap[k]?=w.heap[k]?):=by
 obtain ⟨i0,hi,hz0,hz1,hz2⟩:=info_parts infoN
 have hb0:Below w.heap.size w (w.alloc (.cells (ncs x) 43)):=(Below.refl _ w).alloc (Nat.le_refl _) _
 have h1:=h.below hb0 (Nat.le_refl _)
 have hbl:=Bl.new w (ncs x) 43
 obtain ⟨v',w',hr,ho2,hg,_⟩:=run_append_own (P:=Tryz.prog) (w.alloc (.cells (ncs x) 43)) B 38 0 43 i0 _ 6 72 undN hi hz0 hz1 hz2 rfl (by decide) v xs.length _ h1.1 ⟨w.heap.size,0,none⟩ 1 1 (ncs x).toList rfl
  (fun j u hj=>by rw [World.add_zero_spot,Nat.zero_add]; exact hbl.cell j u (by simpa using hj)) (by intro z hz; simp [ncs] at hz; rcases hz with rfl | rfl | rfl | rfl | rfl | rfl <;> rfl) (by unfold maxLen; omega) (by omega) (Nat.le_trans hB hb0.size)
 have hkk:∀ k cs t,w.heap[k]?=some (Obj.cells cs t (0,0))→t ≠ 43→w'.heap[k]?=w.heap[k]?:=fun k cs t hh ht=>by
  have hlt:=(Array.getElem?_eq_some_iff.1 hh).1
  refine (hg.block k (Nat.lt_of_lt_of_le hlt hb0.size) (fun e=>?_)).trans (hb0.block k hlt)
  rcases h.1.2 with ⟨rfl,_⟩ | ⟨g,cap,cur,rfl,_,hgc,_⟩
  ·simp [Value.ownBlock] at e
  ·simp [Value.ownBlock] at e
   subst e
   rw [hgc] at hh
   exact ht (cells_ty hh).symm
 refine ⟨v',w',fun ty=>hr,⟨?_,fun y hy=>?_⟩,?_,hkk⟩
 ·have e:dcells (xs ++ [x])=dcells xs ++ (ncs x).toList:=by simp [dcells]
  rw [e,List.length_append]
  exact ho2
 ·rcases List.mem_append.1 hy with hy | hy
  ·have o:=h.2 y hy
   exact o.kept (fun g e=>by obtain ⟨_,_,cur,hc⟩:=o.lt e; exact hkk g cur _ hc (by decide))
  ·simp at hy
   subst hy
   exact ho.kept (fun g e=>by obtain ⟨_,_,cur,hc⟩:=ho.lt e; exact hkk g cur _ hc (by decide))
 ·refine (hb0.mono hB).grown hg (Nat.le_trans hB hb0.size) (fun k e=>?_)
  rcases h.1.2 with ⟨rfl,_⟩ | ⟨g,cap,cur,rfl,hgB,_⟩
  ·simp [Value.ownBlock] at e
  ·simp [Value.ownBlock] at e
   omega

def Fx (m:Nat) (u w:World):Prop:=∀ (k:Nat) cs t,u.heap[k]?=some (Obj.cells cs t (0,0))→t ≠ 43→k ≠ m→w.heap[k]?=u.heap[k]?

theorem Fx.trans {m:Nat} {u v w:World} (h:Fx m u v) (h':Fx m v w):Fx m u w:=fun k cs t hh ht hm=>by
 have h1:=h k cs t hh ht hm
 exact (h' k cs t (h1.trans hh) ht hm).trans h1

theorem Fx.of {m n:Nat} {u w:World} (h:Below n u w) (hn:u.heap.size ≤ n):Fx m u w:=fun k cs t hh _ _=>h.block k (by have:=(Array.getElem?_eq_some_iff.1 hh).1; omega)

theorem bal {n:Nat} {u v:World} (h:Below n u v) (hn:n ≤ u.heap.size) (o:Obj):Below n u (v.alloc o):=h.alloc (Nat.le_trans hn h.size) o

theorem bdr {n:Nat} {u v:World} (h:Below n u v) (q:Nat):Below n u (v.drewN q):=⟨h.os,h.tape,h.output,h.size,h.block⟩

theorem bd1 {n:Nat} {u v:World} (h:Below n u v):Below n u v.drew:=bdr h 1

theorem b6 {n k:Nat} {u v:World} (h:Below n u v) (hk:n ≤ k) (x0 x1 x2 x3 x4 x5:Value):Below n u ((((((v.setCell ⟨k,0,none⟩ x0).setCell ⟨k,1,none⟩ x1).setCell ⟨k,2,none⟩ x2).setCell ⟨k,3,none⟩ x3).setCell ⟨k,4,none⟩ x4).setCell ⟨k,5,none⟩ x5) :=
 (((((h.setCell (p:=⟨k,0,none⟩) hk x0).setCell (p:=⟨k,1,none⟩) hk x1).setCell (p:=⟨k,2,none⟩) hk x2).setCell (p:=⟨k,3,none⟩) hk x3).setCell (p:=⟨k,4,none⟩) hk x4).setCell (p:=⟨k,5,none⟩) hk x5

theorem vis_new {n B' l c:Nat} {u w2:World} {a:Option Addr} {d:List Int} (hB:Below n u w2) (hn:n ≤ u.heap.size) (ho:Own B' w2 a l c d) (hb:n ≤ B') (cs:Array Value) :
  Bl (w2.alloc (.cells cs 43)) w2.heap.size cs 43∧Below n u (w2.alloc (.cells cs 43))∧Own n (w2.alloc (.cells cs 43)) a l c d∧n ≤ w2.heap.size :=
 ⟨Bl.new _ _ _,bal hB hn _,(ho.below ((Below.refl _ w2).alloc (Nat.le_refl _) _) (Nat.le_refl _)).base hb,Nat.le_trans hn hB.size⟩

theorem vis_set {n B' k l c:Nat} {u w2:World} {a:Option Addr} {d:List Int} {z:Array Value} (hN:Bl w2 k z 43) (hz:z.size=6) (hB:Below n u w2) (hk:n ≤ k) (ho:Own B' w2 a l c d) (hb:n ≤ B') (x0 x1 x2 x3 x4 x5:Value) :
  Bl ((((((w2.setCell ⟨k,0,none⟩ x0).setCell ⟨k,1,none⟩ x1).setCell ⟨k,2,none⟩ x2).setCell ⟨k,3,none⟩ x3).setCell ⟨k,4,none⟩ x4).setCell ⟨k,5,none⟩ x5) k #[x0,x1,x2,x3,x4,x5] 43 ∧
   Below n u ((((((w2.setCell ⟨k,0,none⟩ x0).setCell ⟨k,1,none⟩ x1).setCell ⟨k,2,none⟩ x2).setCell ⟨k,3,none⟩ x3).setCell ⟨k,4,none⟩ x4).setCell ⟨k,5,none⟩ x5) ∧
   Own n ((((((w2.setCell ⟨k,0,none⟩ x0).setCell ⟨k,1,none⟩ x1).setCell ⟨k,2,none⟩ x2).setCell ⟨k,3,none⟩ x3).setCell ⟨k,4,none⟩ x4).setCell ⟨k,5,none⟩ x5) a l c d∧n ≤ k:=by
 refine ⟨setAll_whole [x0,x1,x2,x3,x4,x5] w2 z hN hz.symm,b6 hB hk _ _ _ _ _ _,(ho.kept (fun g e=>?_)).base hb,hk⟩
 obtain ⟨_,_,cur,hc⟩:=ho.lt e
 have hne:g ≠ k:=fun e'=>by
  subst e'
  have h2:w2.heap[g]?=_:=hN
  rw [hc] at h2
  exact absurd (cells_ty h2) (by decide)
 rw [Below.heap_setCell _ _ _ _ hne,Below.heap_setCell _ _ _ _ hne,Below.heap_setCell _ _ _ _ hne,Below.heap_setCell _ _ _ _ hne,Below.heap_setCell _ _ _ _ hne,Below.heap_setCell _ _ _ _ hne]

theorem visit_any {u : World} {S : Nat → Prop} {g b m B : Nat} {s : Tr} {t : Th} {v : Value} {xs : List Nd} (h : TM u S g s) (ht : s.T b = some t) (hs : Small t) (hS : ∀ k, S k → k < B) (hm : B ≤ m) (hv : Bl u m #[v] 38) (hD : DL B u v xs) (hB : B ≤ u.heap.size) (hn : xs.length ≤ 1800000000000) (p : List UInt8) :
    Calls Tryz.prog 48 #[.string (St p), .pointer (some ⟨b, 0, none⟩), .pointer (some ⟨m, 0, none⟩)] u fun e w' => e = .returned (.bool true) ∧ ∃ v' a c, Bl w' m #[v'] 38 ∧ DL B w' v' (xs ++ [⟨p, t, a, c⟩]) ∧ Below B u w' ∧ Fx m u w' := by
  obtain ⟨t0, t1, t2, t3, _, _⟩ := h.thing_cells ht
  have hbl : b < u.heap.size := (h.thg b t ht).lt
  have KB : Hid (∀ w, Below u.heap.size u w → Hid (Below u.heap.size u w) ∧ w.cell? ⟨b, 0, none⟩ = some (.int .i64 t.k) ∧ w.cell? ⟨b, 1, none⟩ = some (.int .i64 (t.n : Int)) ∧ w.cell? ⟨b, 2, none⟩ = some (.int .i64 t.l) ∧ w.cell? ⟨b, 3, none⟩ = some (.slice t.da t.d.length t.dc)) := fun w hw =>
    ⟨hw, (hw.cell (p := ⟨b, 0, none⟩) hbl).trans t0, (hw.cell (p := ⟨b, 1, none⟩) hbl).trans t1, (hw.cell (p := ⟨b, 2, none⟩) hbl).trans t2, (hw.cell (p := ⟨b, 3, none⟩) hbl).trans t3⟩
  have KS : Hid (∀ w, Below u.heap.size u w → Calls Tryz.prog 49 #[.pointer (some ⟨b, 0, none⟩)] w fun e w' => e = .returned (.int .i64 (sizeT t)) ∧ Below w.heap.size w w') := fun w hw => by
    refine (size_any (h.below hw) ht hs).mono ?_
    rintro e w' ⟨rfl, q, rfl⟩
    exact ⟨rfl, bdr (Below.refl _ _) q⟩
  have hO := h.dat b t ht
  have KC : Hid (∀ w, Below u.heap.size u w → Calls Tryz.prog 50 #[.slice t.da t.d.length t.dc] w fun e w' => ∃ a' c', e = .returned (.slice a' t.d.length c') ∧ Own w.heap.size w' a' t.d.length c' t.d ∧ Below w.heap.size w w') := fun w hw => bclone_all t.da t.d.length t.dc t.d w (hO.below hw (Nat.le_refl _)).has (by have := hs.1; omega)
  have B0 : Hid (Below u.heap.size u u.drew) := bdr (Below.refl _ _) 1
  have A0 : Hid (∀ o, Below u.heap.size u (u.alloc o).drew) := fun o => bd1 (bal (Below.refl _ _) (Nat.le_refl _) o)
  have HV := hide (And.intro hv (And.intro hD (And.intro hm (And.intro hB hS))))
  have hmu := hv.lt
  clear h ht hs hv hD hm hB hS hO hbl
  generalize hsp : St p = sp at *
  have J := unhide KB _ (unhide B0)
  have HU := hide (And.intro t0 (And.intro t1 (And.intro t2 t3)))
  go_enter Tryz.func48, Tryz.ntmps48
  go_upto_region 1 with fail
  clear t0 t1 t2 t3
  go_region_held3 (fun w => Hid (Below u.heap.size u w) ∧ w.cell? ⟨b, 0, none⟩ = some (.int .i64 t.k) ∧ w.cell? ⟨b, 1, none⟩ = some (.int .i64 (t.n : Int)) ∧ w.cell? ⟨b, 2, none⟩ = some (.int .i64 t.l) ∧ w.cell? ⟨b, 3, none⟩ = some (.slice t.da t.d.length t.dc))
    (with_reducible (first | exact J | exact unhide KB _ (unhide B2) | exact unhide KB _ (unhide B1) | exact unhide KB _ (unhide A0 _) | exact unhide KB _ (bal (unhide B2) (Nat.le_refl _) _) | exact unhide KB _ (bal (unhide B1) (Nat.le_refl _) _) | exact unhide KB _ (b6 (unhide B2) (Nat.le_refl _) _ _ _ _ _ _) | exact unhide KB _ (b6 (unhide B2) (unhide B1).size _ _ _ _ _ _)))
    (first
      | (go_at_call 49; refine (unhide KS _ (by with_reducible (first | exact unhide B0 | exact unhide A0 _))).mono ?_; rintro e w1 ⟨rfl, hb⟩
         have B1 := hide (show Below u.heap.size u w1 from by with_reducible (first | exact (unhide B0).trans (hb.mono (unhide B0).size) | exact (unhide A0 _).trans (hb.mono (unhide A0 _).size)))
         try (with_reducible have N1 := hide (Bl.call (Bl.drew (Bl.new _ _ _)) hb))
         clear hb)
      | (go_at_call 50; refine (unhide KC _ (by with_reducible (first | exact unhide B1 | exact bal (unhide B1) (Nat.le_refl _) _))).mono ?_; rintro e w2 ⟨a9, c9, rfl, ho, hb⟩
         have B2 := hide (show Below u.heap.size u w2 from by with_reducible (first | exact (unhide B1).trans (hb.mono (unhide B1).size) | exact (bal (unhide B1) (Nat.le_refl _) _).trans (hb.mono (bal (unhide B1) (Nat.le_refl _) _).size)))
         try (with_reducible have N2 := hide (Bl.call (Bl.new _ _ _) hb))
         try (with_reducible have N2 := hide (Bl.call (unhide N1) hb))
         try (have n20 := (unhide N2).cell 0 _ rfl; have n21 := (unhide N2).cell 1 _ rfl; have n22 := (unhide N2).cell 2 _ rfl; have n23 := (unhide N2).cell 3 _ rfl; have n24 := (unhide N2).cell 4 _ rfl; have n25 := (unhide N2).cell 5 _ rfl; have n2f := (unhide N2).free)
         have HO := hide (And.intro ho hb)
         clear ho hb))
  · have HX := hide (vis_new (unhide B2) (Nat.le_refl _) (unhide HO).1 (unhide B1).size #[.string sp, .int .i64 t.k, .int .i64 (t.n : Int), .int .i64 t.l, .int .i64 (sizeT t), .slice a9 t.d.length c9])
    clear J A0 KB KS KC B0 B2 HO HU
    generalize w2.alloc (.cells #[.string sp, .int .i64 t.k, .int .i64 (t.n : Int), .int .i64 t.l, .int .i64 (sizeT t), .slice a9 t.d.length c9] 43) = wx at *
    try clear N2 n20 n21 n22 n23 n24 n25 n2f
    try clear N1
    try clear B1
    generalize w2.heap.size = nb at *
    obtain ⟨hbl, hbx, hox, hnb⟩ := unhide HX
    obtain ⟨hv, hD, hm, hB, hS⟩ := unhide HV
    have y0 := hbl.cell 0 _ rfl
    have y1 := hbl.cell 1 _ rfl
    have y2 := hbl.cell 2 _ rfl
    have y3 := hbl.cell 3 _ rfl
    have y4 := hbl.cell 4 _ rfl
    have y5 := hbl.cell 5 _ rfl
    have hvx := hv.call hbx
    have z0 := hvx.cell 0 _ rfl
    obtain ⟨v', w', R, hD', hb', hk'⟩ := (hD.below hbx (Nat.le_refl _)).app (Nat.le_trans hB hbx.size) ⟨p, t, a9, c9⟩ (hox.base hB) hn
    obtain ⟨av, nv, cv, rfl⟩ : ∃ a n c, v' = Value.slice a n c := by obtain ⟨a, c, e⟩ := hD'.shape; exact ⟨a, _, c, e⟩
    have hvw : Bl w' m #[v] 38 := (hk' m _ _ hvx (by decide)).trans hvx
    have q0 := hvw.cell 0 _ rfl
    have qf := hvw.free 0
    have R : Hid (∀ ty, (Builtin.append_ #[38, 38] ty #[v, .slice (some ⟨wx.heap.size, 0, none⟩) 1 1]).run Tryz.prog (wx.alloc (.cells #[.string sp, .int .i64 t.k, .int .i64 (t.n : Int), .int .i64 t.l, .int .i64 (sizeT t), .slice a9 t.d.length c9] 43)) = .ok (.slice av nv cv) w') := by rw [← hsp]; exact R
    have HR : Hid (∃ v'' a c, Bl (w'.setCell ⟨m, 0, none⟩ (.slice av nv cv)) m #[v''] 38 ∧ DL B (w'.setCell ⟨m, 0, none⟩ (.slice av nv cv)) v'' (xs ++ [⟨p, t, a, c⟩]) ∧ Below B u (w'.setCell ⟨m, 0, none⟩ (.slice av nv cv)) ∧ Fx m u (w'.setCell ⟨m, 0, none⟩ (.slice av nv cv))) := by
      have hoth : ∀ k, k ≠ m → (w'.setCell ⟨m, 0, none⟩ (.slice av nv cv)).heap[k]? = w'.heap[k]? := fun k hk => Below.heap_setCell _ _ _ _ hk
      refine ⟨.slice av nv cv, a9, c9, hvw.set 0 _, hD'.kept (fun k cs ty _ hh hty => hoth k (fun e => ?_)), ((hbx.mono hB).trans hb').setCell (p := ⟨m, 0, none⟩) hm _, (Fx.of hbx (Nat.le_refl _)).trans (fun k cs ty hh ht hkm => (hoth k hkm).trans (hk' k cs ty hh ht))⟩
      subst e
      have h2 : w'.heap[k]? = _ := hvw
      rw [hh] at h2
      have := cells_ty h2
      rcases hty with e | e <;> rw [e] at this <;> exact absurd this (by decide)
    clear hbl hbx hox hnb hv hD hm hB hS hvx hD' hb' hk' hvw HX HV
    go_wp2_with (at_builtin; refine wpList_append_run 38 rfl _ _ rfl _ _ _ rfl rfl (unhide R) ?_; clear R)
    go_ret
    exact ⟨rfl, HR.out⟩
  · have HX := hide (vis_set (unhide N2) rfl (unhide B2) (unhide B1).size (unhide HO).1 (by simp; exact Nat.le_succ_of_le (unhide B1).size) (.string sp) (.int .i64 t.k) (.int .i64 (t.n : Int)) (.int .i64 t.l) (.int .i64 (sizeT t)) (.slice a9 t.d.length c9))
    clear J A0 KB KS KC B0 B2 HO HU
    generalize ((((((w2.setCell ⟨w1.heap.size, 0, none⟩ (.string sp)).setCell ⟨w1.heap.size, 1, none⟩ (.int .i64 t.k)).setCell ⟨w1.heap.size, 2, none⟩ (.int .i64 (t.n : Int))).setCell ⟨w1.heap.size, 3, none⟩ (.int .i64 t.l)).setCell ⟨w1.heap.size, 4, none⟩ (.int .i64 (sizeT t))).setCell ⟨w1.heap.size, 5, none⟩ (.slice a9 t.d.length c9)) = wx at *
    try clear N2 n20 n21 n22 n23 n24 n25 n2f
    try clear N1
    try clear B1
    generalize w1.heap.size = nb at *
    obtain ⟨hbl, hbx, hox, hnb⟩ := unhide HX
    obtain ⟨hv, hD, hm, hB, hS⟩ := unhide HV
    have y0 := hbl.cell 0 _ rfl
    have y1 := hbl.cell 1 _ rfl
    have y2 := hbl.cell 2 _ rfl
    have y3 := hbl.cell 3 _ rfl
    have y4 := hbl.cell 4 _ rfl
    have y5 := hbl.cell 5 _ rfl
    have hvx := hv.call hbx
    have z0 := hvx.cell 0 _ rfl
    obtain ⟨v', w', R, hD', hb', hk'⟩ := (hD.below hbx (Nat.le_refl _)).app (Nat.le_trans hB hbx.size) ⟨p, t, a9, c9⟩ (hox.base hB) hn
    obtain ⟨av, nv, cv, rfl⟩ : ∃ a n c, v' = Value.slice a n c := by obtain ⟨a, c, e⟩ := hD'.shape; exact ⟨a, _, c, e⟩
    have hvw : Bl w' m #[v] 38 := (hk' m _ _ hvx (by decide)).trans hvx
    have q0 := hvw.cell 0 _ rfl
    have qf := hvw.free 0
    have R : Hid (∀ ty, (Builtin.append_ #[38, 38] ty #[v, .slice (some ⟨wx.heap.size, 0, none⟩) 1 1]).run Tryz.prog (wx.alloc (.cells #[.string sp, .int .i64 t.k, .int .i64 (t.n : Int), .int .i64 t.l, .int .i64 (sizeT t), .slice a9 t.d.length c9] 43)) = .ok (.slice av nv cv) w') := by rw [← hsp]; exact R
    have HR : Hid (∃ v'' a c, Bl (w'.setCell ⟨m, 0, none⟩ (.slice av nv cv)) m #[v''] 38 ∧ DL B (w'.setCell ⟨m, 0, none⟩ (.slice av nv cv)) v'' (xs ++ [⟨p, t, a, c⟩]) ∧ Below B u (w'.setCell ⟨m, 0, none⟩ (.slice av nv cv)) ∧ Fx m u (w'.setCell ⟨m, 0, none⟩ (.slice av nv cv))) := by
      have hoth : ∀ k, k ≠ m → (w'.setCell ⟨m, 0, none⟩ (.slice av nv cv)).heap[k]? = w'.heap[k]? := fun k hk => Below.heap_setCell _ _ _ _ hk
      refine ⟨.slice av nv cv, a9, c9, hvw.set 0 _, hD'.kept (fun k cs ty _ hh hty => hoth k (fun e => ?_)), ((hbx.mono hB).trans hb').setCell (p := ⟨m, 0, none⟩) hm _, (Fx.of hbx (Nat.le_refl _)).trans (fun k cs ty hh ht hkm => (hoth k hkm).trans (hk' k cs ty hh ht))⟩
      subst e
      have h2 : w'.heap[k]? = _ := hvw
      rw [hh] at h2
      have := cells_ty h2
      rcases hty with e | e <;> rw [e] at this <;> exact absurd this (by decide)
    clear hbl hbx hox hnb hv hD hm hB hS hvx hD' hb' hk' hvw HX HV
    go_wp2_with (at_builtin; refine wpList_append_run 38 rfl _ _ rfl _ _ _ rfl rfl (unhide R) ?_; clear R)
    go_ret
    exact ⟨rfl, HR.out⟩
  · have HX := hide (vis_set (unhide N2) rfl (unhide B2) (Nat.le_refl _) (unhide HO).1 (unhide B1).size (.string sp) (.int .i64 t.k) (.int .i64 (t.n : Int)) (.int .i64 t.l) (.int .i64 (sizeT t)) (.slice a9 t.d.length c9))
    clear J A0 KB KS KC B0 B2 HO HU
    generalize ((((((w2.setCell ⟨u.heap.size, 0, none⟩ (.string sp)).setCell ⟨u.heap.size, 1, none⟩ (.int .i64 t.k)).setCell ⟨u.heap.size, 2, none⟩ (.int .i64 (t.n : Int))).setCell ⟨u.heap.size, 3, none⟩ (.int .i64 t.l)).setCell ⟨u.heap.size, 4, none⟩ (.int .i64 (sizeT t))).setCell ⟨u.heap.size, 5, none⟩ (.slice a9 t.d.length c9)) = wx at *
    try clear N2 n20 n21 n22 n23 n24 n25 n2f
    try clear N1
    try clear B1
    obtain ⟨hbl, hbx, hox, hnb⟩ := unhide HX
    obtain ⟨hv, hD, hm, hB, hS⟩ := unhide HV
    have y0 := hbl.cell 0 _ rfl
    have y1 := hbl.cell 1 _ rfl
    have y2 := hbl.cell 2 _ rfl
    have y3 := hbl.cell 3 _ rfl
    have y4 := hbl.cell 4 _ rfl
    have y5 := hbl.cell 5 _ rfl
    have hvx := hv.call hbx
    have z0 := hvx.cell 0 _ rfl
    obtain ⟨v', w', R, hD', hb', hk'⟩ := (hD.below hbx (Nat.le_refl _)).app (Nat.le_trans hB hbx.size) ⟨p, t, a9, c9⟩ (hox.base hB) hn
    obtain ⟨av, nv, cv, rfl⟩ : ∃ a n c, v' = Value.slice a n c := by obtain ⟨a, c, e⟩ := hD'.shape; exact ⟨a, _, c, e⟩
    have hvw : Bl w' m #[v] 38 := (hk' m _ _ hvx (by decide)).trans hvx
    have q0 := hvw.cell 0 _ rfl
    have qf := hvw.free 0
    have R : Hid (∀ ty, (Builtin.append_ #[38, 38] ty #[v, .slice (some ⟨wx.heap.size, 0, none⟩) 1 1]).run Tryz.prog (wx.alloc (.cells #[.string sp, .int .i64 t.k, .int .i64 (t.n : Int), .int .i64 t.l, .int .i64 (sizeT t), .slice a9 t.d.length c9] 43)) = .ok (.slice av nv cv) w') := by rw [← hsp]; exact R
    have HR : Hid (∃ v'' a c, Bl (w'.setCell ⟨m, 0, none⟩ (.slice av nv cv)) m #[v''] 38 ∧ DL B (w'.setCell ⟨m, 0, none⟩ (.slice av nv cv)) v'' (xs ++ [⟨p, t, a, c⟩]) ∧ Below B u (w'.setCell ⟨m, 0, none⟩ (.slice av nv cv)) ∧ Fx m u (w'.setCell ⟨m, 0, none⟩ (.slice av nv cv))) := by
      have hoth : ∀ k, k ≠ m → (w'.setCell ⟨m, 0, none⟩ (.slice av nv cv)).heap[k]? = w'.heap[k]? := fun k hk => Below.heap_setCell _ _ _ _ hk
      refine ⟨.slice av nv cv, a9, c9, hvw.set 0 _, hD'.kept (fun k cs ty _ hh hty => hoth k (fun e => ?_)), ((hbx.mono hB).trans hb').setCell (p := ⟨m, 0, none⟩) hm _, (Fx.of hbx (Nat.le_refl _)).trans (fun k cs ty hh ht hkm => (hoth k hkm).trans (hk' k cs ty hh ht))⟩
      subst e
      have h2 : w'.heap[k]? = _ := hvw
      rw [hh] at h2
      have := cells_ty h2
      rcases hty with e | e <;> rw [e] at this <;> exact absurd this (by decide)
    clear hbl hbx hox hnb hv hD hm hB hS hvx hD' hb' hk' hvw HX HV
    go_wp2_with (at_builtin; refine wpList_append_run 38 rfl _ _ rfl _ _ _ rfl rfl (unhide R) ?_; clear R)
    go_ret
    exact ⟨rfl, HR.out⟩

end Go.Proofs.YtknmgefpjdfenaaGreat

/- each with Dump's visitor, and Dump. -/
namespace Go.Proofs.YtknmgefpjdfenaaGreat
set_option maxRecDepth 100000
set_option maxHeartbeats 8000000
open Go.RowKit Go.Shelf Go.Maps
set_option linter.unusedVariables false

shelf_lay Lays.n102 Nm 102 at Tryz as Tryz.trimSL

theorem trims_any (p:List UInt8) (w:World) (hp:p.length ≤ 9223372036854775807) :
  Calls Tryz.prog 92 #[.string (St p),.string ⟨#[47]⟩] w fun e w'=>e=.returned (.string (St (Lib.trimSuffix p [47])))∧w'=w:=by
 have h:=Any.strings_TrimSuffix Tryz.trimSL (St p) ⟨#[47]⟩ w (by rw [St_size]; exact hp)
 rw [data_St] at h
 exact h

def subP (p x:List UInt8):List UInt8:=Lib.trimSuffix p [47] ++ [47] ++ x

theorem trims_len (p:List UInt8):(Lib.trimSuffix p [47]).length ≤ p.length:=by
 unfold Lib.trimSuffix
 split
 ·simp
 ·exact Nat.le_refl _

def dumpL (s:Tr):Nat→List UInt8→Nat→List (List UInt8 × Th)
 | 0,_,_=>[]
 | n + 1,p,b=>match s.T b with
  | none=>[]
  | some t=>(p,t) :: t.ns.flatMap (fun e=>dumpL s n (subP p e.1) e.2)

theorem dumpL_some {s:Tr} {b:Nat} {t:Th} (h:s.T b=some t) (n:Nat) (p:List UInt8):dumpL s (n + 1) p b=(p,t) :: t.ns.flatMap (fun e=>dumpL s n (subP p e.1) e.2):=by
 conv=>lhs; unfold dumpL
 rw [h]

structure Deep (s:Tr) (rk:Nat→Nat):Prop where
 live:∀ b t,s.T b=some t→∀ e ∈ t.ns,(∃ t',s.T e.2=some t')∧e.1.length ≤ 200∧rk e.2 < rk b
 small:∀ b t,s.T b=some t→Small t

theorem TM.low {u v:World} {S:Nat→Prop} {g B:Nat} {s:Tr} (h:TM u S g s) (hS:∀ k,S k→k < B) (hb:Below B u v):TM v S g s :=
 h.kept (fun k hk=>hb.block k (hS k hk)) (fun _ hk=>hk) (fun k hk=>Nat.lt_of_lt_of_le (h.lt k hk) hb.size)

def EP (B m:Nat) (s:Tr) (n:Nat) (p:List UInt8) (b:Nat) (xs:List Nd) (u w:World):Prop :=
 ∃ v ys,Bl w m #[v] 38∧DL B w v (xs ++ ys)∧ys.map (fun x=>(x.p,x.t))=dumpL s n p b∧Below B u w∧Fx m u w

theorem St_app (a b:List UInt8):St a ++ St b=St (a ++ b):=by
 apply ByteArray.ext
 simp [St]

theorem St_app47 (a:List UInt8):St a ++ (⟨#[47]⟩:ByteArray)=St (a ++ [47]):=St_app a [47]

theorem each_dump {S : Nat → Prop} {g m B : Nat} {s : Tr} {rk : Nat → Nat} (hS : ∀ k, S k → k < B) (hm : B ≤ m) (hdp : Deep s rk) (n : Nat) : ∀ (b : Nat) (p : List UInt8) (u : World) (v : Value) (xs : List Nd) (t : Th), s.T b = some t → rk b < n → TM u S g s → Bl u m #[v] 38 → DL B u v xs → B ≤ u.heap.size →
    xs.length + (dumpL s n p b).length ≤ 1800000000000 → p.length + 300 * n ≤ 1000000000000000 →
    Calls Tryz.prog 47 #[.pointer (some ⟨b, 0, none⟩), .string (St p), .func (.func 48) #[] #[.pointer (some ⟨m, 0, none⟩)]] u fun e w' => e = .returned (.bool true) ∧ EP B m s n p b xs u w' := by
  induction n with
  | zero => intro b p u v xs t _ h; omega
  | succ n IH =>
    intro b p u v xs t ht hrk h hv hD hB hlen hpl
    have hsm := hdp.small b t ht
    have hdl := dumpL_some ht n p
    rw [hdl, List.length_cons] at hlen
    have KV := hide (visit_any h ht hsm hS hm hv hD hB (by omega) p)
    have hmu : m < u.heap.size := hv.lt
    have KR : Hid (∀ w, Below B u w → Calls Tryz.prog 61 #[.pointer (some ⟨b, 0, none⟩)] w fun e w' => ∃ a c, e = .returned (.slice a t.ns.length c) ∧ OwnS w.heap.size w' a t.ns.length c (t.ns.map (·.1)) ∧ Below w.heap.size w w') := fun w hw => by
      by_cases h2 : t.k = 2
      · exact rising_dir (h.low hS hw) ht h2 hsm.2.1
      · have h0 : t.ns = [] := hsm.2.2.resolve_left h2
        rw [h0]
        exact rising_file (h.low hS hw) ht h2
    have HT := hide (And.intro h (And.intro ht (And.intro hrk (And.intro hB (And.intro hlen (And.intro hpl hdl))))))
    have HDP := hide (And.intro hS (And.intro hm hdp))
    have IH := hide IH
    have hnn := hsm.2.1
    clear h ht hrk hv hD hB hlen hpl hdl hsm hS hm hdp
    generalize hsp : St p = sp at *
    go_enter Tryz.func47, Tryz.ntmps47
    go_wp2_with fail
    refine (unhide KV).mono ?_
    rintro e w1 ⟨rfl, v1, a1, c1, hbl, hDL, hbw, hfx⟩
    have HE : Hid (Bl w1 m #[v1] 38 ∧ DL B w1 v1 (xs ++ [⟨p, t, a1, c1⟩]) ∧ Below B u w1 ∧ Fx m u w1) := ⟨hbl, hDL, hbw, hfx⟩
    have KR := hide (KR.out w1 hbw)
    clear KV hbl hDL hbw hfx
    go_wp2_with fail
    refine (unhide KR).mono ?_
    rintro e w2 ⟨an, cn, rfl, ho, hb⟩
    have HI : Hid (∃ v ys, Bl w2 m #[v] 38 ∧ DL B w2 v (xs ++ ys) ∧ ys.map (fun x => (x.p, x.t)) = (p, t) :: (t.ns.take 0).flatMap (fun e => dumpL s n (subP p e.1) e.2) ∧ Below B u w2 ∧ Fx m u w2 ∧ OwnS w1.heap.size w2 an t.ns.length cn (t.ns.map (·.1))) := by
      obtain ⟨e1, e2, e3, e4⟩ := HE.out
      exact ⟨v1, [⟨p, t, a1, c1⟩], e1.call hb, e2.below hb (Nat.le_refl _), rfl, e3.trans (hb.mono (Nat.le_trans HT.out.2.2.2.1 e3.size)), e4.trans (Fx.of hb (Nat.le_refl _)), ho⟩
    have hm1 : m < w1.heap.size := Nat.lt_of_lt_of_le hmu HE.out.2.2.1.size
    clear KR ho hb HE
    generalize hnl : t.ns.length = nl at *
    go_wp2_with fail
    go_loopw [17] (fun iv wr => ∃ k : Nat, k ≤ nl ∧ iv = .int .i64 (k : Int) ∧ Hid (∃ v ys, Bl wr m #[v] 38 ∧ DL B wr v (xs ++ ys) ∧ ys.map (fun x => (x.p, x.t)) = (p, t) :: (t.ns.take k).flatMap (fun e => dumpL s n (subP p e.1) e.2) ∧ Below B u wr ∧ Fx m u wr ∧ OwnS w1.heap.size wr an nl cn (t.ns.map (·.1)))) (fun iv _ => (nl : Int).toNat - (intOf iv).toNat)
    case atStart => exact ⟨0, Nat.zero_le _, rfl, HI⟩
    case round =>
      obtain ⟨k, hk, rfl, hJ⟩ := hrel
      clear HI
      by_cases hlt : k < nl
      · have HQ : Hid (∃ (an0 : Nat) (off : Nat) (mp c : Nat) (x : List UInt8) (v2 : Value) (ys : List Nd), an = some ⟨an0, off, none⟩ ∧ wr.cell? ⟨an0, off + k, none⟩ = some (.string (St x)) ∧
            (∀ w, Below B u w → Hid (Below B u w) ∧ w.cell? ⟨b, 4, none⟩ = some (.map (some mp)) ∧ (Instr.lookup 67 (.map (some mp)) (.string (St x)) false).run Tryz.prog w = .ok (.pointer (some ⟨c, 0, none⟩)) w) ∧
            (Calls Tryz.prog 47 #[.pointer (some ⟨c, 0, none⟩), .string (St (subP p x)), .func (.func 48) #[] #[.pointer (some ⟨m, 0, none⟩)]] wr.drew fun e w' => e = .returned (.bool true) ∧ EP B m s n (subP p x) c (xs ++ ys) wr.drew w') ∧
            x.length ≤ 200 ∧ p.length ≤ 1000000000000000 ∧ Below B u wr ∧
            (∀ w', EP B m s n (subP p x) c (xs ++ ys) wr.drew w' → Below B u w' ∧ ∃ v ys, Bl w' m #[v] 38 ∧ DL B w' v (xs ++ ys) ∧ ys.map (fun x => (x.p, x.t)) = (p, t) :: (t.ns.take (k + 1)).flatMap (fun e => dumpL s n (subP p e.1) e.2) ∧ Below B u w' ∧ Fx m u w' ∧ OwnS w1.heap.size w' an nl cn (t.ns.map (·.1)))) := by
          obtain ⟨h, ht, hrk, hB, hlen, hpl, hdl⟩ := HT.out
          obtain ⟨hS, hm, hdp⟩ := HDP.out
          obtain ⟨v2, ys, q1, q2, q3, q4, q5, q6⟩ := hJ.out
          have hkn : k < t.ns.length := by omega
          have hmem : t.ns[k] ∈ t.ns := List.getElem_mem hkn
          obtain ⟨⟨t', ht'⟩, hx, hrc⟩ := hdp.live b t ht _ hmem
          have h2 : t.k = 2 := (hdp.small b t ht).2.2.resolve_right (fun e => by rw [e] at hkn; simp at hkn)
          obtain ⟨an0, off, ean, hcl⟩ := q6.has.cell hlt
          have hname : (t.ns.map (·.1))[k]?.getD [] = t.ns[k].1 := by rw [List.getElem?_map, List.getElem?_eq_getElem hkn]; rfl
          rw [hname] at hcl
          have htot : t.ns.flatMap (fun e => dumpL s n (subP p e.1) e.2) = (t.ns.take k).flatMap (fun e => dumpL s n (subP p e.1) e.2) ++ (dumpL s n (subP p t.ns[k].1) t.ns[k].2 ++ (t.ns.drop (k + 1)).flatMap (fun e => dumpL s n (subP p e.1) e.2)) := by
            conv => lhs; rw [← List.take_append_drop k t.ns, List.drop_eq_getElem_cons hkn]
            rw [List.flatMap_append, List.flatMap_cons]
          have hyl : ys.length = ((t.ns.take k).flatMap (fun e => dumpL s n (subP p e.1) e.2)).length + 1 := by
            have := congrArg List.length q3
            simpa using this
          have hsl : (subP p t.ns[k].1).length ≤ p.length + 201 := by
            unfold subP
            have := trims_len p
            simp; omega
          have hbd : Below B u wr.drew := bd1 q4
          refine ⟨an0, off, t.mp, t.ns[k].2, t.ns[k].1, v2, ys, ean, hcl, fun w hw => ?_, ?_, hx, by omega, q4, fun w' hE => ?_⟩
          · have hM := h.low hS hw
            refine ⟨hw, hM.dir_map ht h2, ?_⟩
            have := (hM.map b t ht h2).look hx
            rw [look_mem (hM.map b t ht h2).2 hmem] at this
            exact this
          · refine IH t.ns[k].2 (subP p t.ns[k].1) wr.drew v2 (xs ++ ys) t' ht' (by omega) (h.low hS hbd) q1 (q2.kept (fun _ _ _ _ _ _ => rfl)) (Nat.le_trans hB q4.size) ?_ (by omega)
            have h3 := congrArg List.length htot
            rw [List.length_append, List.length_append] at h3
            rw [List.length_append]
            omega
          · obtain ⟨v3, ys3, r1, r2, r3, r4, r5⟩ := hE
            have hbw : Below B u w' := q4.trans ⟨r4.os, r4.tape, r4.output, r4.size, r4.block⟩
            refine ⟨hbw, v3, ys ++ ys3, r1, by rw [← List.append_assoc]; exact r2, ?_, hbw, q5.trans r5, q6.kept (fun g e => ?_)⟩
            · rw [List.map_append, q3, r3, List.take_add_one, List.getElem?_eq_getElem hkn, List.flatMap_append]
              simp
            · obtain ⟨hlt1, hlo⟩ := q6.lt e
              obtain ⟨_, _, _, q64⟩ := q6
              rcases q64 with ⟨e0, _⟩ | ⟨g', cur, e', _, hh, _⟩
              · rw [e0] at e; cases e
              · rw [e] at e'
                cases e'
                exact r5 g cur 9 hh (by decide) (by omega)
        obtain ⟨an0, off, mp, c, x, v2, ys, rfl, hcl, hKB, hKE, hx, hpl, hbu, hfin⟩ := HQ.out
        have KB := hide hKB
        have KE := hide hKE
        have KT : Hid (∀ w, Calls Tryz.prog 92 #[.string sp, .string ⟨#[47]⟩] w fun e w' => e = .returned (.string (St (Lib.trimSuffix p [47]))) ∧ w' = w) := fun w => by rw [← hsp]; exact trims_any p w (by omega)
        have ha1 := St_app47 (Lib.trimSuffix p [47])
        have hz1 : ¬ 9223372036854775807 < (St (Lib.trimSuffix p [47])).size + 1 := by rw [St_size]; have := trims_len p; omega
        have ha2 : St (Lib.trimSuffix p [47] ++ [47]) ++ St x = St (subP p x) := St_app _ _
        have hz2 : ¬ 9223372036854775807 < (St (Lib.trimSuffix p [47] ++ [47])).size + (St x).size := by rw [St_size, St_size]; have := trims_len p; simp; omega
        have J := hKB wr.drew (bd1 hbu)
        have HF := hide hfin
        have hlt' : (k : Int) < (nl : Int) := by omega
        clear hKB hKE hfin hbu HQ hJ HT HDP IH
        generalize subP p x = pq at *
        generalize St (Lib.trimSuffix p [47]) = st at *
        generalize St (Lib.trimSuffix p [47] ++ [47]) = s1 at *
        generalize St pq = sq at *
        generalize St x = sx at *
        go_upto_region 6 with fail
        go_region_held3 (fun w => Hid (Below B u w) ∧ w.cell? ⟨b, 4, none⟩ = some (.map (some mp)) ∧ (Instr.lookup 67 (.map (some mp)) (.string sx) false).run Tryz.prog w = .ok (.pointer (some ⟨c, 0, none⟩)) w)
          (with_reducible (first | exact J | exact unhide KB _ (unhide B1)))
          (first
            | (go_at_call 92; refine (unhide KT _).mono ?_; rintro e w' ⟨rfl, rfl⟩)
            | (go_at_call 47; refine (unhide KE).mono ?_; rintro e w3 ⟨rfl, hE⟩
               have HG := hide (unhide HF w3 hE)
               have B1 := hide (unhide HF w3 hE).1
               clear hE))
        all_goals
          clear J KB KE KT HF B1
          go_wp2_with fail
          go_roundw
          case rel => exact ⟨k + 1, by omega, by go_num, HG.out.2⟩
          case measure => simp [intOf]; omega
      · obtain rfl : k = nl := by omega
        have HR : Hid (EP B m s (n + 1) p b xs u wr) := by
          obtain ⟨v2, ys, q1, q2, q3, q4, q5, _⟩ := hJ.out
          rw [List.take_of_length_le (by omega)] at q3
          exact ⟨v2, ys, q1, q2, by rw [q3, HT.out.2.2.2.2.2.2], q4, q5⟩
        clear hJ HT HDP IH
        go_wp2_with fail
        go_ret
        exact ⟨rfl, HR.out⟩

end Go.Proofs.YtknmgefpjdfenaaGreat

/- Dump. -/
namespace Go.Proofs.YtknmgefpjdfenaaGreat
set_option maxRecDepth 100000
set_option maxHeartbeats 8000000
open Go.RowKit Go.Shelf Go.Maps
set_option linter.unusedVariables false

theorem dump_ok {w:World} {S:Nat→Prop} {g r:Nat} {s:Tr} {rk:Nat→Nat} (h:TM w S g s) (hk:Ok s r) (hdp:Deep s rk) (n:Nat) (hn:rk r < n) (hnn:n ≤ 1800000000000) (hl:(dumpL s n [47] r).length ≤ 1800000000000) :
  Calls Tryz.prog 12 #[.pointer (some ⟨g,0,none⟩)] w fun e w'=>∃ v ys,e=.returned v∧DL w.heap.size w' v ys∧ys.map (fun x=>(x.p,x.t))=dumpL s n [47] r∧Below w.heap.size w w':=by
 have KN:=hide (isnone_no h hk.row_ne)
 have hb0:Below w.heap.size w (w.alloc (.cells #[.slice none 0 0] 38)):=(Below.refl _ w).alloc (Nat.le_refl _) _
 obtain ⟨t,ht,_⟩:=hk.dir
 have h1:=h.below hb0
 have KE:Hid (Calls Tryz.prog 47 #[.pointer (some ⟨r,0,none⟩),.string ⟨#[47]⟩,.func (.func 48) #[] #[.pointer (some ⟨w.heap.size,0,none⟩)]] (w.alloc (.cells #[.slice none 0 0] 38)) fun e w'=>e=.returned (.bool true)∧EP w.heap.size w.heap.size s n [47] r [] (w.alloc (.cells #[.slice none 0 0] 38)) w') :=
  each_dump h.lt (Nat.le_refl _) hdp n r [47] _ (.slice none 0 0) [] t ht hn h1 (Bl.new _ _ _) (DL.nil _ _) hb0.size (by simpa using hl) (by simp; omega)
 obtain ⟨_,c1,_,_⟩:=h1.tree_cells
 have hln:=hk.row_len
 obtain ⟨rg,hra,_,cr,_⟩:=h1.row.cell (j:=1) hln
 rw [hk.root] at cr
 simp only [Option.getD_some,ptrO,Option.map_some] at cr
 rw [hra] at c1
 have i1:(1:Int) < (s.row.length:Int):=by omega
 have HB:=hide hb0
 clear h hk hdp h1 hn hnn hl hb0 ht hra
 generalize s.row.length=rl at *
 go_enter Tryz.func12,Tryz.ntmps12
 go_wp2_with fail
 refine (unhide KN).mono ?_
 rintro e w1 ⟨rfl,rfl⟩
 clear KN
 go_upto_region 4 with fail
 change Code.wp _ _ _ _ (w1.alloc (.cells #[.slice none 0 0] 38))
 generalize w1.alloc (.cells #[.slice none 0 0] 38)=w2 at *
 go_wp2_with fail
 refine (unhide KE).mono ?_
 rintro e w3 ⟨rfl,v,ys,hbl,hD,hm,hb,hf⟩
 have z0:=hbl.cell 0 _ rfl
 have HR:Hid (DL w1.heap.size w3 v ys∧ys.map (fun x=>(x.p,x.t))=dumpL s n [47] r∧Below w1.heap.size w1 w3):=⟨hD,hm,HB.out.trans hb⟩
 clear KE hbl hD hm hb hf HB c1 cr
 go_wp2_with fail
 go_ret
 exact ⟨v,ys,rfl,HR.out⟩

end Go.Proofs.YtknmgefpjdfenaaGreat

/- The reference's tree in memory: its own block, the row of things by number, their bytes and their names as they came. -/
namespace Go.Proofs.YtknmgefpjdfenaaGreat
set_option maxRecDepth 100000
set_option maxHeartbeats 8000000
open Go.RowKit Go.Shelf Go.Maps
set_option linter.unusedVariables false

abbrev NL:=List (List UInt8 × Nat)

structure RT where
 k:Int
 d:List Int
 da:Option Addr
 dc:Nat
 ns:NL
 na:Option Addr
 nc:Nat

def RT.none:RT:={ k:=0,d:=[],da:=.none,dc:=0,ns:=[],na:=.none,nc:=0 }

def rcs (x:RT):List Value:=[.int .i64 x.k,.slice x.da x.d.length x.dc,.slice x.na x.ns.length x.nc]

def ncs2 (e:List UInt8 × Nat):List Value:=[.int .i64 (e.2:Int),.string (St e.1)]

structure RTr where
 most:Int
 th:List RT
 ta:Option Addr
 tc:Nat
 op:Nat→Nat

def scell (s:RTr) (j:Nat):Value:=if j=0 then .int .i64 s.most else if j=1 then .slice s.ta s.th.length s.tc else .int .i64 (s.op (j - 2):Int)

def tcells (xs:List RT):List Value:=xs.flatMap rcs

def ncells (ns:NL):List Value:=ns.flatMap ncs2

theorem tcells_len (xs:List RT):(tcells xs).length=xs.length * 3:=by
 induction xs with
 | nil=>rfl
 | cons x r ih =>
  have:tcells (x :: r)=rcs x ++ tcells r:=rfl
  rw [this,List.length_append,ih,List.length_cons]
  simp [rcs]
  omega

theorem ncells_len (xs:NL):(ncells xs).length=xs.length * 2:=by
 induction xs with
 | nil=>rfl
 | cons x r ih =>
  have:ncells (x :: r)=ncs2 x ++ ncells r:=rfl
  rw [this,List.length_append,ih,List.length_cons]
  simp [ncs2]
  omega

theorem tcells_get:∀ (xs:List RT) (k j:Nat) (x:RT),xs[k]?=some x→j < 3→(tcells xs)[k * 3 + j]?=(rcs x)[j]?
 | [],k,j,x,h,hj=>by cases h
 | a :: r,0,j,x,h,hj=>by
  simp at h
  subst h
  have e:tcells (a :: r)=rcs a ++ tcells r:=rfl
  rw [e,Nat.zero_mul,Nat.zero_add,List.getElem?_append_left (by simp [rcs]; omega)]
 | a :: r,k + 1,j,x,h,hj=>by
  have h':r[k]?=some x:=by simpa using h
  have e:tcells (a :: r)=rcs a ++ tcells r:=rfl
  have hl:(rcs a).length=3:=rfl
  rw [e,List.getElem?_append_right (by omega),hl,← tcells_get r k j x h' hj]
  congr 1
  omega

theorem ncells_get:∀ (xs:NL) (k j:Nat) (x:List UInt8 × Nat),xs[k]?=some x→j < 2→(ncells xs)[k * 2 + j]?=(ncs2 x)[j]?
 | [],k,j,x,h,hj=>by cases h
 | a :: r,0,j,x,h,hj=>by
  simp at h
  subst h
  have e:ncells (a :: r)=ncs2 a ++ ncells r:=rfl
  rw [e,Nat.zero_mul,Nat.zero_add,List.getElem?_append_left (by simp [ncs2]; omega)]
 | a :: r,k + 1,j,x,h,hj=>by
  have h':r[k]?=some x:=by simpa using h
  have e:ncells (a :: r)=ncs2 a ++ ncells r:=rfl
  have hl:(ncs2 a).length=2:=rfl
  rw [e,List.getElem?_append_right (by omega),hl,← ncells_get r k j x h' hj]
  congr 1
  omega

def OwnN (B:Nat) (w:World) (a:Option Addr) (c:Nat) (ns:NL):Prop:=w.ownsRow B 120 2 (.slice a ns.length c) ns.length (ncells ns)

def OwnX (B:Nat) (w:World) (a:Option Addr) (c:Nat) (xs:List RT):Prop:=w.ownsRow B 73 3 (.slice a xs.length c) xs.length (tcells xs)

theorem OwnN.kept {B:Nat} {w w':World} {a:Option Addr} {c:Nat} {ns:NL} (h:OwnN B w a c ns) (hk:∀ g,a=some ⟨g,0,none⟩→w'.heap[g]?=w.heap[g]?):OwnN B w' a c ns:=by
 obtain ⟨h1,h2⟩:=h
 refine ⟨h1,h2.imp id ?_⟩
 rintro ⟨g,cap,cur,e,hg,hh,r⟩
 cases e
 exact ⟨g,_,cur,rfl,hg,(hk g rfl).trans hh,r⟩

theorem OwnX.kept {B:Nat} {w w':World} {a:Option Addr} {c:Nat} {ns:List RT} (h:OwnX B w a c ns) (hk:∀ g,a=some ⟨g,0,none⟩→w'.heap[g]?=w.heap[g]?):OwnX B w' a c ns:=by
 obtain ⟨h1,h2⟩:=h
 refine ⟨h1,h2.imp id ?_⟩
 rintro ⟨g,cap,cur,e,hg,hh,r⟩
 cases e
 exact ⟨g,_,cur,rfl,hg,(hk g rfl).trans hh,r⟩

theorem OwnN.at {B:Nat} {w:World} {a:Option Addr} {c:Nat} {ns:NL} (h:OwnN B w a c ns) {g:Nat} (e:a=some ⟨g,0,none⟩):g < w.heap.size∧B ≤ g∧∃ cur,w.heap[g]?=some (.cells cur 120 (0,0)):=by
 obtain ⟨h1,h2⟩:=h
 rcases h2 with ⟨e',_⟩ | ⟨g',cap,cur,e',hg,hh,r⟩
 ·rw [e] at e'; cases e'
 ·rw [e] at e'
  cases e'
  exact ⟨(Array.getElem?_eq_some_iff.1 hh).1,hg,cur,hh⟩

theorem OwnX.at {B:Nat} {w:World} {a:Option Addr} {c:Nat} {ns:List RT} (h:OwnX B w a c ns) {g:Nat} (e:a=some ⟨g,0,none⟩):g < w.heap.size∧B ≤ g∧∃ cur,w.heap[g]?=some (.cells cur 73 (0,0)):=by
 obtain ⟨h1,h2⟩:=h
 rcases h2 with ⟨e',_⟩ | ⟨g',cap,cur,e',hg,hh,r⟩
 ·rw [e] at e'; cases e'
 ·rw [e] at e'
  cases e'
  exact ⟨(Array.getElem?_eq_some_iff.1 hh).1,hg,cur,hh⟩

theorem OwnN.cell {B:Nat} {w:World} {a:Option Addr} {c:Nat} {ns:NL} (h:OwnN B w a c ns) {k:Nat} {e:List UInt8 × Nat} (he:ns[k]?=some e):∃ g,a=some ⟨g,0,none⟩∧g < w.heap.size∧w.cell? ⟨g,k * 2,none⟩=some (.int .i64 (e.2:Int))∧w.cell? ⟨g,k * 2 + 1,none⟩=some (.string (St e.1)):=by
 have hk:=(List.getElem?_eq_some_iff.1 he).1
 have hc:=fun g (q:_)=>h.cells (g:=g) q
 rcases h.2 with ⟨_,hn⟩ | ⟨g,cap,cur,e',_,hh,_⟩
 ·omega
 ·cases e'
  have f:=fun (j:Nat) (u:Value) (hj:j < 2) (hu:(ncs2 e)[j]?=some u)=>hc g rfl (k * 2 + j) u ((ncells_get ns k j e he hj).trans hu)
  have c0:=f 0 _ (by omega) rfl
  have c1:=f 1 _ (by omega) rfl
  rw [World.add_zero_spot,Nat.zero_add] at c0 c1
  exact ⟨g,rfl,(Array.getElem?_eq_some_iff.1 hh).1,c0,c1⟩

theorem OwnX.cell {B:Nat} {w:World} {a:Option Addr} {c:Nat} {xs:List RT} (h:OwnX B w a c xs) {k:Nat} {x:RT} (hx:xs[k]?=some x):∃ g,a=some ⟨g,0,none⟩∧g < w.heap.size∧w.cell? ⟨g,k * 3,none⟩=some (.int .i64 x.k)∧w.cell? ⟨g,k * 3 + 1,none⟩=some (.slice x.da x.d.length x.dc)∧w.cell? ⟨g,k * 3 + 2,none⟩=some (.slice x.na x.ns.length x.nc)∧(∀ j,w.frozen? ⟨g,j,none⟩=false):=by
 have hk:=(List.getElem?_eq_some_iff.1 hx).1
 have hc:=fun g (q:_)=>h.cells (g:=g) q
 rcases h.2 with ⟨_,hn⟩ | ⟨g,cap,cur,e',_,hh,_⟩
 ·omega
 ·cases e'
  have f:=fun (j:Nat) (u:Value) (hj:j < 3) (hu:(rcs x)[j]?=some u)=>hc g rfl (k * 3 + j) u ((tcells_get xs k j x hx hj).trans hu)
  have c0:=f 0 _ (by omega) rfl
  have c1:=f 1 _ (by omega) rfl
  have c2:=f 2 _ (by omega) rfl
  rw [World.add_zero_spot,Nat.zero_add] at c0 c1 c2
  exact ⟨g,rfl,(Array.getElem?_eq_some_iff.1 hh).1,c0,c1,c2,fun j=>by simp [World.frozen?,hh]⟩

structure SM (u:World) (S:Nat→Prop) (g:Nat) (s:RTr):Prop where
 str:u.rowIs g 77 18 (scell s)
 row:OwnX 0 u s.ta s.tc s.th
 dat:∀ (i:Nat) (x:RT),s.th[i]?=some x→Own 0 u x.da x.d.length x.dc x.d
 nam:∀ (i:Nat) (x:RT),s.th[i]?=some x→OwnN 0 u x.na x.nc x.ns
 na1:∀ (i j:Nat) (x y:RT) (b:Nat),s.th[i]?=some x→s.th[j]?=some y→x.na=some ⟨b,0,none⟩→y.na=some ⟨b,0,none⟩→i=j
 sg:S g
 sr:∀ b:Nat,s.ta=some ⟨b,0,none⟩→S b
 sd:∀ (i:Nat) (x:RT) (b:Nat),s.th[i]?=some x→x.da=some ⟨b,0,none⟩→S b
 sn:∀ (i:Nat) (x:RT) (b:Nat),s.th[i]?=some x→x.na=some ⟨b,0,none⟩→S b
 lt:∀ k,S k→k < u.heap.size

theorem SM.kept {u u':World} {S S':Nat→Prop} {g:Nat} {s:RTr} (h:SM u S g s) (hk:∀ k,S k→u'.heap[k]?=u.heap[k]?) (hS:∀ k,S k→S' k) (hl:∀ k,S' k→k < u'.heap.size):SM u' S' g s :=
 ⟨h.str.of_block (hk _ h.sg),h.row.kept (fun b e=>hk _ (h.sr b e)),fun i x e=>(h.dat i x e).kept (fun b eb=>hk _ (h.sd i x b e eb)),fun i x e=>(h.nam i x e).kept (fun b eb=>hk _ (h.sn i x b e eb)),h.na1,
  hS _ h.sg,fun b e=>hS _ (h.sr b e),fun i x b e eb=>hS _ (h.sd i x b e eb),fun i x b e eb=>hS _ (h.sn i x b e eb),hl⟩

theorem SM.below {u u':World} {S:Nat→Prop} {g:Nat} {s:RTr} (h:SM u S g s) (hb:Below u.heap.size u u'):SM u' S g s :=
 h.kept (fun k hk=>hb.block k (h.lt k hk)) (fun _ hk=>hk) (fun k hk=>Nat.lt_of_lt_of_le (h.lt k hk) hb.size)

theorem SM.kp {u u':World} {S R:Nat→Prop} {g:Nat} {s:RTr} (h:SM u S g s) (hk:Kp R u u') (hd:∀ k,S k→¬ R k):SM u' S g s :=
 h.kept (fun k q=>hk.block k (h.lt k q) (hd k q)) (fun _ hk=>hk) (fun k q=>Nat.lt_of_lt_of_le (h.lt k q) hk.size)

theorem SM.drew {u:World} {S:Nat→Prop} {g:Nat} {s:RTr} (h:SM u S g s):SM u.drew S g s:=h.kept (fun _ _=>rfl) (fun _ hk=>hk) h.lt

theorem SM.cells {u:World} {S:Nat→Prop} {g:Nat} {s:RTr} (h:SM u S g s):u.cell? ⟨g,0,none⟩=some (.int .i64 s.most)∧u.cell? ⟨g,1,none⟩=some (.slice s.ta s.th.length s.tc)∧(∀ k,u.frozen? ⟨g,k,none⟩=false) :=
 ⟨h.str.cell (i:=0) (by omega),h.str.cell (i:=1) (by omega),fun k=>h.str.frozen k⟩

theorem SM.open_cell {u:World} {S:Nat→Prop} {g:Nat} {s:RTr} (h:SM u S g s) {f:Nat} (hf:f < 16):u.cell? ⟨g,2 + f,none⟩=some (.int .i64 (s.op f:Int)):=by
 have:=h.str.cell (i:=2 + f) (by omega)
 rw [this]
 unfold scell
 rw [if_neg (by omega),if_neg (by omega)]
 congr 4
 omega

end Go.Proofs.YtknmgefpjdfenaaGreat

/- skerryref17.SameNodes of two lists that tell the same. -/
namespace Go.Proofs.YtknmgefpjdfenaaGreat
set_option maxRecDepth 100000
set_option maxHeartbeats 8000000
open Go.RowKit Go.Shelf Go.Maps
set_option linter.unusedVariables false

theorem dcells_get:∀ (xs:List Nd) (k j:Nat) (x:Nd),xs[k]?=some x→j < 6→(dcells xs)[k * 6 + j]?=(ncs x).toList[j]?
 | [],k,j,x,h,hj=>by cases h
 | a :: r,0,j,x,h,hj=>by
  simp at h
  subst h
  have e:dcells (a :: r)=(ncs a).toList ++ dcells r:=by simp [dcells]
  rw [e,Nat.zero_mul,Nat.zero_add,List.getElem?_append_left (by simp [ncs]; omega)]
 | a :: r,k + 1,j,x,h,hj=>by
  have h':r[k]?=some x:=by simpa using h
  have e:dcells (a :: r)=(ncs a).toList ++ dcells r:=by simp [dcells]
  have hl:(ncs a).toList.length=6:=by simp [ncs]
  rw [e,List.getElem?_append_right (by omega),hl,← dcells_get r k j x h' hj]
  congr 1
  omega

theorem DL.node {B:Nat} {w:World} {v:Value} {xs:List Nd} (h:DL B w v xs) {k:Nat} {x:Nd} (hx:xs[k]?=some x):∃ g cap,v=.slice (some ⟨g,0,none⟩) xs.length cap∧g < w.heap.size ∧
  w.cell? ⟨g,k * 6,none⟩=some (.string (St x.p))∧w.cell? ⟨g,k * 6 + 1,none⟩=some (.int .i64 x.t.k)∧w.cell? ⟨g,k * 6 + 2,none⟩=some (.int .i64 (x.t.n:Int))∧w.cell? ⟨g,k * 6 + 3,none⟩=some (.int .i64 x.t.l)∧w.cell? ⟨g,k * 6 + 4,none⟩=some (.int .i64 (sizeT x.t))∧w.cell? ⟨g,k * 6 + 5,none⟩=some (.slice x.da x.t.d.length x.dc):=by
 have hk:=(List.getElem?_eq_some_iff.1 hx).1
 have hc:=fun g (e:_)=>h.1.cells (g:=g) e
 rcases h.1.2 with ⟨_,hn⟩ | ⟨g,cap,cur,rfl,_,hh,_⟩
 ·omega
 ·have f:=fun (j:Nat) (u:Value) (hj:j < 6) (hu:(ncs x).toList[j]?=some u)=>hc g rfl (k * 6 + j) u ((dcells_get xs k j x hx hj).trans hu)
  have c0:=f 0 _ (by omega) rfl
  have c1:=f 1 _ (by omega) rfl
  have c2:=f 2 _ (by omega) rfl
  have c3:=f 3 _ (by omega) rfl
  have c4:=f 4 _ (by omega) rfl
  have c5:=f 5 _ (by omega) rfl
  rw [World.add_zero_spot,Nat.zero_add] at c0 c1 c2 c3 c4 c5
  exact ⟨g,cap,rfl,(Array.getElem?_eq_some_iff.1 hh).1,c0,c1,c2,c3,c4,c5⟩

def Nd.obs (x:Nd):List UInt8 × Int × Nat × Int × Int × List Int:=(x.p,x.t.k,x.t.n,x.t.l,sizeT x.t,x.t.d)

theorem sameNodes_true {B1 B2:Nat} {w:World} {v1 v2:Value} {xs ys:List Nd} (h1:DL B1 w v1 xs) (h2:DL B2 w v2 ys) (he:xs.map Nd.obs=ys.map Nd.obs) (hn:xs.length ≤ 1800000000000) :
  Calls Tryz.prog 11 #[v1,v2] w fun e w'=>e=.returned (.bool true)∧Below w.heap.size w w':=by
 have hl:ys.length=xs.length:=by have:=congrArg List.length he; simpa using this.symm
 obtain ⟨a1,z1,rfl⟩:=h1.shape
 obtain ⟨a2,z2,rfl⟩:=h2.shape
 rw [hl] at h2 ⊢
 have HS:Hid (Below w.heap.size w w):=Below.refl _ _
 have HD:=hide (And.intro h1 (And.intro h2 he))
 clear h1 h2 he
 generalize hnl:xs.length=n at *
 go_enter Tryz.func11,Tryz.ntmps11
 go_wp2_with fail
 go_loopw [5] (fun iv wr=>∃ k:Nat,k ≤ n∧iv=.int .i64 (k:Int)∧Hid (Below w.heap.size w wr)) (fun iv _=>(n:Int).toNat - (intOf iv).toNat)
 case atStart=>exact ⟨0,Nat.zero_le _,rfl,HS⟩
 case round =>
  obtain ⟨k,hk,rfl,hJ⟩:=hrel
  clear HS
  by_cases hlt:k < n
  ·obtain ⟨x,hx⟩:∃ x,xs[k]?=some x:=⟨_,List.getElem?_eq_getElem (by omega)⟩
   obtain ⟨y,hy⟩:∃ y,ys[k]?=some y:=⟨_,List.getElem?_eq_getElem (by omega)⟩
   have hxy:x.obs=y.obs:=by
    have:=congrArg (fun l=>l[k]?) HD.out.2.2
    simp only [List.getElem?_map,hx,hy] at this
    simpa using this
   have hq1:DL B1 wr (.slice a1 xs.length z1) xs:=by rw [hnl]; exact HD.out.1.below hJ.out (Nat.le_refl _)
   have hq2:DL B2 wr (.slice a2 ys.length z2) ys:=by rw [hl]; exact HD.out.2.1.below hJ.out (Nat.le_refl _)
   obtain ⟨g1,cap1,e1,hg1,c0,c1,c2,c3,c4,c5⟩:=hq1.node hx
   obtain ⟨g2,cap2,e2,hg2,d0,d1,d2,d3,d4,d5⟩:=hq2.node hy
   cases e1
   cases e2
   have ho1:=hq1.2 x (List.mem_of_getElem? hx)
   have ho2:=hq2.2 y (List.mem_of_getElem? hy)
   have hlt':(k:Int) < (n:Int):=by omega
   have hk0:(0:Int) ≤ (k:Int):=by omega
   unfold Nd.obs at hxy
   have q0:=congrArg (fun q=>q.1) hxy
   have q1:=congrArg (fun q=>q.2.1) hxy
   have q2:=congrArg (fun q=>q.2.2.1) hxy
   have q3:=congrArg (fun q=>q.2.2.2.1) hxy
   have q4:=congrArg (fun q=>q.2.2.2.2.1) hxy
   have q5:=congrArg (fun q=>q.2.2.2.2.2) hxy
   simp only at q0 q1 q2 q3 q4 q5
   rw [← q0] at d0
   rw [← q1] at d1
   rw [← q2] at d2
   rw [← q3] at d3
   rw [← q4] at d4
   rw [← q5] at d5 ho2
   have hb1:Below wr.heap.size wr (wr.alloc (.cells #[.string (St x.p),.int .i64 x.t.k,.int .i64 (x.t.n:Int),.int .i64 x.t.l,.int .i64 (sizeT x.t),.slice x.da x.t.d.length x.dc] 43)):=(Below.refl _ _).alloc (Nat.le_refl _) _
   have blX:=Bl.new wr #[.string (St x.p),.int .i64 x.t.k,.int .i64 (x.t.n:Int),.int .i64 x.t.l,.int .i64 (sizeT x.t),.slice x.da x.t.d.length x.dc] 43
   have HJ:=hide hJ.out
   clear hJ hq1 hq2 hx hy hxy q0 q1 q2 q3 q4 q5
   generalize St x.p=sp at *
   generalize x.t.k=tk at *
   generalize (x.t.n:Int)=tn at *
   generalize x.t.l=tl at *
   generalize sizeT x.t=tz at *
   generalize x.t.d=td at *
   generalize x.da=da1 at *
   generalize x.dc=dc1 at *
   generalize y.da=da2 at *
   generalize y.dc=dc2 at *
   have d0:=(hb1.cell (p:=⟨g2,k * 6,none⟩) hg2).trans d0
   have d1:=(hb1.cell (p:=⟨g2,k * 6 + 1,none⟩) hg2).trans d1
   have d2:=(hb1.cell (p:=⟨g2,k * 6 + 2,none⟩) hg2).trans d2
   have d3:=(hb1.cell (p:=⟨g2,k * 6 + 3,none⟩) hg2).trans d3
   have d4:=(hb1.cell (p:=⟨g2,k * 6 + 4,none⟩) hg2).trans d4
   have d5:=(hb1.cell (p:=⟨g2,k * 6 + 5,none⟩) hg2).trans d5
   go_upto_region 7 with fail
   change Code.wp _ _ _ _ (wr.alloc (.cells #[.string sp,.int .i64 tk,.int .i64 tn,.int .i64 tl,.int .i64 tz,.slice da1 td.length dc1] 43))
   have hb2:Below (wr.alloc (.cells #[.string sp,.int .i64 tk,.int .i64 tn,.int .i64 tl,.int .i64 tz,.slice da1 td.length dc1] 43)).heap.size (wr.alloc (.cells #[.string sp,.int .i64 tk,.int .i64 tn,.int .i64 tl,.int .i64 tz,.slice da1 td.length dc1] 43)) ((wr.alloc (.cells #[.string sp,.int .i64 tk,.int .i64 tn,.int .i64 tl,.int .i64 tz,.slice da1 td.length dc1] 43)).alloc (.cells #[.string sp,.int .i64 tk,.int .i64 tn,.int .i64 tl,.int .i64 tz,.slice da2 td.length dc2] 43)):=(Below.refl _ _).alloc (Nat.le_refl _) _
   have HB:=hide (HJ.out.trans ((hb1.trans (hb2.mono hb1.size)).mono HJ.out.size))
   have blY:=Bl.new (wr.alloc (.cells #[.string sp,.int .i64 tk,.int .i64 tn,.int .i64 tl,.int .i64 tz,.slice da1 td.length dc1] 43)) #[.string sp,.int .i64 tk,.int .i64 tn,.int .i64 tl,.int .i64 tz,.slice da2 td.length dc2] 43
   have blX:=blX.call hb2
   have v1:=((ho1.below hb1 (Nat.le_refl _)).below hb2 (Nat.le_refl _)).has.conv dc1
   have v2:=((ho2.below hb1 (Nat.le_refl _)).below hb2 (Nat.le_refl _)).has.conv dc2
   clear ho1 ho2 c0 c1 c2 c3 c4 c5
   generalize wr.alloc (.cells #[.string sp,.int .i64 tk,.int .i64 tn,.int .i64 tl,.int .i64 tz,.slice da1 td.length dc1] 43)=w1 at *
   generalize wr.heap.size=m1 at *
   go_upto_region 8 with fail
   change Code.wp _ _ _ _ (w1.alloc (.cells #[.string sp,.int .i64 tk,.int .i64 tn,.int .i64 tl,.int .i64 tz,.slice da2 td.length dc2] 43))
   clear d0 d1 d2 d3 d4 d5 hb1 hb2 HJ
   generalize w1.alloc (.cells #[.string sp,.int .i64 tk,.int .i64 tn,.int .i64 tl,.int .i64 tz,.slice da2 td.length dc2] 43)=w2 at *
   generalize w1.heap.size=m2 at *
   have x0:=blX.cell 0 _ rfl
   have x1:=blX.cell 1 _ rfl
   have x2:=blX.cell 2 _ rfl
   have x3:=blX.cell 3 _ rfl
   have x4:=blX.cell 4 _ rfl
   have x5:=blX.cell 5 _ rfl
   have y0:=blY.cell 0 _ rfl
   have y1:=blY.cell 1 _ rfl
   have y2:=blY.cell 2 _ rfl
   have y3:=blY.cell 3 _ rfl
   have y4:=blY.cell 4 _ rfl
   have y5:=blY.cell 5 _ rfl
   clear blX blY
   generalize td.length=ld at *
   generalize strOfNums td=sd at *
   have b0:(sp.toList == sp.toList)=true:=by simp
   have b1:(tk == tk)=true:=by simp
   have b2:(tn == tn)=true:=by simp
   have b3:(tl == tl)=true:=by simp
   have b4:(tz == tz)=true:=by simp
   have b5:(sd.toList == sd.toList)=true:=by simp
   go_wp2_with fail
   go_roundw
   case rel=>exact ⟨k + 1,by omega,by go_num,HB⟩
   case measure=>simp [intOf]; omega
  ·obtain rfl:k=n:=by omega
   clear HD
   go_wp2_with fail
   go_ret
   exact ⟨rfl,hJ.out⟩

end Go.Proofs.YtknmgefpjdfenaaGreat

/- Sums over the row of things, and the names that stand for a thing. -/
namespace Go.Proofs.YtknmgefpjdfenaaGreat
set_option maxRecDepth 100000
set_option maxHeartbeats 8000000
open Go.RowKit Go.Shelf Go.Maps
set_option linter.unusedVariables false

def sumR (F:Nat→Nat):List (Option Nat)→Nat
 | []=>0
 | o :: r=>o.elim 0 F + sumR F r

theorem sumR_append (F:Nat→Nat) (a b:List (Option Nat)):sumR F (a ++ b)=sumR F a + sumR F b:=by
 induction a with
 | nil=>simp [sumR]
 | cons o r ih=>simp only [List.cons_append,sumR,ih]; omega

theorem sumR_none (F:Nat→Nat) (k:Nat):sumR F (List.replicate k none)=0:=by
 induction k with
 | zero=>rfl
 | succ k ih=>rw [List.replicate_succ]; simp [sumR,ih]

theorem sumR_pad (F:Nat→Nat) (row:List (Option Nat)) (f:Nat):sumR F (pad row f)=sumR F row:=by
 unfold pad
 rw [sumR_append,sumR_none]
 omega

theorem sumR_set (F:Nat→Nat):∀ (row:List (Option Nat)) (i:Nat) (o o':Option Nat),row[i]?=some o→sumR F (row.set i o') + o.elim 0 F=sumR F row + o'.elim 0 F
 | [],i,o,o',h=>by cases h
 | a :: r,0,o,o',h=>by
  simp at h
  subst h
  simp only [List.set_cons_zero,sumR]
  omega
 | a :: r,i + 1,o,o',h=>by
  have h':r[i]?=some o:=by simpa using h
  have:=sumR_set F r i o o' h'
  simp only [List.set_cons_succ,sumR]
  omega

theorem sumR_congr {F G:Nat→Nat}:∀ (row:List (Option Nat)),(∀ i b:Nat,row[i]?=some (some b)→F b=G b)→sumR F row=sumR G row
 | [],_=>rfl
 | a :: r,h=>by
  have h1:=sumR_congr r (fun i b e=>h (i + 1) b (by simpa using e))
  have h2:a.elim 0 F=a.elim 0 G:=by
   cases a with
   | none=>rfl
   | some b=>exact h 0 b rfl
  simp only [sumR,h1,h2]

theorem sumR_le {F G:Nat→Nat}:∀ (row:List (Option Nat)),(∀ i b:Nat,row[i]?=some (some b)→F b ≤ G b)→sumR F row ≤ sumR G row
 | [],_=>Nat.le_refl _
 | a :: r,h=>by
  have h1:=sumR_le r (fun i b e=>h (i + 1) b (by simpa using e))
  have h2:a.elim 0 F ≤ a.elim 0 G:=by
   cases a with
   | none=>exact Nat.le_refl _
   | some b=>exact h 0 b rfl
  simp only [sumR]
  omega

theorem sumR_ge {F:Nat→Nat} {row:List (Option Nat)} {i b:Nat} (h:row[i]?=some (some b)):F b ≤ sumR F row:=by
 have:=sumR_set F row i (some b) none h
 simp at this
 omega

theorem sumR_ge2 {F:Nat→Nat} {row:List (Option Nat)} {i j b c:Nat} (h:row[i]?=some (some b)) (h':row[j]?=some (some c)) (hij:i ≠ j):F b + F c ≤ sumR F row:=by
 have h1:=sumR_set F row i (some b) none h
 have h2:(row.set i none)[j]?=some (some c):=by rw [List.getElem?_set_ne hij]; exact h'
 have h3:=sumR_ge (F:=F) h2
 simp at h1
 omega

theorem sumR_lt {F G:Nat→Nat} {row:List (Option Nat)} (h:∀ i b:Nat,row[i]?=some (some b)→F b ≤ G b) {i b:Nat} (hb:row[i]?=some (some b)) (hlt:F b < G b):sumR F row < sumR G row:=by
 have h1:=sumR_set F row i (some b) none hb
 have h2:=sumR_set G row i (some b) none hb
 have h3:sumR F (row.set i none) ≤ sumR G (row.set i none):=sumR_le _ (fun j c e=>by
  by_cases hj:i=j
  ·subst hj
   rw [List.getElem?_set_self (List.getElem?_eq_some_iff.1 hb).1] at e
   cases e
  ·rw [List.getElem?_set_ne hj] at e
   exact h j c e)
 simp at h1 h2
 omega

theorem sumR_upd {F G:Nat→Nat} {row:List (Option Nat)} {i d:Nat} (hd:row[i]?=some (some d)) (h1:∀ j,row[j]?=some (some d)→j=i) (h:∀ b,b ≠ d→F b=G b):sumR G row + F d=sumR F row + G d:=by
 have a:=sumR_set F row i (some d) none hd
 have b:=sumR_set G row i (some d) none hd
 have c:sumR F (row.set i none)=sumR G (row.set i none):=sumR_congr _ (fun j x e=>by
  by_cases hj:i=j
  ·subst hj
   rw [List.getElem?_set_self (List.getElem?_eq_some_iff.1 hd).1] at e
   cases e
  ·rw [List.getElem?_set_ne hj] at e
   refine h x (fun ex=>?_)
   subst ex
   exact hj (h1 j e).symm)
 simp at a b
 omega

theorem sumR_const (row:List (Option Nat)) {F:Nat→Nat} (h:∀ i b:Nat,row[i]?=some (some b)→F b ≤ 1):sumR F row ≤ row.length:=by
 induction row with
 | nil=>exact Nat.le_refl _
 | cons a r ih =>
  have h1:=ih (fun i b e=>h (i + 1) b (by simpa using e))
  have h2:a.elim 0 F ≤ 1:=by
   cases a with
   | none=>exact Nat.zero_le _
   | some b=>exact h 0 b rfl
  simp only [sumR,List.length_cons]
  omega

theorem sumR_zero {F:Nat→Nat} (row:List (Option Nat)) (h:∀ i b:Nat,row[i]?=some (some b)→F b=0):sumR F row=0:=by
 rw [sumR_congr (G:=fun _=>0) row h]
 induction row with
 | nil=>rfl
 | cons a r ih =>
  have:=ih (fun i b e=>h (i + 1) b (by simpa using e))
  simp only [sumR,this]
  cases a <;> rfl

def nmc (ns:NS) (b:Nat):Nat:=(ns.map (fun e=>if e.2=b then 1 else 0)).sum

theorem nmc_cons (e:List UInt8 × Nat) (r:NS) (b:Nat):nmc (e :: r) b=(if e.2=b then 1 else 0) + nmc r b:=by simp [nmc]

theorem nmc_nil (b:Nat):nmc [] b=0:=rfl

theorem nmc_mem {ns:NS} {e:List UInt8 × Nat} (h:e ∈ ns):1 ≤ nmc ns e.2:=by
 induction ns with
 | nil=>cases h
 | cons d r ih =>
  rw [nmc_cons]
  rcases List.mem_cons.1 h with rfl | h
  ·rw [if_pos rfl]; omega
  ·have:=ih h; omega

theorem nmc_pos {ns:NS} {b:Nat} (h:nmc ns b ≠ 0):∃ e ∈ ns,e.2=b:=by
 induction ns with
 | nil=>exact absurd rfl h
 | cons d r ih =>
  rw [nmc_cons] at h
  by_cases hd:d.2=b
  ·exact ⟨d,List.mem_cons_self,hd⟩
  ·rw [if_neg hd,Nat.zero_add] at h
   obtain ⟨e,he,h2⟩:=ih h
   exact ⟨e,List.mem_cons_of_mem _ he,h2⟩

theorem nmc_two {ns:NS} {e e':List UInt8 × Nat} (h:e ∈ ns) (h':e' ∈ ns) (hne:e ≠ e') (hb:e.2=e'.2):2 ≤ nmc ns e.2:=by
 induction ns with
 | nil=>cases h
 | cons d r ih =>
  have hc:=nmc_cons d r e.2
  by_cases h1:e=d
  ·have h2:(if d.2=e.2 then 1 else 0)=1:=if_pos (by rw [h1])
   have h3:e' ∈ r:=(List.mem_cons.1 h').resolve_left (fun q=>hne (by rw [h1,q]))
   have h4:=nmc_mem h3
   rw [← hb] at h4
   omega
  ·have h3:e ∈ r:=(List.mem_cons.1 h).resolve_left h1
   have h4:=nmc_mem h3
   by_cases h5:e'=d
   ·have h2:(if d.2=e.2 then 1 else 0)=1:=if_pos (by rw [← h5,hb])
    omega
   ·have h6:e' ∈ r:=(List.mem_cons.1 h').resolve_left h5
    have:=ih h3 h6
    omega

theorem nmc_le (ns:NS) (b:Nat):nmc ns b ≤ ns.length:=by
 induction ns with
 | nil=>exact Nat.le_refl _
 | cons d r ih =>
  rw [nmc_cons,List.length_cons]
  split <;> omega

theorem nmc_put {ns:NS} {z:List UInt8} (b x:Nat) (h:ns.lookup z=none):nmc (putN z b ns) x=nmc ns x + (if b=x then 1 else 0):=by
 induction ns with
 | nil=>simp [putN,nmc]
 | cons d r ih =>
  obtain ⟨y,c⟩:=d
  rw [look_cons] at h
  by_cases hz:z=y
  ·rw [if_pos hz] at h; cases h
  ·rw [if_neg hz] at h
   unfold putN
   split
   ·rw [nmc_cons,nmc_cons]; simp only; omega
   ·rw [nmc_cons,nmc_cons,ih h]; omega

theorem len_put {ns:NS} {z:List UInt8} (b:Nat) (h:ns.lookup z=none):(putN z b ns).length=ns.length + 1:=by
 induction ns with
 | nil=>rfl
 | cons d r ih =>
  obtain ⟨y,c⟩:=d
  rw [look_cons] at h
  by_cases hz:z=y
  ·rw [if_pos hz] at h; cases h
  ·rw [if_neg hz] at h
   unfold putN
   split
   ·rfl
   ·rw [List.length_cons,ih h,List.length_cons]

theorem del_none {ns:NS} {z:List UInt8} (h:ns.lookup z=none):delN z ns=ns:=by
 induction ns with
 | nil=>rfl
 | cons d r ih =>
  obtain ⟨y,c⟩:=d
  rw [look_cons] at h
  by_cases hz:z=y
  ·rw [if_pos hz] at h; cases h
  ·rw [if_neg hz] at h
   have e0:(!(y == z))=true:=by simpa using fun e:y=z=>hz e.symm
   unfold delN at ih ⊢
   rw [List.filter_cons,if_pos e0,ih h]

theorem del_cons (z y:List UInt8) (c:Nat) (r:NS):delN z ((y,c) :: r)=if y=z then delN z r else (y,c) :: delN z r:=by
 unfold delN
 rw [List.filter_cons]
 by_cases h:y=z
 ·rw [if_pos h,if_neg (by simp [h])]
 ·rw [if_neg h,if_pos (by simpa using h)]

theorem tail_none {y:List UInt8} {c:Nat} {r:NS} (hr:Rise ((y,c) :: r)):r.lookup y=none:=by
 cases h:r.lookup y with
 | none=>rfl
 | some b =>
  have h1:=(List.pairwise_cons.1 (rise_ne hr)).1 _ (mem_look h)
  exact absurd rfl h1

theorem nmc_del {ns:NS} {z:List UInt8} {c:Nat} (hr:Rise ns) (h:ns.lookup z=some c) (x:Nat):nmc (delN z ns) x + (if c=x then 1 else 0)=nmc ns x:=by
 induction ns with
 | nil=>cases h
 | cons d r ih =>
  obtain ⟨y,c'⟩:=d
  rw [look_cons] at h
  rw [del_cons,nmc_cons]
  by_cases hz:z=y
  ·rw [if_pos hz] at h
   cases h
   rw [if_pos hz.symm,hz,del_none (tail_none hr)]
   simp only
   omega
  ·rw [if_neg hz] at h
   have:=ih (List.pairwise_cons.1 hr).2 h
   rw [if_neg (fun e=>hz e.symm),nmc_cons]
   omega

theorem len_del {ns:NS} {z:List UInt8} {c:Nat} (hr:Rise ns) (h:ns.lookup z=some c):(delN z ns).length + 1=ns.length:=by
 induction ns with
 | nil=>cases h
 | cons d r ih =>
  obtain ⟨y,c'⟩:=d
  rw [look_cons] at h
  rw [del_cons,List.length_cons]
  by_cases hz:z=y
  ·rw [if_pos hz.symm,hz,del_none (tail_none hr)]
  ·rw [if_neg hz] at h
   have:=ih (List.pairwise_cons.1 hr).2 h
   rw [if_neg (fun e=>hz e.symm),List.length_cons]
   omega

theorem ns_ext:∀ {a b:NS},Rise a→Rise b→(∀ z,a.lookup z=b.lookup z)→a=b
 | [],[],_,_,_=>rfl
 | [],(y,c) :: r,_,_,h=>by have:=h y; rw [look_cons,if_pos rfl] at this; cases this
 | (y,c) :: r,[],_,_,h=>by have:=h y; rw [look_cons,if_pos rfl] at this; cases this
 | (y,c) :: r,(y',c') :: r',ha,hb,h=>by
  have e:y=y':=by
   by_cases e:y=y'
   ·exact e
   ·exfalso
    have h1:=h y
    have h2:=h y'
    rw [look_cons,if_pos rfl,look_cons,if_neg e] at h1
    rw [look_cons,if_neg (fun q=>e q.symm),look_cons,if_pos rfl] at h2
    have b1:=(List.pairwise_cons.1 hb).1 _ (mem_look h1.symm)
    have b2:=(List.pairwise_cons.1 ha).1 _ (mem_look h2)
    have:=WideShapes.bytes_trans _ _ _ b1 b2
    rw [WideAt.bytes_irrefl] at this
    cases this
  subst e
  have hc:=h y
  rw [look_cons,if_pos rfl,look_cons,if_pos rfl] at hc
  cases hc
  rw [ns_ext (List.pairwise_cons.1 ha).2 (List.pairwise_cons.1 hb).2 (fun z=>?_)]
  have hz:=h z
  rw [look_cons,look_cons] at hz
  by_cases e:z=y
  ·rw [e,tail_none ha,tail_none hb]
  ·rwa [if_neg e,if_neg e] at hz

def Tr.nsOf (s:Tr) (d:Nat):NS:=match s.T d with
 | none=>[]
 | some t=>t.ns

theorem nsOf_some {s:Tr} {d:Nat} {t:Th} (h:s.T d=some t):s.nsOf d=t.ns:=by unfold Tr.nsOf; rw [h]

theorem nsOf_none {s:Tr} {d:Nat} (h:s.T d=none):s.nsOf d=[]:=by unfold Tr.nsOf; rw [h]

def Tr.cnt (s:Tr) (b:Nat):Nat:=sumR (fun d=>nmc (s.nsOf d) b) s.row

def Tr.all (s:Tr):Nat:=sumR (fun d=>(s.nsOf d).length) s.row

structure Wf (s:Tr) (r n:Nat):Prop where
 ok:Ok s r
 rk:∃ rk:Nat→Nat,∀ b t,s.T b=some t→∀ e ∈ t.ns,rk e.2 < rk b
 liv:∀ b t,s.T b=some t→∀ e ∈ t.ns,(∃ t',s.T e.2=some t')∧e.1.length ≤ 200
 ris:∀ b t,s.T b=some t→Rise t.ns
 num:∀ b t,s.T b=some t→s.row[t.n]?=some (some b)
 row:∀ i b,s.row[i]?=some (some b)→∃ t,s.T b=some t∧t.n=i
 lnk:∀ b t,s.T b=some t→b ≠ r→t.l=(s.cnt b:Int)∧1 ≤ s.cnt b
 top:s.cnt r=0
 dir:∀ b t,s.T b=some t→t.k=2→t.d=[]∧s.cnt b ≤ 1
 fil:∀ b t,s.T b=some t→t.k=1→t.ns=[]
 opn:∀ f b,s.opn f=some b→∃ t,s.T b=some t∧t.k=1
 siz:∀ b t,s.T b=some t→(t.d.length:Int) ≤ s.most
 mst:0 ≤ s.most∧s.most ≤ 524288
 few:s.all ≤ n
 len:s.row.length ≤ n + 2
 lst:s.least ≤ s.row.length

theorem Wf.once {s:Tr} {r n i j b:Nat} (h:Wf s r n) (h1:s.row[i]?=some (some b)) (h2:s.row[j]?=some (some b)):i=j:=by
 obtain ⟨t,ht,e⟩:=h.row i b h1
 obtain ⟨t',ht',e'⟩:=h.row j b h2
 rw [ht] at ht'
 cases ht'
 rw [← e,← e']

theorem Wf.kind2 {s:Tr} {r n b:Nat} {t:Th} (h:Wf s r n) (ht:s.T b=some t) {e:List UInt8 × Nat} (he:e ∈ t.ns):t.k=2:=by
 rcases h.ok.kind b t ht with h1 | h1
 ·rw [h.fil b t ht h1] at he; cases he
 ·exact h1

theorem Wf.named {s:Tr} {r n d:Nat} {t:Th} (h:Wf s r n) (ht:s.T d=some t) {e:List UInt8 × Nat} (he:e ∈ t.ns):1 ≤ s.cnt e.2:=by
 have h1:=sumR_ge (F:=fun d=>nmc (s.nsOf d) e.2) (h.num d t ht)
 have h2:=nmc_mem he
 simp only [nsOf_some ht] at h1
 unfold Tr.cnt
 omega

theorem Wf.named_ne {s:Tr} {r n d:Nat} {t:Th} (h:Wf s r n) (ht:s.T d=some t) {e:List UInt8 × Nat} (he:e ∈ t.ns):e.2 ≠ r:=fun e'=>by
 have:=h.named ht he
 rw [e',h.top] at this
 omega

theorem Wf.one {s:Tr} {r n d d':Nat} {t t':Th} (h:Wf s r n) (ht:s.T d=some t) (ht':s.T d'=some t') {e e':List UInt8 × Nat} (he:e ∈ t.ns) (he':e' ∈ t'.ns) (hb:e.2=e'.2) (hc:s.cnt e.2 ≤ 1):d=d'∧e=e':=by
 by_cases hd:d=d'
 ·subst hd
  rw [ht] at ht'
  cases ht'
  refine ⟨rfl,?_⟩
  by_cases hne:e=e'
  ·exact hne
  ·exfalso
   have h1:=sumR_ge (F:=fun d=>nmc (s.nsOf d) e.2) (h.num d t ht)
   simp only [nsOf_some ht] at h1
   have h2:=nmc_two he he' hne hb
   unfold Tr.cnt at hc
   omega
 ·exfalso
  have hi:t.n ≠ t'.n:=fun e0=>by
   have h1:=h.num d t ht
   have h2:=h.num d' t' ht'
   rw [e0,h2] at h1
   cases h1
   exact hd rfl
  have h1:=sumR_ge2 (F:=fun d=>nmc (s.nsOf d) e.2) (h.num d t ht) (h.num d' t' ht') hi
  simp only [nsOf_some ht,nsOf_some ht'] at h1
  have h2:=nmc_mem he
  have h3:=nmc_mem he'
  rw [← hb] at h3
  unfold Tr.cnt at hc
  omega

theorem Wf.root {s:Tr} {r n:Nat} (h:Wf s r n):∃ t,s.T r=some t∧t.k=2∧t.n=1:=by
 obtain ⟨t,ht,hk⟩:=h.ok.dir
 obtain ⟨t',ht',hn⟩:=h.row 1 r h.ok.root
 rw [ht] at ht'
 cases ht'
 exact ⟨t,ht,hk,hn⟩

theorem Wf.cnt_le {s:Tr} {r n:Nat} (h:Wf s r n) (b:Nat):s.cnt b ≤ n:=by
 refine Nat.le_trans (sumR_le _ (fun i d _=>nmc_le _ _)) h.few

theorem Wf.ns_le {s:Tr} {r n d:Nat} {t:Th} (h:Wf s r n) (ht:s.T d=some t):t.ns.length ≤ n:=by
 have h1:=sumR_ge (F:=fun d=>(s.nsOf d).length) (h.num d t ht)
 simp only [nsOf_some ht] at h1
 exact Nat.le_trans h1 h.few

theorem Wf.deep {s:Tr} {r n:Nat} (h:Wf s r n) (hn:n ≤ 1800000000000):∃ rk,Deep s rk∧∀ b,rk b ≤ n + 2:=by
 obtain ⟨rk,hrk⟩:=h.rk
 refine ⟨fun b=>sumR (fun c=>if rk c < rk b then 1 else 0) s.row,⟨fun b t ht e he=>?_,fun b t ht=>?_⟩,fun b=>?_⟩
 ·obtain ⟨⟨t',ht'⟩,hx⟩:=h.liv b t ht e he
  have hlt:=hrk b t ht e he
  refine ⟨⟨t',ht'⟩,hx,sumR_lt (fun i c _=>?_) (h.num e.2 t' ht') ?_⟩
  ·show (if rk c < rk e.2 then 1 else 0) ≤ (if rk c < rk b then 1 else 0)
   by_cases h1:rk c < rk e.2
   ·rw [if_pos h1,if_pos (by omega)]; exact Nat.le_refl _
   ·rw [if_neg h1]; exact Nat.zero_le _
  ·show (if rk e.2 < rk e.2 then 1 else 0) < (if rk e.2 < rk b then 1 else 0)
   rw [if_neg (Nat.lt_irrefl _),if_pos hlt]; omega
 ·have h1:=h.siz b t ht
  have h2:=h.mst.2
  refine ⟨by omega,Nat.le_trans (h.ns_le ht) hn,?_⟩
  rcases h.ok.kind b t ht with h3 | h3
  ·exact .inr (h.fil b t ht h3)
  ·exact .inl h3
 ·refine Nat.le_trans (sumR_const _ (fun i c _=>?_)) h.len
  show (if rk c < rk b then 1 else 0) ≤ 1
  split <;> omega

def dumpB (s:Tr):Nat→Nat→List Nat
 | 0,_=>[]
 | n + 1,b=>match s.T b with
  | none=>[]
  | some t=>b :: t.ns.flatMap (fun e=>dumpB s n e.2)

theorem dumpB_some {s:Tr} {b:Nat} {t:Th} (h:s.T b=some t) (n:Nat):dumpB s (n + 1) b=b :: t.ns.flatMap (fun e=>dumpB s n e.2):=by
 conv=>lhs; unfold dumpB
 rw [h]

theorem dumpL_things (s:Tr):∀ (n:Nat) (p:List UInt8) (b:Nat),(dumpL s n p b).map (·.2)=(dumpB s n b).filterMap s.T
 | 0,_,_=>rfl
 | n + 1,p,b=>by
  cases h:s.T b with
  | none=>unfold dumpL dumpB; rw [h]; rfl
  | some t =>
   rw [dumpL_some h,dumpB_some h,List.map_cons,List.filterMap_cons,h]
   congr 1
   rw [List.map_flatMap,List.filterMap_flatMap]
   congr 1
   funext e
   exact dumpL_things s n (subP p e.1) e.2

theorem dumpB_live (s:Tr):∀ (n b c:Nat),c ∈ dumpB s n b→∃ t,s.T c=some t
 | 0,b,c,h=>by cases h
 | n + 1,b,c,h=>by
  cases ht:s.T b with
  | none=>unfold dumpB at h; rw [ht] at h; cases h
  | some t =>
   rw [dumpB_some ht] at h
   rcases List.mem_cons.1 h with rfl | h
   ·exact ⟨t,ht⟩
   ·obtain ⟨e,_,h⟩:=List.mem_flatMap.1 h
    exact dumpB_live s n e.2 c h

theorem dumpB_sum {s:Tr} {rk:Nat→Nat} (hd:Deep s rk) (W:Nat→Nat) (U:Nat→Nat) (V:NS→Nat) (hV:∀ ns:NS,V ns=(ns.map (fun e=>U e.2)).sum):∀ (n b:Nat),(∃ t,s.T b=some t)→rk b < n →
  ((dumpB s n b).map U).sum=U b + ((dumpB s n b).map (fun d=>V (s.nsOf d))).sum
 | 0,b,_,h=>by omega
 | n + 1,b,⟨t,ht⟩,h=>by
  rw [dumpB_some ht,List.map_cons,List.sum_cons,List.map_cons,List.sum_cons,nsOf_some ht,hV]
  congr 1
  have hl:=hd.live b t ht
  have key:∀ es:NS,(∀ e ∈ es,e ∈ t.ns)→((es.flatMap (fun e=>dumpB s n e.2)).map U).sum=(es.map (fun e=>U e.2)).sum + ((es.flatMap (fun e=>dumpB s n e.2)).map (fun d=>V (s.nsOf d))).sum:=by
   intro es
   induction es with
   | nil=>intro _; rfl
   | cons e r ih =>
    intro hm
    obtain ⟨hlv,_,hr⟩:=hl e (hm e List.mem_cons_self)
    have h1:=dumpB_sum hd W U V hV n e.2 hlv (by omega)
    have h2:=ih (fun x hx=>hm x (List.mem_cons_of_mem _ hx))
    rw [List.flatMap_cons,List.map_append,List.sum_append,h1,h2,List.map_cons,List.sum_cons,List.map_append,List.sum_append]
    omega
  exact key t.ns (fun e he=>he)

theorem sum_count {row:List (Option Nat)} (F:Nat→Nat) (hone:∀ i j b:Nat,row[i]?=some (some b)→row[j]?=some (some b)→i=j):∀ (L:List Nat),(∀ d ∈ L,∃ i:Nat,row[i]?=some (some d))→(L.map F).sum=sumR (fun d=>L.count d * F d) row
 | [],_=>by
  rw [sumR_zero _ (fun i b _=>by simp)]
  rfl
 | a :: L,h=>by
  have ih:=sum_count F hone L (fun d hd=>h d (List.mem_cons_of_mem _ hd))
  obtain ⟨i,hi⟩:=h a List.mem_cons_self
  have:=sumR_upd (F:=fun d=>L.count d * F d) (G:=fun d=>(a :: L).count d * F d) hi (fun j hj=>hone j i a hj hi) (fun b hb=>by
   rw [List.count_cons_of_ne (fun e=>hb e.symm)])
  simp only [List.count_cons_self] at this
  rw [List.map_cons,List.sum_cons,ih]
  have e:(L.count a + 1) * F a=L.count a * F a + F a:=Nat.succ_mul _ _
  omega

theorem count_sum (L:List Nat) (c:Nat):L.count c=(L.map (fun d=>if d=c then 1 else 0)).sum:=by
 induction L with
 | nil=>rfl
 | cons a r ih =>
  rw [List.map_cons,List.sum_cons,← ih]
  by_cases h:a=c
  ·subst h; rw [List.count_cons_self,if_pos rfl]; omega
  ·rw [List.count_cons_of_ne h,if_neg h]; omega

theorem len_sum (L:List Nat):L.length=(L.map (fun _=>1)).sum:=by
 induction L with
 | nil=>rfl
 | cons a r ih=>rw [List.map_cons,List.sum_cons,← ih,List.length_cons]; omega

theorem Wf.met {s:Tr} {r n:Nat} (h:Wf s r n) {rk:Nat→Nat} (hd:Deep s rk) (m:Nat) (F:Nat→Nat):((dumpB s m r).map F).sum=sumR (fun d=>(dumpB s m r).count d * F d) s.row :=
 sum_count F (fun i j b=>h.once) _ (fun d hm=>by
  obtain ⟨t,ht⟩:=dumpB_live s m r d hm
  exact ⟨t.n,h.num d t ht⟩)

theorem Wf.count {s:Tr} {r n:Nat} (h:Wf s r n) {rk:Nat→Nat} (hd:Deep s rk) {m:Nat} (hm:rk r < m) (c:Nat):(dumpB s m r).count c=(if r=c then 1 else 0) + sumR (fun d=>(dumpB s m r).count d * nmc (s.nsOf d) c) s.row:=by
 obtain ⟨tr,htr,_⟩:=h.ok.dir
 have h1:=dumpB_sum hd (fun _=>0) (fun d=>if d=c then 1 else 0) (fun ns=>nmc ns c) (fun ns=>rfl) m r ⟨tr,htr⟩ hm
 rw [count_sum,h1,h.met hd]

theorem Wf.visit {s:Tr} {r n:Nat} (h:Wf s r n) {rk:Nat→Nat} (hd:Deep s rk) {m:Nat} (hm:rk r < m):∀ (k d:Nat) (t:Th),s.T d=some t→t.k=2→sumR rk s.row + 1 ≤ rk d + k→(dumpB s m r).count d=1
 | 0,d,t,ht,_,hk=>by
  have:=sumR_ge (F:=rk) (h.num d t ht)
  omega
 | k + 1,d,t,ht,h2,hk=>by
  have hc:sumR (fun d'=>(dumpB s m r).count d' * nmc (s.nsOf d') d) s.row=s.cnt d:=by
   unfold Tr.cnt
   refine sumR_congr _ (fun i d' hi=>?_)
   by_cases h0:nmc (s.nsOf d') d=0
   ·rw [h0,Nat.mul_zero]
   ·obtain ⟨t',ht',_⟩:=h.row i d' hi
    rw [nsOf_some ht'] at h0 ⊢
    obtain ⟨e,he,hed⟩:=nmc_pos h0
    have hr:=(hd.live d' t' ht' e he).2.2
    rw [hed] at hr
    rw [h.visit hd hm k d' t' ht' (h.kind2 ht' he) (by omega),Nat.one_mul]
  rw [h.count hd hm,hc]
  by_cases hr:r=d
  ·subst hr
   rw [if_pos rfl,h.top]
  ·rw [if_neg hr]
   have h1:=(h.lnk d t ht (fun e=>hr e.symm)).2
   have h3:=(h.dir d t ht h2).2
   omega

theorem Wf.visits {s:Tr} {r n d:Nat} {t:Th} (h:Wf s r n) {rk:Nat→Nat} (hd:Deep s rk) {m:Nat} (hm:rk r < m) (ht:s.T d=some t) (h2:t.k=2):(dumpB s m r).count d=1 :=
 h.visit hd hm (sumR rk s.row + 1) d t ht h2 (by omega)

theorem Wf.names {s:Tr} {r n:Nat} (h:Wf s r n) {rk:Nat→Nat} (hd:Deep s rk) {m:Nat} (hm:rk r < m) (V:NS→Nat) (hV:V []=0):sumR (fun d=>(dumpB s m r).count d * V (s.nsOf d)) s.row=sumR (fun d=>V (s.nsOf d)) s.row:=by
 refine sumR_congr _ (fun i d hi=>?_)
 obtain ⟨t,ht,_⟩:=h.row i d hi
 rcases h.ok.kind d t ht with h1 | h1
 ·rw [nsOf_some ht,h.fil d t ht h1,hV,Nat.mul_zero]
 ·rw [h.visits hd hm ht h1,Nat.one_mul]

theorem Wf.count_cnt {s:Tr} {r n:Nat} (h:Wf s r n) {rk:Nat→Nat} (hd:Deep s rk) {m:Nat} (hm:rk r < m) {c:Nat} (hc:c ≠ r):(dumpB s m r).count c=s.cnt c:=by
 rw [h.count hd hm,if_neg (fun e=>hc e.symm),Nat.zero_add,h.names hd hm (fun ns=>nmc ns c) rfl]
 rfl

theorem Wf.count_root {s:Tr} {r n:Nat} (h:Wf s r n) {rk:Nat→Nat} (hd:Deep s rk) {m:Nat} (hm:rk r < m):(dumpB s m r).count r=1:=by
 rw [h.count hd hm,if_pos rfl,h.names hd hm (fun ns=>nmc ns r) rfl]
 show 1 + s.cnt r=1
 rw [h.top]

theorem Wf.dump_len {s:Tr} {r n:Nat} (h:Wf s r n) {rk:Nat→Nat} (hd:Deep s rk) {m:Nat} (hm:rk r < m) (p:List UInt8):(dumpL s m p r).length=1 + s.all:=by
 obtain ⟨tr,htr,_⟩:=h.ok.dir
 have h1:=dumpB_sum hd (fun _=>0) (fun _=>1) (fun ns=>ns.length) (fun ns=>by
  induction ns with
  | nil=>rfl
  | cons a q ih=>rw [List.map_cons,List.sum_cons,List.length_cons,ih]; omega) m r ⟨tr,htr⟩ hm
 rw [h.met hd m (fun d=>(s.nsOf d).length),h.names hd hm (fun ns=>ns.length) rfl] at h1
 have h2:(dumpL s m p r).length=(dumpB s m r).length:=by
  have e:=congrArg List.length (dumpL_things s m p r)
  rw [List.length_map] at e
  rw [e]
  clear e h1
  have hl:=fun c=>dumpB_live s m r c
  generalize dumpB s m r=L at hl
  induction L with
  | nil=>rfl
  | cons a q ih =>
   obtain ⟨t,ht⟩:=hl a List.mem_cons_self
   rw [List.filterMap_cons,ht,List.length_cons,List.length_cons,ih (fun c hc=>hl c (List.mem_cons_of_mem _ hc))]
 rw [h2,len_sum,h1]
 rfl

end Go.Proofs.YtknmgefpjdfenaaGreat

