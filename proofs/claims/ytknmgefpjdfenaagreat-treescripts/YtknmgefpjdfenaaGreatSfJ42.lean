/- Joined: SRelC, SDump, SRenA, SRen, SRenB, SRenC. -/
import Derived.Test.YtknmgefpjdfenaaGreatSfJ41
import Derived.Test.YtknmgefpjdfenaaGreatSfJ39
import Derived.Test.YtknmgefpjdfenaaGreatSfJ29
import Derived.Deep.RegionHeld3
import Derived.Test.YtknmgefpjdfenaaGreatSfJ40
import Derived.Test.YtknmgefpjdfenaaGreatSfVRAbo
/- What both trees tell: sorted names, paths, what stands at a path. -/
namespace Go.Proofs.YtknmgefpjdfenaaGreat
set_option maxRecDepth 100000
set_option maxHeartbeats 8000000
open Go.RowKit Go.Shelf Go.Maps
set_option linter.unusedVariables false

theorem less_before:∀ a b:List UInt8,Op.bytesLess a b=bytesBefore a b
 | [],[]=>rfl
 | [],_ :: _=>rfl
 | _ :: _,[]=>rfl
 | x :: a,y :: b=>by
  unfold Op.bytesLess bytesBefore
  rw [less_before a b]

theorem srt_eq {s:Tr} {r n b:Nat} {t:Th} {x:RT} {ms:NL} (hw:Wf s r n) (ht:s.T b=some t) (hk:Lk s t x) (hp:ms.Perm x.ns) (hs:Srt ms):ms=t.ns.map (nmS s):=by
 refine List.Perm.eq_of_pairwise (le:=fun a b=>a.1 < b.1) (fun a b _ _ h1 h2=>absurd h2 (List.lt_asymm h1)) ?_ ?_ (hp.trans hk.ns)
 ·refine hs.imp (fun {a b} hab=>before_lt ?_)
  rw [← less_before,← cb_lessS]
  simpa using hab
 ·rw [List.pairwise_map]
  exact (hw.ris b t ht).imp (fun {a b} hab=>before_lt hab)

def obT (e:List UInt8 × Th):List UInt8 × Int × Nat × Int × Int × List Int:=(e.1,e.2.k,e.2.n,e.2.l,sizeT e.2,e.2.d)

def Rl (s:Tr) (r:Nat):Prop:=∀ t,s.T r=some t→t.l=1

theorem Rel.stat {s:Tr} {u:RTr} {r n b:Nat} {t:Th} {x:RT} (h:Rel s u) (hw:Wf s r n) (hr:Rl s r) (ht:s.T b=some t) (hk:Lk s t x):statR u (nmb s b) x=statV t:=by
 unfold statR statV
 have hn:=nmb_of ht
 have hl:(if x.k=2 then (1:Int) else (lkR u (nmb s b):Int))=t.l:=by
  by_cases q:b=r
  ·subst q
   obtain ⟨t',ht',h2⟩:=hw.ok.dir
   rw [ht] at ht'
   cases ht'
   rw [if_pos (by rw [hk.k,h2]),hr t ht]
  ·obtain ⟨e1,e2⟩:=hw.lnk b t ht q
   by_cases k:x.k=2
   ·rw [if_pos k,e1]
    have:=(hw.dir b t ht (by rw [← hk.k,k])).2
    omega
   ·rw [if_neg k,h.links hw ht,e1]
 have hz:(if x.k=2 then 16 * (x.ns.length:Int) else (x.d.length:Int))=sizeT t:=by
  unfold sizeT
  have e1:=hk.ns.length_eq
  rw [List.length_map] at e1
  by_cases k:x.k=2
  ·rw [if_pos k,(hw.dir b t ht (by rw [← hk.k,k])).1,e1]
   simp
  ·have h1:t.k=1:=by
    rcases hw.ok.kind b t ht with e | e
    ·exact e
    ·exact absurd (by rw [hk.k,e]) k
   rw [if_neg k,hw.fil b t ht h1,hk.d]
   simp
 rw [hl,hz,hk.k,hn]

end Go.Proofs.YtknmgefpjdfenaaGreat

/- The reference's Dump tells what the tree's tells. -/
namespace Go.Proofs.YtknmgefpjdfenaaGreat
set_option maxRecDepth 100000
set_option maxHeartbeats 8000000
open Go.RowKit Go.Shelf Go.Maps
set_option linter.unusedVariables false

def Fn (u w:World):Prop:=∀ (k:Nat) cs t,u.heap[k]?=some (Obj.cells cs t (0,0))→t ≠ 43→w.heap[k]?=u.heap[k]?

theorem Fn.trans {u v w:World} (h:Fn u v) (h':Fn v w):Fn u w:=fun k cs t hh ht=>by
 have:=h k cs t hh ht
 rw [h' k cs t (this.trans hh) ht,this]

theorem Fn.of {n:Nat} {u w:World} (h:Below n u w) (hn:u.heap.size ≤ n):Fn u w:=fun k cs t hh _=>h.block k (by have:=(Array.getElem?_eq_some_iff.1 hh).1; omega)

theorem cell_eq {u q:World} {k:Nat} (e:q.heap[k]?=u.heap[k]?) (j:Nat):q.cell? ⟨k,j,none⟩=u.cell? ⟨k,j,none⟩:=by simp only [World.cell?,e]

def DP (B:Nat) (s:Tr) (m:Nat) (p:List UInt8) (b:Nat) (xs:List Nd) (u:World) (v:Value) (w:World):Prop :=
 ∃ ys,DL B w v (xs ++ ys)∧ys.map Nd.obs=(dumpL s m p b).map obT∧Below B u w∧Fn u w

theorem path_ne {L:List (List UInt8)} (h:okN L=true):((St (jn L)).toList == [47])=decide (L=[]):=by
 rw [St_toList]
 by_cases q:L=[]
 ·rw [q]; rfl
 ·rw [decide_eq_false q]
  rw [beq_eq_false_iff_ne]
  intro e
  exact q (jn_inj h (by decide) (e.trans (show [47]=jn [] from rfl)))

theorem rdump_rel {S : Nat → Prop} {g B : Nat} {s : Tr} {u : RTr} {r nn : Nat} {rk : Nat → Nat} (h : Rel s u) (hw : Wf s r nn) (hnn : nn ≤ 1700000000000) (hr : Rl s r) (hdp : Deep s rk) (hSB : ∀ k, S k → k < B) (m : Nat) : ∀ (b : Nat) (L : List (List UInt8)) (w : World) (v : Value) (xs : List Nd) (t : Th), s.T b = some t → rk b < m → SM w S g u → DL B w v xs → B ≤ w.heap.size →
    (∀ ys e, go s ys b = (0, some e) → okN (L ++ ys) = true) → xs.length + (dumpL s m (jn L) b).length ≤ 1800000000000 →
    Calls Tryz.prog 51 #[.pointer (some ⟨g, 0, none⟩), v, .string (St (jn L)), .int .i64 (nmb s b : Int)] w fun e w' => ∃ v', e = .returned v' ∧ DP B s m (jn L) b xs w v' w' := by
  have hs := h.rs hw hnn
  induction m with
  | zero => intro b L w v xs t _ q; omega
  | succ m IH =>
    intro b L w v xs t ht hrk hT hD hB hd hlen
    obtain ⟨x, hxx, hk⟩ := h.thing hw ht
    have hL : okN L = true := by have := hd [] b rfl; rwa [List.append_nil] at this
    have hdl := dumpL_some ht m (jn L)
    rw [hdl, List.length_cons] at hlen
    have hsz := hw.siz b t ht
    have hmo := hw.mst
    have hxd : x.d.length ≤ 1800000000000 := by rw [hk.d]; omega
    have hlk : lkR u (nmb s b) ≤ 1000000000000000 := by rw [h.links hw ht]; have := hw.cnt_le b; omega
    have KS := rstat_any hT hs hxx hlk hxd
    rw [h.stat hw hr ht hk] at KS
    have KS := hide KS
    have hxl := hs.few _ x hxx
    have hul := hs.len
    have hil : nmb s b < u.th.length := (List.getElem?_eq_some_iff.1 hxx).1
    have hi0 : (0 : Int) ≤ (nmb s b : Int) := by omega
    have hil' : (nmb s b : Int) < (u.th.length : Int) := by omega
    have hn0 := nmb_of ht
    have KM : Hid (∀ w', SM w' S g u → Calls Tryz.prog 88 #[.slice x.na x.ns.length x.nc] w' fun e w'' => ∃ a' c', e = .returned (.slice a' x.ns.length c') ∧ OwnN w'.heap.size w'' a' c' (t.ns.map (nmS s)) ∧ Below w'.heap.size w' w'') := fun w' hT' => by
      refine (rsorted_any (hT'.nam _ x hxx) (hs.ap _ x hxx) hxl).mono ?_
      rintro e w'' ⟨a', c', ms, rfl, h1, h2, h3, h4⟩
      rw [srt_eq hw ht hk h1 h2] at h3
      exact ⟨a', c', rfl, h3, h4⟩
    have hxn : x.ns.length = t.ns.length := by have := hk.ns.length_eq; rwa [List.length_map] at this
    -- a child
    have KC : Hid (∀ (k : Nat) (e0 : List UInt8 × Nat), t.ns[k]? = some e0 → e0.1.length ≤ 200 ∧ nmb s e0.2 < u.th.length ∧ ∀ (w' : World) (v' : Value) (xs' : List Nd), SM w' S g u → DL B w' v' xs' → B ≤ w'.heap.size → xs'.length + (dumpL s m (subP (jn L) e0.1) e0.2).length ≤ 1800000000000 →
        Calls Tryz.prog 51 #[.pointer (some ⟨g, 0, none⟩), v', .string (St (subP (jn L) e0.1)), .int .i64 (nmb s e0.2 : Int)] w' fun e w'' => ∃ v'', e = .returned v'' ∧ DP B s m (subP (jn L) e0.1) e0.2 xs' w' v'' w'') := by
      intro k e0 he
      have he0 := List.mem_of_getElem? he
      obtain ⟨⟨t', ht'⟩, hx2⟩ := hw.liv b t ht e0 he0
      have h2 := hw.kind2 ht he0
      have hgo : ∀ ys, go s (e0.1 :: ys) b = go s ys e0.2 := fun ys => go_step ht h2 (look_mem (hw.ris b t ht) he0) ys
      obtain ⟨y, hy, _⟩ := h.thing hw ht'
      refine ⟨hx2, (List.getElem?_eq_some_iff.1 hy).1, fun w' v' xs' a1 a2 a3 a4 => ?_⟩
      rw [sub_jn hL] at a4 ⊢
      exact IH e0.2 (L ++ [e0.1]) w' v' xs' t' ht' (by have := (hdp.live b t ht e0 he0).2.2; omega) a1 a2 a3 (fun ys c hg => by
        rw [List.append_assoc]
        exact hd (e0.1 :: ys) c (by rw [hgo]; exact hg)) a4
    have HT := hide hT
    have HD := hide hD
    have HXX := hide hxx
    have hpn := path_ne hL
    have htr := trim_jn hL
    have hpl : (jn L).length ≤ 200 := ((okN_iff L).1 hL).2.2
    have HDL := hide hdl
    have HNX : Hid (x.d = t.d ∧ (∀ (a : Option Addr) (c : Nat), (⟨jn L, t, a, c⟩ : Nd).obs = obT (jn L, t))) := ⟨hk.d, fun a c => rfl⟩
    have HN16 : Hid (∀ (k : Nat) (e0 : List UInt8 × Nat), t.ns[k]? = some e0 → (t.ns.map (nmS s))[k]? = some (e0.1, nmb s e0.2)) := fun k e0 he => by rw [List.getElem?_map, he]; rfl
    have hdd := hk.d
    clear h hw hs hdp IH ht hrk hT hD hd hxx hk hL hdl hsz hmo hlk
    have hB := hide hB
    have HSB := hide hSB
    clear hSB
    generalize hi : nmb s b = i at *
    have HTN : Hid (t.n = i) := hn0.symm
    clear hn0 hi
    have htd : t.d.length ≤ 1800000000000 := by rw [← hdd]; exact hxd
    go_enter Tryz.func51, Tryz.ntmps51
    go_wp2_with fail
    refine (unhide KS).mono ?_
    rintro e w1 ⟨rfl, hb⟩
    have HT := hide (HT.out.below hb)
    have HD := hide (HD.out.below hb (Nat.le_refl _))
    have HB : Hid (B ≤ w1.heap.size ∧ Below B w w1 ∧ Fn w w1) := ⟨Nat.le_trans hB.out hb.size, hb.mono hB.out, Fn.of hb (Nat.le_refl _)⟩
    clear KS hb
    unfold statV
    rw [HTN.out]
    have hb1 : Below w1.heap.size w1 (w1.alloc (.cells #[.int .i64 t.k, .int .i64 (i : Int), .int .i64 t.l, .int .i64 (sizeT t)] 46)) := (Below.refl _ w1).alloc (Nat.le_refl _) _
    have hl2 := Bl.new w1 #[.int .i64 t.k, .int .i64 (i : Int), .int .i64 t.l, .int .i64 (sizeT t)] 46
    have hB1 : B ≤ (w1.alloc (.cells #[.int .i64 t.k, .int .i64 (i : Int), .int .i64 t.l, .int .i64 (sizeT t)] 46)).heap.size := Nat.le_trans HB.out.1 hb1.size
    have hB2 : Below B w (w1.alloc (.cells #[.int .i64 t.k, .int .i64 (i : Int), .int .i64 t.l, .int .i64 (sizeT t)] 46)) := HB.out.2.1.trans (hb1.mono HB.out.1)
    have hB3 : Fn w (w1.alloc (.cells #[.int .i64 t.k, .int .i64 (i : Int), .int .i64 t.l, .int .i64 (sizeT t)] 46)) := HB.out.2.2.trans (Fn.of hb1 (Nat.le_refl _))
    have HT := hide (HT.out.below hb1)
    have HD := hide (HD.out.below hb1 (Nat.le_refl _))
    go_upto_region 2 with fail
    change Code.wp _ _ _ _ (w1.alloc (.cells #[.int .i64 t.k, .int .i64 (i : Int), .int .i64 t.l, .int .i64 (sizeT t)] 46))
    clear hb1
    generalize w1.alloc (.cells #[.int .i64 t.k, .int .i64 (i : Int), .int .i64 t.l, .int .i64 (sizeT t)] 46) = w2 at *
    generalize w1.heap.size = m2 at *
    have hm2 := hl2.lt
    obtain ⟨rb, era, hrbl, _, t1, t2, _⟩ := HT.out.row.cell HXX.out
    have g1 := HT.out.cells.2.1
    have hgl := HT.out.lt g HT.out.sg
    rw [era] at g1
    have HE := hide era
    obtain ⟨a1, c1, w3, r1, o1, b1⟩ := app_copy (w := w2.drew) (c := x.dc) (HT.out.dat i x HXX.out).has (by omega)
    have b1' : Below w2.heap.size w2 w3 := ⟨b1.os, b1.tape, b1.output, b1.size, b1.block⟩
    have hD3 : DL B w3 v xs := HD.out.below b1' (Nat.le_refl _)
    have o1' : Own B w3 a1 t.d.length c1 t.d := by rw [← hdd]; exact o1.base hB1
    obtain ⟨v4, w4, r2, hD4, b4, hf4⟩ := hD3.app (Nat.le_trans hB1 b1'.size) ⟨jn L, t, a1, c1⟩ o1' (by omega)
    have R1 : Hid (∀ ty, (Builtin.append_ #[34, 34] ty #[.slice (some ⟨w2.heap.size, 0, none⟩) 0 0, .slice x.da x.d.length x.dc]).run Tryz.prog (w2.alloc (.cells #[] 5)).drew = .ok (.slice a1 x.d.length c1) w3) := r1
    have R2 : Hid (∀ ty, (Builtin.append_ #[38, 38] ty #[v, .slice (some ⟨w3.heap.size, 0, none⟩) 1 1]).run Tryz.prog (w3.alloc (.cells #[.string (St (jn L)), .int .i64 t.k, .int .i64 (i : Int), .int .i64 t.l, .int .i64 (sizeT t), .slice a1 x.d.length c1] 43)) = .ok v4 w4) := by
      have := r2
      rw [hdd, ← HTN.out]
      exact this
    have hb4 : Below B w w4 := (hB2.trans (b1'.mono hB1)).trans b4
    have hB4 : B ≤ w4.heap.size := Nat.le_trans hB.out hb4.size
    have hf4' : Fn w w4 := (hB3.trans (Fn.of b1' (Nat.le_refl _))).trans hf4
    have H4 : Hid (DL B w4 v4 (xs ++ [⟨jn L, t, a1, c1⟩]) ∧ Below B w w4 ∧ Fn w w4) := ⟨hD4, hb4, hf4'⟩
    obtain ⟨csg, hcsg, _⟩ := HT.out.str
    obtain ⟨_, _, csr, hcsr⟩ := HT.out.row.at era
    have KB : Hid (∀ q, Fn w2 q → q.cell? ⟨m2, 0, none⟩ = some (.int .i64 t.k) ∧ q.cell? ⟨m2, 2, none⟩ = some (.int .i64 t.l) ∧ q.cell? ⟨m2, 3, none⟩ = some (.int .i64 (sizeT t)) ∧ q.cell? ⟨g, 1, none⟩ = some (.slice (some ⟨rb, 0, none⟩) u.th.length u.tc) ∧ q.cell? ⟨rb, i * 3 + 1, none⟩ = some (.slice x.da x.d.length x.dc)) := fun q hq => by
      have e1 := hq m2 _ _ hl2 (by decide)
      have e2 := hq g _ _ hcsg (by decide)
      have e3 := hq rb _ _ hcsr (by decide)
      exact ⟨(cell_eq e1 0).trans (hl2.cell 0 _ rfl), (cell_eq e1 2).trans (hl2.cell 2 _ rfl), (cell_eq e1 3).trans (hl2.cell 3 _ rfl), (cell_eq e2 1).trans g1, (cell_eq e3 _).trans t1⟩
    have J := KB.out w2.drew (fun _ _ _ _ _ => rfl)
    have A0 : Hid (∀ o, Fn w2 (w2.alloc o).drew) := fun o => Fn.of (bd1 (bal (Below.refl _ _) (Nat.le_refl _) o)) (Nat.le_refl _)
    have Q1 : Hid (Fn w2 w3) := Fn.of b1' (Nat.le_refl _)
    have Q1a : Hid (∀ o, Fn w2 (w3.alloc o)) := fun o => Fn.of (bal b1' (Nat.le_refl _) o) (Nat.le_refl _)
    have Q2 : Hid (Fn w2 w4) := (Fn.of b1' (Nat.le_refl _)).trans hf4
    have HU := hide (And.intro t1 (And.intro t2 (And.intro g1 hl2)))
    have HT4 : Hid (SM w4 S g u) := HT.out.kept (fun k hk => by
      have hkB := HSB.out k hk
      exact (b4.block k hkB).trans (b1'.block k (by omega))) (fun k hk => hk) (fun k hk => Nat.lt_of_lt_of_le (HSB.out k hk) hB4)
    clear t1 t2 g1 hl2 b1 b1' o1 o1' hD3 r1 r2 hD4 b4 hf4 hB1 hB2 hB3 hb4 hf4' hcsg hcsr hm2 hgl hrbl HT HD era
    have HH := hide (And.intro hxd (And.intro htd (And.intro hlen hdd)))
    clear hxd htd hlen hdd HNX HTN
    generalize hsp : St (jn L) = sp at *
    generalize hxl2 : x.d.length = xdl at *
    clear hxl2
    generalize hul2 : u.th.length = ul at *
    have HUL := hide hul2
    clear hul2
    go_region_held3 (fun q => q.cell? ⟨m2, 0, none⟩ = some (.int .i64 t.k) ∧ q.cell? ⟨m2, 2, none⟩ = some (.int .i64 t.l) ∧ q.cell? ⟨m2, 3, none⟩ = some (.int .i64 (sizeT t)) ∧ q.cell? ⟨g, 1, none⟩ = some (.slice (some ⟨rb, 0, none⟩) ul u.tc) ∧ q.cell? ⟨rb, i * 3 + 1, none⟩ = some (.slice x.da xdl x.dc))
      (with_reducible (first | exact J | exact unhide KB _ (unhide A0 _) | exact unhide KB _ (unhide Q1) | exact unhide KB _ (unhide Q1a _) | exact unhide KB _ (unhide Q2)))
      (first
        | (refine step_app_run (by rfl) _ _ _ (by rfl) _ _ _ (by rfl) (by rfl) (unhide R1) ?_; clear R1)
        | (refine step_app_run (by rfl) _ _ _ (by rfl) _ _ _ (by rfl) (by rfl) (unhide R2) ?_; clear R2))
    clear J KB A0 Q1 Q1a Q2 HU
    have HPN := hide hpn
    clear hpn
    go_upto_if 38 with fail
    go_cut [2] (fun pv wx => pv = .string (St (Lib.trimSuffix (jn L) [47])) ∧ wx = w4)
    case first =>
      by_cases hq : L = []
      · have d1 : (sp.toList == [47]) = true := by rw [HPN.out, decide_eq_true hq]
        have e1 : St (Lib.trimSuffix (jn L) [47]) = ⟨#[]⟩ := by rw [htr, if_pos hq]; rfl
        clear HPN htr hsp hq
        rw [d1]
        go_wp2_with fail
        go_meet
        exact ⟨by rw [e1], rfl⟩
      · have d1 : (sp.toList == [47]) = false := by rw [HPN.out, decide_eq_false hq]
        have e1 : St (Lib.trimSuffix (jn L) [47]) = sp := by rw [htr, if_neg hq, hsp]
        clear HPN htr hsp hq
        rw [d1]
        go_wp2_with fail
        go_meet
        exact ⟨by rw [e1], rfl⟩
    case rest =>
      obtain ⟨rfl, hwc⟩ := hcut
      obtain rfl := hwc.symm
      have hptl : (Lib.trimSuffix (jn L) [47]).length ≤ 200 := Nat.le_trans (trims_len _) hpl
      have hsub : ∀ y, St (Lib.trimSuffix (jn L) [47] ++ [47]) ++ St y = St (subP (jn L) y) := fun y => St_app _ _
      have ha1 := St_app47 (Lib.trimSuffix (jn L) [47])
      have hz1 : ¬ 9223372036854775807 < (St (Lib.trimSuffix (jn L) [47])).size + 1 := by rw [St_size]; omega
      have hsz1 : (St (Lib.trimSuffix (jn L) [47] ++ [47])).size ≤ 201 := by rw [St_size]; simp; omega
      have HSUB := hide hsub
      have HH4 : Hid (DL B w4 v4 (xs ++ [⟨jn L, t, a1, c1⟩]) ∧ Below B w w4 ∧ Fn w w4 ∧ B ≤ w4.heap.size) := ⟨H4.out.1, H4.out.2.1, H4.out.2.2, hB4⟩
      obtain ⟨rb', era, _, _, _, t2, _⟩ := HT4.out.row.cell HXX.out
      have g1 := HT4.out.cells.2.1
      rw [era, HUL.out] at g1
      rw [HE.out] at era
      cases era
      have KM := hide (KM.out w4 HT4.out)
      clear HPN htr hsp hpl hptl H4 hB4 hsub
      generalize St (Lib.trimSuffix (jn L) [47] ++ [47]) = s1 at *
      generalize St (Lib.trimSuffix (jn L) [47]) = st at *
      generalize hnl : x.ns.length = n at *
      have HNL : Hid (n = t.ns.length) := hxn
      have HNL2 := hide hnl
      clear hnl hxn
      go_wp2_with fail
      refine (unhide KM).mono ?_
      rintro e w5 ⟨a', c', rfl, ho, hb⟩
      have H5 : Hid (∃ ys, DL B w5 v4 (xs ++ ys) ∧ ys.map Nd.obs = ((jn L, t) :: (t.ns.take 0).flatMap (fun e => dumpL s m (subP (jn L) e.1) e.2)).map obT ∧ Below B w w5 ∧ Fn w w5 ∧ Fn w5 w5 ∧ SM w5 S g u) := by
        obtain ⟨q1, q2, q3, q4⟩ := HH4.out
        exact ⟨[⟨jn L, t, a1, c1⟩], q1.below hb (Nat.le_refl _), rfl, q2.trans (hb.mono q4), q3.trans (Fn.of hb (Nat.le_refl _)), fun _ _ _ _ _ => rfl, HT4.out.below hb⟩
      have HB5 : Hid (B ≤ w5.heap.size) := Nat.le_trans HH4.out.2.2.2 hb.size
      have HO := hide ho
      clear KM hb ho HH4 HT4 t2 g1 HE
      go_wp2_with fail
      go_loopw [1, 11] (fun lv kv wr => ∃ (k : Nat) (z : Value), k ≤ n ∧ lv = z ∧ kv = .int .i64 (k : Int) ∧ Hid (∃ ys, DL B wr z (xs ++ ys) ∧ ys.map Nd.obs = ((jn L, t) :: (t.ns.take k).flatMap (fun e => dumpL s m (subP (jn L) e.1) e.2)).map obT ∧ Below B w wr ∧ Fn w wr ∧ Fn w5 wr ∧ SM wr S g u)) (fun _ kv _ => n - (intOf kv).toNat)
      case atStart => exact ⟨0, _, Nat.zero_le _, rfl, rfl, H5⟩
      case round =>
        obtain ⟨k, z, hkn, hz, rfl, hJ⟩ := hrel
        obtain rfl := hz.symm
        clear H5
        by_cases hlt : k < n
        · have l1 : (k : Int) < (n : Int) := by omega
          have l0 : (0 : Int) ≤ (k : Int) := by omega
          obtain ⟨e0, he⟩ : ∃ e0, t.ns[k]? = some e0 := ⟨_, List.getElem?_eq_getElem (by have := HNL.out; omega)⟩
          obtain ⟨hx2, hel, hC⟩ := KC.out k e0 he
          obtain ⟨ys, q1, q2, q3, q4, q5, q6⟩ := hJ.out
          obtain ⟨nb, rfl, _, _, _⟩ := HO.out.cell (HN16.out k e0 he)
          obtain ⟨_, _, csn, hcsn⟩ := HO.out.at rfl
          have KB : Hid (∀ q, Fn w5 q → q.cell? ⟨nb, k * 2, none⟩ = some (.int .i64 (nmb s e0.2 : Int)) ∧ q.cell? ⟨nb, k * 2 + 1, none⟩ = some (.string (St e0.1))) := fun q hq => by
            obtain ⟨nb', e', _, y0, y1⟩ := HO.out.cell (HN16.out k e0 he)
            cases e'
            have e1 := hq nb _ _ hcsn (by decide)
            exact ⟨(cell_eq e1 _).trans y0, (cell_eq e1 _).trans y1⟩
          have hylen : ys.length = 1 + ((t.ns.take k).flatMap (fun e => dumpL s m (subP (jn L) e.1) e.2)).length := by
            have := congrArg List.length q2
            simp at this
            simp
            omega
          have htot : (t.ns.flatMap (fun e => dumpL s m (subP (jn L) e.1) e.2)).length = ((t.ns.take k).flatMap (fun e => dumpL s m (subP (jn L) e.1) e.2)).length + ((dumpL s m (subP (jn L) e0.1) e0.2).length + ((t.ns.drop (k + 1)).flatMap (fun e => dumpL s m (subP (jn L) e.1) e.2)).length) := by
            have hkl : k < t.ns.length := (List.getElem?_eq_some_iff.1 he).1
            have hge : t.ns[k] = e0 := (List.getElem?_eq_some_iff.1 he).2
            conv => lhs; rw [← List.take_append_drop k t.ns, List.drop_eq_getElem_cons hkl]
            rw [List.flatMap_append, List.flatMap_cons, List.length_append, List.length_append, hge]
          have KE := hide (hC wr.drew z (xs ++ ys) q6.drew (q1.kept (fun _ _ _ _ _ _ => rfl)) (Nat.le_trans hB.out q3.size) (by
            have := HH.out.2.2.1
            rw [List.length_append]
            omega))
          have ha2 := HSUB.out e0.1
          have hz2 : ¬ 9223372036854775807 < s1.size + (St e0.1).size := by rw [St_size]; omega
          have J := KB.out wr.drew (fun k cs t hh ht => q5 k cs t hh ht)
          have HF : Hid (∀ w' v', DP B s m (subP (jn L) e0.1) e0.2 (xs ++ ys) wr.drew v' w' → Fn w5 w' ∧ ∃ ys, DL B w' v' (xs ++ ys) ∧ ys.map Nd.obs = ((jn L, t) :: (t.ns.take (k + 1)).flatMap (fun e => dumpL s m (subP (jn L) e.1) e.2)).map obT ∧ Below B w w' ∧ Fn w w' ∧ Fn w5 w' ∧ SM w' S g u) := fun w' v' hDP => by
            obtain ⟨ys2, y1, y2, y3, y4⟩ := hDP
            have y3' : Below B wr w' := ⟨y3.os, y3.tape, y3.output, y3.size, y3.block⟩
            have y4' : Fn wr w' := fun k cs t hh ht => y4 k cs t hh ht
            have f5 := q5.trans y4'
            refine ⟨f5, ys ++ ys2, by rw [← List.append_assoc]; exact y1, ?_, q3.trans y3', q4.trans y4', f5, ?_⟩
            · rw [List.map_append, q2, y2, List.take_add_one, he, List.flatMap_append, ← List.map_append]
              simp
            · exact q6.kept (fun k hk => y3'.block k (HSB.out k hk)) (fun k hk => hk) (fun k hk => Nat.lt_of_lt_of_le (q6.lt k hk) y3'.size)
          clear hC hJ q1 q2 q3 q4 q5 q6 he hylen htot hcsn hel hx2
          generalize St (subP (jn L) e0.1) = sq at *
          generalize St e0.1 = sx at *
          generalize nmb s e0.2 = ic at *
          go_upto_region 9 with fail
          go_region_held3 (fun q => q.cell? ⟨nb, k * 2, none⟩ = some (.int .i64 (ic : Int)) ∧ q.cell? ⟨nb, k * 2 + 1, none⟩ = some (.string sx))
            (with_reducible (first | exact J | exact unhide KB _ (unhide F1)))
            (first
              | (go_at_call 51; refine (unhide KE).mono ?_; rintro e w' ⟨v', rfl, hDP⟩
                 have HG := hide (unhide HF w' v' hDP).2
                 have F1 := hide (unhide HF w' v' hDP).1
                 clear hDP))
          all_goals
            clear J KB KE HF F1
            go_wp2_with fail
            go_roundw
            case rel => exact ⟨k + 1, _, by omega, rfl, by go_num, HG⟩
            case measure => simp [intOf]; omega
        · obtain rfl : k = n := by omega
          have d9 : decide ((k : Int) < (k : Int)) = false := by simp
          have HR : Hid (DP B s (m + 1) (jn L) b xs w z wr) := by
            obtain ⟨ys, q1, q2, q3, q4, _⟩ := hJ.out
            rw [List.take_of_length_le (by have := HNL.out; omega)] at q2
            exact ⟨ys, q1, by rw [HDL.out]; exact q2, q3, q4⟩
          clear hJ
          go_wp2_with fail
          go_ret
          exact ⟨_, rfl, HR.out⟩

end Go.Proofs.YtknmgefpjdfenaaGreat

/- The reference's Rename: the end of it, and facts. -/
namespace Go.Proofs.YtknmgefpjdfenaaGreat
set_option maxRecDepth 100000
set_option maxHeartbeats 8000000
open Go.RowKit Go.Shelf Go.Maps
set_option linter.unusedVariables false

theorem tail_remove {s:Tr} {u:RTr} {r n d d2 x:Nat} {t t2 tx:Th} {x2:RT} {z z2:List UInt8} {ms:List (List UInt8)} {p:List UInt8} (h:Rel s u) (hw:Wf s r n) (hn:n ≤ 1700000000000) (hp:spl p=some (ms ++ [z])) (hd:go s ms r=(0,some d)) (ht:s.T d=some t) (h2:t.k=2) (hc:t.ns.lookup z=some x) (hx:s.T x=some tx)
  (ht2:s.T d2=some t2) (hc2:t2.ns.lookup z2=none) (hx2:u.th[nmb s d2]?=some x2) (hk2:Lk s t2 x2) (hwm:Wf (s.moved d z d2 z2 x) r n) (na:Option Addr) (nc:Nat) {v:World} {S:Nat→Prop} {g:Nat}
  (hT:SM v S g (u.put (nmb s d2) { x2 with ns:=x2.ns ++ [(z2,nmb s x)],na:=na,nc:=nc })) :
  Calls Tryz.prog 82 #[.pointer (some ⟨g,0,none⟩),.string (St p)] v fun e w'=>∃ u',e=.returned (.tuple #[])∧SM w' (Up S v.heap.size w'.heap.size) g u'∧Kp S v w'∧Rel (s.moved d z d2 z2 x) u':=by
 have hs:=h.rs hw hn
 obtain ⟨xd,hxd,hkd⟩:=h.thing hw ht
 obtain ⟨xx,hxx,_⟩:=h.thing hw hx
 obtain ⟨td,htd,hlt,hR⟩:=h.moved hw hn ht hc hx ht2 hc2 hxd hkd hx2 hk2 hwm na nc
 have hz2:x2.ns.lookup z2=none:=hk2.hasn hw ht2 hc2
 have hle:x2.ns.length ≤ 1700000000000:=by
  have e1:=hk2.ns.length_eq
  rw [List.length_map] at e1
  have:=hw.ns_le ht2
  omega
 have hs2:=hs.plus hx2 hz2 hxx (by omega) na nc
 obtain ⟨tr,htr,_⟩:=hw.ok.dir
 have hgo:goR u ms 1=(0,nmb s d):=by
  rcases rel_find h hw ms with ⟨c,tc,g1,_,g2⟩ | ⟨E,_,g1,_⟩
  ·rw [hd] at g1
   cases g1
   exact g2
  ·rw [hd] at g1
   cases g1
 have hpa:=paR_plus hs hx2 (j:=nmb s x) (z:=z2) na nc hgo hxd (by rw [hkd.k,h2])
 have hlk:∀ k a c,lkR (cutR (u.put (nmb s d2) { x2 with ns:=x2.ns ++ [(z2,nmb s x)],na:=na,nc:=nc }) (nmb s d) td k a c) (nmb s x) ≤ 1000000000000000:=fun k a c=>by
  have q1:=cut_le hs2 htd k (nmb s x) a c
  have q2:lkR (u.put (nmb s d2) { x2 with ns:=x2.ns ++ [(z2,nmb s x)],na:=na,nc:=nc }) (nmb s x) ≤ lkR u (nmb s x) + nmc (x2.ns ++ [(z2,nmb s x)]) (nmb s x):=lkS_set_le (nmb s x) { x2 with ns:=x2.ns ++ [(z2,nmb s x)],na:=na,nc:=nc } u.th (nmb s d2)
  have q3:=nmc_le (x2.ns ++ [(z2,nmb s x)]) (nmb s x)
  rw [List.length_append] at q3
  have q4:=h.links hw hx
  have q5:=hw.cnt_le x
  simp at q3
  omega
 refine (rremove_any hT hs2 hp hpa htd hlt hlk).mono ?_
 rintro e w' ⟨k,a,c,hk,rfl,hM,hkp⟩
 exact ⟨_,rfl,hM,hkp,hR k a c hk⟩

end Go.Proofs.YtknmgefpjdfenaaGreat

/- The reference's Rename. -/
namespace Go.Proofs.YtknmgefpjdfenaaGreat
set_option maxRecDepth 100000
set_option maxHeartbeats 8000000
open Go.RowKit Go.Shelf Go.Maps
set_option linter.unusedVariables false

theorem OwnS.last {B:Nat} {v:World} {a:Option Addr} {c:Nat} {ms:List (List UInt8)} {z:List UInt8} (ho:OwnS B v a (ms.length + 1) c (ms ++ [z])):∃ b o,a=some ⟨b,o,none⟩∧v.cell? ⟨b,o + ms.length,none⟩=some (.string (St z)):=by
 obtain ⟨b,o,e,_,hc⟩:=ho.has.2 (by omega)
 refine ⟨b,o,e,?_⟩
 have:=hc ms.length (by omega)
 rw [this]
 simp [sv]

theorem rren_bad {w:World} {S:Nat→Prop} {g r n:Nat} {s:Tr} {u:RTr} (h:Rel s u) (hw:Wf s r n) (hn:n ≤ 1700000000000) (hl:Low s) (hT:SM w S g u) {p q:List UInt8} (hpl:p.length ≤ 9223372036854775807) (hql:q.length ≤ 9223372036854775807) (hb:spE p ≠ 0 ∨ spE q ≠ 0) :
  Calls Tryz.prog 28 #[.pointer (some ⟨g,0,none⟩),.string (St p),.string (St q)] w fun e w'=>e=.returned (.int .i64 16)∧Below w.heap.size w w':=by
 have K1:=hide (rsplit_e w hpl)
 have K2:Hid (∀ v,Calls Tryz.prog 71 #[.string (St q)] v fun e w'=>(∃ a n c,e=.returned (.tuple #[.slice a n c,.int .i64 (spE q)]))∧Below v.heap.size v w'):=fun v=>rsplit_e v hql
 by_cases h1:spE p=0
 ·have d2:(spE q == 0)=false:=by simpa using hb.resolve_left (fun k=>k h1)
  rw [h1] at K1
  clear h hw hl hT hb h1 hpl hql
  generalize spE q=eq at *
  generalize St p=sp at *
  generalize St q=sq at *
  go_enter Tryz.func28,Tryz.ntmps28
  go_wp2_with fail
  refine (unhide K1).mono ?_
  rintro e w1 ⟨⟨a,m,c,rfl⟩,hb⟩
  have HB:=hide hb
  have K2:=hide (K2.out w1)
  clear K1 hb
  go_wp2_with fail
  refine (unhide K2).mono ?_
  rintro e w2 ⟨⟨a2,m2,c2,rfl⟩,hb⟩
  have HB:=hide (HB.out.trans (hb.mono HB.out.size))
  clear K2 hb
  go_wp2_with fail
  go_ret
  exact ⟨rfl,HB.out⟩
 ·have d1:(spE p == 0)=false:=by simpa using h1
  clear h hw hl hT hb h1 hpl hql
  generalize spE p=ep at *
  generalize spE q=eq at *
  generalize St p=sp at *
  generalize St q=sq at *
  go_enter Tryz.func28,Tryz.ntmps28
  go_wp2_with fail
  refine (unhide K1).mono ?_
  rintro e w1 ⟨⟨a,m,c,rfl⟩,hb⟩
  have HB:=hide hb
  have K2:=hide (K2.out w1)
  clear K1 hb
  go_wp2_with fail
  refine (unhide K2).mono ?_
  rintro e w2 ⟨⟨a2,m2,c2,rfl⟩,hb⟩
  have HB:=hide (HB.out.trans (hb.mono HB.out.size))
  clear K2 hb
  go_wp2_with fail
  go_ret
  exact ⟨rfl,HB.out⟩

theorem rren_root {w:World} {S:Nat→Prop} {g r n:Nat} {s:Tr} {u:RTr} (h:Rel s u) (hw:Wf s r n) (hn:n ≤ 1700000000000) (hl:Low s) (hT:SM w S g u) {p q:List UInt8} {ps qs:List (List UInt8)} (hp:spl p=some ps) (hq:spl q=some qs) (hr:ps=[] ∨ qs=[]) :
  Calls Tryz.prog 28 #[.pointer (some ⟨g,0,none⟩),.string (St p),.string (St q)] w fun e w'=>e=.returned (.int .i64 17)∧Below w.heap.size w w':=by
 have K1:=hide (rsplit_yes w hp)
 have K2:Hid (∀ v,Calls Tryz.prog 71 #[.string (St q)] v fun e w'=>∃ a c,e=.returned (.tuple #[.slice a qs.length c,.int .i64 0])∧OwnS v.heap.size w' a qs.length c qs∧Below v.heap.size v w'):=fun v=>rsplit_yes v hq
 clear h hw hl hT hp hq
 by_cases h1:ps=[]
 ·subst h1
  rw [List.length_nil] at K1
  generalize St p=sp at *
  generalize St q=sq at *
  go_enter Tryz.func28,Tryz.ntmps28
  go_wp2_with fail
  refine (unhide K1).mono ?_
  rintro e w1 ⟨a,c,rfl,_,hb⟩
  have HB:=hide hb
  have K2:=hide (K2.out w1)
  clear K1 hb
  go_wp2_with fail
  refine (unhide K2).mono ?_
  rintro e w2 ⟨a2,c2,rfl,_,hb⟩
  have HB:=hide (HB.out.trans (hb.mono HB.out.size))
  clear K2 hb
  go_wp2_with fail
  go_ret
  exact ⟨rfl,HB.out⟩
 ·obtain rfl:=hr.resolve_left h1
  have d1:((ps.length:Int) == 0)=false:=by
   have:ps.length ≠ 0:=fun e=>h1 (List.eq_nil_of_length_eq_zero e)
   simp
   omega
  generalize ps.length=pl at *
  simp only [List.length_nil] at K2
  clear h1 hr
  generalize St p=sp at *
  generalize St q=sq at *
  go_enter Tryz.func28,Tryz.ntmps28
  go_wp2_with fail
  refine (unhide K1).mono ?_
  rintro e w1 ⟨a,c,rfl,_,hb⟩
  have HB:=hide hb
  have K2:=hide (K2.out w1)
  clear K1 hb
  go_wp2_with fail
  refine (unhide K2).mono ?_
  rintro e w2 ⟨a2,c2,rfl,_,hb⟩
  have HB:=hide (HB.out.trans (hb.mono HB.out.size))
  clear K2 hb
  go_wp2_with fail
  go_ret
  exact ⟨rfl,HB.out⟩

theorem rren_walk {w:World} {S:Nat→Prop} {g r n:Nat} {s:Tr} {u:RTr} (h:Rel s u) (hw:Wf s r n) (hn:n ≤ 1700000000000) (hl:Low s) (hT:SM w S g u) {p q:List UInt8} {ms ms2:List (List UInt8)} {z z2:List UInt8} (hp:spl p=some (ms ++ [z])) (hq:spl q=some (ms2 ++ [z2])) {E:Int} (hE:E ≠ 0) (hg:goR u (ms ++ [z]) 1=(E,0)) :
  Calls Tryz.prog 28 #[.pointer (some ⟨g,0,none⟩),.string (St p),.string (St q)] w fun e w'=>e=.returned (.int .i64 E)∧Below w.heap.size w w':=by
 have hs:=h.rs hw hn
 have hok:=(spl_some hp).1
 have hok2:=(spl_some hq).1
 obtain ⟨h16,h200⟩:=okN_short hok
 obtain ⟨h16b,h200b⟩:=okN_short hok2
 have hl1:(ms ++ [z]).length=ms.length + 1:=by simp
 have hl2:(ms2 ++ [z2]).length=ms2.length + 1:=by simp
 have hz200:z2.length ≤ 200:=h200b z2 (by simp)
 have hm16:ms.length ≤ 16:=by rw [hl1] at h16; omega
 have hm16b:ms2.length ≤ 16:=by rw [hl2] at h16b; omega
 have K1:=hide (rsplit_yes w hp)
 have K2:Hid (∀ v,Calls Tryz.prog 71 #[.string (St q)] v fun e w'=>∃ a c,e=.returned (.tuple #[.slice a (ms2 ++ [z2]).length c,.int .i64 0])∧OwnS v.heap.size w' a (ms2 ++ [z2]).length c (ms2 ++ [z2])∧Below v.heap.size v w'):=fun v=>rsplit_yes v hq
 have d0:(((ms.length + 1:Nat):Int) == 0)=false:=by simp; omega
 have d0b:(((ms2.length + 1:Nat):Int) == 0)=false:=by simp; omega
 have HT:=hide hT
 have hul:=hs.len
 rw [hl1] at K1
 rw [hl2] at K2
 have KW:Hid (∀ v a c,SM v S g u→HasS v a (ms.length + 1) (ms ++ [z])→Calls Tryz.prog 75 #[.pointer (some ⟨g,0,none⟩),.slice a (ms.length + 1) c] v fun e w'=>e=.returned (.tuple #[.int .i64 (((0:Nat):Int):Int),.int .i64 E])∧w'=v):=fun v a c hv hh=>by
  have:=rwalk_any (c:=c) hv hs hh h200 (by omega)
  rw [hg] at this
  exact this
 have d1:(E == 0)=false:=by simpa using hE
 clear h hw hl hT hs hok hok2 h16 h200 h16b h200b hl1 hl2 hp hq hg
 generalize ((0:Nat):Int)=i0 at *
 have HO:Hid (∀ B v a c,OwnS B v a (ms2.length + 1) c (ms2 ++ [z2])→∃ b o,a=some ⟨b,o,none⟩∧v.cell? ⟨b,o + ms2.length,none⟩=some (.string (St z2))):=fun B v a c ho=>ho.last
 generalize St p=sp at *
 generalize St q=sq at *
 generalize St z2=sz2 at *
 generalize ms.length + 1=n1 at *
 generalize ms2.length + 1=n2 at *
 generalize ms2.length=l2 at *
 generalize ms ++ [z]=xs1 at *
 generalize ms2 ++ [z2]=ys2 at *
 go_enter Tryz.func28,Tryz.ntmps28
 go_wp2_with fail
 refine (unhide K1).mono ?_
 rintro e w1 ⟨a,c,rfl,ho,hb⟩
 have HB:=hide hb
 have HT:=hide (HT.out.below hb)
 have HA:=hide ho
 have K2:=hide (K2.out w1)
 clear K1 hb ho
 go_wp2_with fail
 refine (unhide K2).mono ?_
 rintro e w2 ⟨a2,c2,rfl,ho,hb⟩
 have HB:=hide (HB.out.trans (hb.mono HB.out.size))
 have HT:=hide (HT.out.below hb)
 have HA:=hide (HA.out.below hb (Nat.le_refl _))
 have HA2:Hid (∃ B,OwnS B w2 a2 n2 c2 ys2):=⟨_,ho⟩
 have KW:=hide (KW.out w2 a c HT.out HA.out.has)
 clear K2 hb ho
 go_wp2_with fail
 refine (unhide KW).mono ?_
 rintro e w3 ⟨rfl,rfl⟩
 clear KW HA
 go_wp2_with fail
 go_ret
 exact ⟨rfl,HB.out⟩

theorem rren_abo {w:World} {S:Nat→Prop} {g r n:Nat} {s:Tr} {u:RTr} (h:Rel s u) (hw:Wf s r n) (hn:n ≤ 1700000000000) (hl:Low s) (hT:SM w S g u) {p q:List UInt8} {ms ms2:List (List UInt8)} {z z2:List UInt8} (hp:spl p=some (ms ++ [z])) (hq:spl q=some (ms2 ++ [z2])) {x:Nat} (hg:goR u (ms ++ [z]) 1=(0,nmb s x)) (hab:abo (ms ++ [z]) (ms2 ++ [z2])=true) (hpq:p ≠ q) :
  Calls Tryz.prog 28 #[.pointer (some ⟨g,0,none⟩),.string (St p),.string (St q)] w fun e w'=>e=.returned (.int .i64 1)∧Below w.heap.size w w':=by
 have hs:=h.rs hw hn
 have hok:=(spl_some hp).1
 have hok2:=(spl_some hq).1
 obtain ⟨h16,h200⟩:=okN_short hok
 obtain ⟨h16b,h200b⟩:=okN_short hok2
 have hl1:(ms ++ [z]).length=ms.length + 1:=by simp
 have hl2:(ms2 ++ [z2]).length=ms2.length + 1:=by simp
 have hz200:z2.length ≤ 200:=h200b z2 (by simp)
 have hm16:ms.length ≤ 16:=by rw [hl1] at h16; omega
 have hm16b:ms2.length ≤ 16:=by rw [hl2] at h16b; omega
 have K1:=hide (rsplit_yes w hp)
 have K2:Hid (∀ v,Calls Tryz.prog 71 #[.string (St q)] v fun e w'=>∃ a c,e=.returned (.tuple #[.slice a (ms2 ++ [z2]).length c,.int .i64 0])∧OwnS v.heap.size w' a (ms2 ++ [z2]).length c (ms2 ++ [z2])∧Below v.heap.size v w'):=fun v=>rsplit_yes v hq
 have d0:(((ms.length + 1:Nat):Int) == 0)=false:=by simp; omega
 have d0b:(((ms2.length + 1:Nat):Int) == 0)=false:=by simp; omega
 have HT:=hide hT
 have hul:=hs.len
 rw [hl1] at K1
 rw [hl2] at K2
 have KW:Hid (∀ v a c,SM v S g u→HasS v a (ms.length + 1) (ms ++ [z])→Calls Tryz.prog 75 #[.pointer (some ⟨g,0,none⟩),.slice a (ms.length + 1) c] v fun e w'=>e=.returned (.tuple #[.int .i64 (nmb s x:Int),.int .i64 0])∧w'=v):=fun v a c hv hh=>by
  have:=rwalk_any (c:=c) hv hs hh h200 (by omega)
  rw [hg] at this
  exact this
 have KA:Hid (∀ v,Calls Tryz.prog 76 #[.string (St p),.string (St q)] v fun e w'=>e=.returned (.tuple #[.bool true,.int .i64 0])∧Below v.heap.size v w'):=fun v=>by
  have:=rabove_yes v hp hq
  rw [hab] at this
  exact this
 have d1:((St p).toList == (St q).toList)=false:=by rw [St_toList,St_toList]; simpa using hpq
 clear h hw hl hT hs hok hok2 h16 h200 h16b h200b hl1 hl2 hp hq hg hab hpq
 have HO:Hid (∀ B v a c,OwnS B v a (ms2.length + 1) c (ms2 ++ [z2])→∃ b o,a=some ⟨b,o,none⟩∧v.cell? ⟨b,o + ms2.length,none⟩=some (.string (St z2))):=fun B v a c ho=>ho.last
 generalize St p=sp at *
 generalize St q=sq at *
 generalize St z2=sz2 at *
 generalize ms.length + 1=n1 at *
 generalize ms2.length + 1=n2 at *
 generalize ms2.length=l2 at *
 generalize ms ++ [z]=xs1 at *
 generalize ms2 ++ [z2]=ys2 at *
 go_enter Tryz.func28,Tryz.ntmps28
 go_wp2_with fail
 refine (unhide K1).mono ?_
 rintro e w1 ⟨a,c,rfl,ho,hb⟩
 have HB:=hide hb
 have HT:=hide (HT.out.below hb)
 have HA:=hide ho
 have K2:=hide (K2.out w1)
 clear K1 hb ho
 go_wp2_with fail
 refine (unhide K2).mono ?_
 rintro e w2 ⟨a2,c2,rfl,ho,hb⟩
 have HB:=hide (HB.out.trans (hb.mono HB.out.size))
 have HT:=hide (HT.out.below hb)
 have HA:=hide (HA.out.below hb (Nat.le_refl _))
 have HA2:Hid (∃ B,OwnS B w2 a2 n2 c2 ys2):=⟨_,ho⟩
 have KW:=hide (KW.out w2 a c HT.out HA.out.has)
 clear K2 hb ho
 go_wp2_with fail
 refine (unhide KW).mono ?_
 rintro e w3 ⟨rfl,rfl⟩
 clear KW HA
 have KA:=hide (KA.out w3)
 go_wp2_with fail
 refine (unhide KA).mono ?_
 rintro e w4 ⟨rfl,hb⟩
 have HB:=hide (HB.out.trans (hb.mono HB.out.size))
 have HT:=hide (HT.out.below hb)
 have HA2:Hid (∃ B,OwnS B w4 a2 n2 c2 ys2):=by
  obtain ⟨B,q⟩:=HA2.out
  exact ⟨B,q.below hb (Nat.le_refl _)⟩
 clear KA hb
 go_wp2_with fail
 go_ret
 exact ⟨rfl,HB.out⟩

theorem rren_par {w:World} {S:Nat→Prop} {g r n:Nat} {s:Tr} {u:RTr} (h:Rel s u) (hw:Wf s r n) (hn:n ≤ 1700000000000) (hl:Low s) (hT:SM w S g u) {p q:List UInt8} {ms ms2:List (List UInt8)} {z z2:List UInt8} (hp:spl p=some (ms ++ [z])) (hq:spl q=some (ms2 ++ [z2])) {x:Nat} (hg:goR u (ms ++ [z]) 1=(0,nmb s x)) (hab:abo (ms ++ [z]) (ms2 ++ [z2])=false) {E:Int} (hE:E ≠ 0) (hpa:(paR u ms2).1=E) :
  Calls Tryz.prog 28 #[.pointer (some ⟨g,0,none⟩),.string (St p),.string (St q)] w fun e w'=>e=.returned (.int .i64 E)∧Below w.heap.size w w':=by
 have hs:=h.rs hw hn
 have hok:=(spl_some hp).1
 have hok2:=(spl_some hq).1
 obtain ⟨h16,h200⟩:=okN_short hok
 obtain ⟨h16b,h200b⟩:=okN_short hok2
 have hl1:(ms ++ [z]).length=ms.length + 1:=by simp
 have hl2:(ms2 ++ [z2]).length=ms2.length + 1:=by simp
 have hz200:z2.length ≤ 200:=h200b z2 (by simp)
 have hm16:ms.length ≤ 16:=by rw [hl1] at h16; omega
 have hm16b:ms2.length ≤ 16:=by rw [hl2] at h16b; omega
 have K1:=hide (rsplit_yes w hp)
 have K2:Hid (∀ v,Calls Tryz.prog 71 #[.string (St q)] v fun e w'=>∃ a c,e=.returned (.tuple #[.slice a (ms2 ++ [z2]).length c,.int .i64 0])∧OwnS v.heap.size w' a (ms2 ++ [z2]).length c (ms2 ++ [z2])∧Below v.heap.size v w'):=fun v=>rsplit_yes v hq
 have d0:(((ms.length + 1:Nat):Int) == 0)=false:=by simp; omega
 have d0b:(((ms2.length + 1:Nat):Int) == 0)=false:=by simp; omega
 have HT:=hide hT
 have hul:=hs.len
 rw [hl1] at K1
 rw [hl2] at K2
 have KW:Hid (∀ v a c,SM v S g u→HasS v a (ms.length + 1) (ms ++ [z])→Calls Tryz.prog 75 #[.pointer (some ⟨g,0,none⟩),.slice a (ms.length + 1) c] v fun e w'=>e=.returned (.tuple #[.int .i64 (nmb s x:Int),.int .i64 0])∧w'=v):=fun v a c hv hh=>by
  have:=rwalk_any (c:=c) hv hs hh h200 (by omega)
  rw [hg] at this
  exact this
 have KA:Hid (∀ v,Calls Tryz.prog 76 #[.string (St p),.string (St q)] v fun e w'=>e=.returned (.tuple #[.bool false,.int .i64 0])∧Below v.heap.size v w'):=fun v=>by
  have:=rabove_yes v hp hq
  rw [hab] at this
  exact this
 have KP:Hid (∀ B v a c,SM v S g u→OwnS B v a (ms2.length + 1) c (ms2 ++ [z2])→Calls Tryz.prog 77 #[.pointer (some ⟨g,0,none⟩),.slice a (ms2.length + 1) c] v fun e w'=>e=.returned (.tuple #[.int .i64 ((paR u ms2).2:Int),.int .i64 E])∧w'=v):=fun B v a c hv ho=>by
  have:=rparent18_any hv hs ho.has ho.2.1 hok2
  rw [hpa] at this
  exact this
 have d1:(E == 0)=false:=by simpa using hE
 clear h hw hl hT hs hok hok2 h16 h200 h16b h200b hl1 hl2 hp hq hg hab hpa
 generalize (paR u ms2).2=i2 at *
 have HO:Hid (∀ B v a c,OwnS B v a (ms2.length + 1) c (ms2 ++ [z2])→∃ b o,a=some ⟨b,o,none⟩∧v.cell? ⟨b,o + ms2.length,none⟩=some (.string (St z2))):=fun B v a c ho=>ho.last
 generalize St p=sp at *
 generalize St q=sq at *
 generalize St z2=sz2 at *
 generalize ms.length + 1=n1 at *
 generalize ms2.length + 1=n2 at *
 generalize ms2.length=l2 at *
 generalize ms ++ [z]=xs1 at *
 generalize ms2 ++ [z2]=ys2 at *
 go_enter Tryz.func28,Tryz.ntmps28
 go_wp2_with fail
 refine (unhide K1).mono ?_
 rintro e w1 ⟨a,c,rfl,ho,hb⟩
 have HB:=hide hb
 have HT:=hide (HT.out.below hb)
 have HA:=hide ho
 have K2:=hide (K2.out w1)
 clear K1 hb ho
 go_wp2_with fail
 refine (unhide K2).mono ?_
 rintro e w2 ⟨a2,c2,rfl,ho,hb⟩
 have HB:=hide (HB.out.trans (hb.mono HB.out.size))
 have HT:=hide (HT.out.below hb)
 have HA:=hide (HA.out.below hb (Nat.le_refl _))
 have HA2:Hid (∃ B,OwnS B w2 a2 n2 c2 ys2):=⟨_,ho⟩
 have KW:=hide (KW.out w2 a c HT.out HA.out.has)
 clear K2 hb ho
 go_wp2_with fail
 refine (unhide KW).mono ?_
 rintro e w3 ⟨rfl,rfl⟩
 clear KW HA
 have KA:=hide (KA.out w3)
 go_wp2_with fail
 refine (unhide KA).mono ?_
 rintro e w4 ⟨rfl,hb⟩
 have HB:=hide (HB.out.trans (hb.mono HB.out.size))
 have HT:=hide (HT.out.below hb)
 have HA2:Hid (∃ B,OwnS B w4 a2 n2 c2 ys2):=by
  obtain ⟨B,q⟩:=HA2.out
  exact ⟨B,q.below hb (Nat.le_refl _)⟩
 clear KA hb
 have KP:=hide (KP.out _ w4 a2 c2 HT.out HA2.out.choose_spec)
 go_wp2_with fail
 refine (unhide KP).mono ?_
 rintro e w5 ⟨rfl,rfl⟩
 clear KP
 go_wp2_with fail
 go_ret
 exact ⟨rfl,HB.out⟩

theorem rren_same {w:World} {S:Nat→Prop} {g r n:Nat} {s:Tr} {u:RTr} (h:Rel s u) (hw:Wf s r n) (hn:n ≤ 1700000000000) (hl:Low s) (hT:SM w S g u) {p q:List UInt8} {ms ms2:List (List UInt8)} {z z2:List UInt8} (hp:spl p=some (ms ++ [z])) (hq:spl q=some (ms2 ++ [z2])) {y:Nat} (hg:goR u (ms ++ [z]) 1=(0,nmb s y)) {bb:Bool} (hab:abo (ms ++ [z]) (ms2 ++ [z2])=bb) (hbp:bb=false ∨ p=q) {d2:Nat} {t2:Th} {x2:RT} (ht2:s.T d2=some t2) (hpa:paR u ms2=(0,nmb s d2)) (hx2:u.th[nmb s d2]?=some x2) (hk2:Lk s t2 x2) (hc2:t2.ns.lookup z2=some y) :
  Calls Tryz.prog 28 #[.pointer (some ⟨g,0,none⟩),.string (St p),.string (St q)] w fun e w'=>e=.returned (.int .i64 0)∧Below w.heap.size w w':=by
 have hs:=h.rs hw hn
 have hok:=(spl_some hp).1
 have hok2:=(spl_some hq).1
 obtain ⟨h16,h200⟩:=okN_short hok
 obtain ⟨h16b,h200b⟩:=okN_short hok2
 have hl1:(ms ++ [z]).length=ms.length + 1:=by simp
 have hl2:(ms2 ++ [z2]).length=ms2.length + 1:=by simp
 have hz200:z2.length ≤ 200:=h200b z2 (by simp)
 have hm16:ms.length ≤ 16:=by rw [hl1] at h16; omega
 have hm16b:ms2.length ≤ 16:=by rw [hl2] at h16b; omega
 have K1:=hide (rsplit_yes w hp)
 have K2:Hid (∀ v,Calls Tryz.prog 71 #[.string (St q)] v fun e w'=>∃ a c,e=.returned (.tuple #[.slice a (ms2 ++ [z2]).length c,.int .i64 0])∧OwnS v.heap.size w' a (ms2 ++ [z2]).length c (ms2 ++ [z2])∧Below v.heap.size v w'):=fun v=>rsplit_yes v hq
 have d0:(((ms.length + 1:Nat):Int) == 0)=false:=by simp; omega
 have d0b:(((ms2.length + 1:Nat):Int) == 0)=false:=by simp; omega
 have HT:=hide hT
 have hul:=hs.len
 rw [hl1] at K1
 rw [hl2] at K2
 have KW:Hid (∀ v a c,SM v S g u→HasS v a (ms.length + 1) (ms ++ [z])→Calls Tryz.prog 75 #[.pointer (some ⟨g,0,none⟩),.slice a (ms.length + 1) c] v fun e w'=>e=.returned (.tuple #[.int .i64 (nmb s y:Int),.int .i64 0])∧w'=v):=fun v a c hv hh=>by
  have:=rwalk_any (c:=c) hv hs hh h200 (by omega)
  rw [hg] at this
  exact this
 have KA:Hid (∀ v,Calls Tryz.prog 76 #[.string (St p),.string (St q)] v fun e w'=>e=.returned (.tuple #[.bool bb,.int .i64 0])∧Below v.heap.size v w'):=fun v=>by
  have:=rabove_yes v hp hq
  rw [hab] at this
  exact this
 have KP:Hid (∀ B v a c,SM v S g u→OwnS B v a (ms2.length + 1) c (ms2 ++ [z2])→Calls Tryz.prog 77 #[.pointer (some ⟨g,0,none⟩),.slice a (ms2.length + 1) c] v fun e w'=>e=.returned (.tuple #[.int .i64 (nmb s d2:Int),.int .i64 0])∧w'=v):=fun B v a c hv ho=>by
  have:=rparent18_any hv hs ho.has ho.2.1 hok2
  rw [hpa] at this
  exact this
 have hw1:IntKind.i64.wrap (((ms2.length + 1:Nat):Int) - 1)=(ms2.length:Int):=by rw [IntKind.wrap_i64]; omega
 have e1:((ms2.length + 1:Nat):Int) - 1=(ms2.length:Int):=by omega
 have l0:(0:Int) ≤ (ms2.length:Int):=by omega
 have l1:(ms2.length:Int) < ((ms2.length + 1:Nat):Int):=by omega
 have hdl:nmb s d2 < u.th.length:=(List.getElem?_eq_some_iff.1 hx2).1
 have hd0:(0:Int) ≤ (nmb s d2:Int):=by omega
 have hd1:(nmb s d2:Int) < (u.th.length:Int):=by omega
 have hn2:=hs.few _ x2 hx2
 have hz2:x2.ns.lookup z2=some (nmb s y):=hk2.has hw ht2 hc2
 have KL:Hid (∀ v,SM v S g u→Calls Tryz.prog 78 #[.pointer (some ⟨g,0,none⟩),.int .i64 (nmb s d2:Int),.string (St z2)] v fun e w'=>(∃ k:Nat,e=.returned (.int .i64 (k:Int))∧x2.ns[k]?=some (z2,nmb s y))∧w'=v):=fun v hv=>by
  refine (rplace_any hv hx2 z2 (by omega) hn2 (by omega)).mono ?_
  rintro e w' ⟨⟨r,rfl,hr⟩,rfl⟩
  rcases plK_look hr (hs.ap _ x2 hx2) with ⟨_,q⟩ | ⟨k,c',rfl,q1,q2⟩
  ·rw [q] at hz2; cases hz2
  ·rw [hz2] at q2
   cases q2
   exact ⟨⟨k,rfl,q1⟩,rfl⟩
 have d1:(bb=true∧((St p).toList == (St q).toList)=true) ∨ bb=false:=by
  cases bb with
  | false=>exact .inr rfl
  | true=>exact .inl ⟨rfl,by rw [hbp.resolve_left (by decide)]; simp⟩
 have HX2:=hide hx2
 clear h hw hl hT hs hok hok2 h16 h200 h16b h200b hl1 hl2 hp hq hg hab hpa hx2 hk2 ht2 hc2 hz2 hbp hn
 have HO:Hid (∀ B v a c,OwnS B v a (ms2.length + 1) c (ms2 ++ [z2])→∃ b o,a=some ⟨b,o,none⟩∧v.cell? ⟨b,o + ms2.length,none⟩=some (.string (St z2))):=fun B v a c ho=>ho.last
 generalize St p=sp at *
 generalize St q=sq at *
 generalize St z2=sz2 at *
 generalize ms.length + 1=n1 at *
 generalize ms2.length + 1=n2 at *
 generalize ms2.length=l2 at *
 generalize ms ++ [z]=xs1 at *
 generalize ms2 ++ [z2]=ys2 at *
 rcases d1 with ⟨d0c,d1⟩ | d1
 ·subst d0c
  go_enter Tryz.func28,Tryz.ntmps28
  go_wp2_with fail
  refine (unhide K1).mono ?_
  rintro e w1 ⟨a,c,rfl,ho,hb⟩
  have HB:=hide hb
  have HT:=hide (HT.out.below hb)
  have HA:=hide ho
  have K2:=hide (K2.out w1)
  clear K1 hb ho
  go_wp2_with fail
  refine (unhide K2).mono ?_
  rintro e w2 ⟨a2,c2,rfl,ho,hb⟩
  have HB:=hide (HB.out.trans (hb.mono HB.out.size))
  have HT:=hide (HT.out.below hb)
  have HA:=hide (HA.out.below hb (Nat.le_refl _))
  have HA2:Hid (∃ B,OwnS B w2 a2 n2 c2 ys2):=⟨_,ho⟩
  have KW:=hide (KW.out w2 a c HT.out HA.out.has)
  clear K2 hb ho
  go_wp2_with fail
  refine (unhide KW).mono ?_
  rintro e w3 ⟨rfl,rfl⟩
  clear KW HA
  have KA:=hide (KA.out w3)
  go_wp2_with fail
  refine (unhide KA).mono ?_
  rintro e w4 ⟨rfl,hb⟩
  have HB:=hide (HB.out.trans (hb.mono HB.out.size))
  have HT:=hide (HT.out.below hb)
  have HA2:Hid (∃ B,OwnS B w4 a2 n2 c2 ys2):=by
   obtain ⟨B,q⟩:=HA2.out
   exact ⟨B,q.below hb (Nat.le_refl _)⟩
  clear KA hb
  have KP:=hide (KP.out _ w4 a2 c2 HT.out HA2.out.choose_spec)
  go_wp2_with fail
  refine (unhide KP).mono ?_
  rintro e w5 ⟨rfl,rfl⟩
  clear KP
  obtain ⟨b0,o0,rfl,cz⟩:=HO.out _ _ _ _ HA2.out.choose_spec
  have KL:=hide (KL.out w5 HT.out)
  go_wp2_with fail
  refine (unhide KL).mono ?_
  rintro e w6 ⟨⟨k,rfl,hk⟩,rfl⟩
  clear KL cz
  have k0:(0:Int) ≤ (k:Int):=by omega
  have hkl:k < x2.ns.length:=(List.getElem?_eq_some_iff.1 hk).1
  have k1:(k:Int) < (x2.ns.length:Int):=by omega
  obtain ⟨rb,era,-,-,-,t2,-⟩:=HT.out.row.cell HX2.out
  have g1:=HT.out.cells.2.1
  rw [era] at g1
  obtain ⟨nb,ena,-,n0,-⟩:=(HT.out.nam _ x2 HX2.out).cell hk
  rw [ena] at t2
  have HK:=hide (And.intro hk (And.intro era ena))
  clear hk era ena
  go_wp2_with fail
  go_ret
  exact ⟨rfl,HB.out⟩
 ·subst d1
  go_enter Tryz.func28,Tryz.ntmps28
  go_wp2_with fail
  refine (unhide K1).mono ?_
  rintro e w1 ⟨a,c,rfl,ho,hb⟩
  have HB:=hide hb
  have HT:=hide (HT.out.below hb)
  have HA:=hide ho
  have K2:=hide (K2.out w1)
  clear K1 hb ho
  go_wp2_with fail
  refine (unhide K2).mono ?_
  rintro e w2 ⟨a2,c2,rfl,ho,hb⟩
  have HB:=hide (HB.out.trans (hb.mono HB.out.size))
  have HT:=hide (HT.out.below hb)
  have HA:=hide (HA.out.below hb (Nat.le_refl _))
  have HA2:Hid (∃ B,OwnS B w2 a2 n2 c2 ys2):=⟨_,ho⟩
  have KW:=hide (KW.out w2 a c HT.out HA.out.has)
  clear K2 hb ho
  go_wp2_with fail
  refine (unhide KW).mono ?_
  rintro e w3 ⟨rfl,rfl⟩
  clear KW HA
  have KA:=hide (KA.out w3)
  go_wp2_with fail
  refine (unhide KA).mono ?_
  rintro e w4 ⟨rfl,hb⟩
  have HB:=hide (HB.out.trans (hb.mono HB.out.size))
  have HT:=hide (HT.out.below hb)
  have HA2:Hid (∃ B,OwnS B w4 a2 n2 c2 ys2):=by
   obtain ⟨B,q⟩:=HA2.out
   exact ⟨B,q.below hb (Nat.le_refl _)⟩
  clear KA hb
  have KP:=hide (KP.out _ w4 a2 c2 HT.out HA2.out.choose_spec)
  go_wp2_with fail
  refine (unhide KP).mono ?_
  rintro e w5 ⟨rfl,rfl⟩
  clear KP
  obtain ⟨b0,o0,rfl,cz⟩:=HO.out _ _ _ _ HA2.out.choose_spec
  have KL:=hide (KL.out w5 HT.out)
  go_wp2_with fail
  refine (unhide KL).mono ?_
  rintro e w6 ⟨⟨k,rfl,hk⟩,rfl⟩
  clear KL cz
  have k0:(0:Int) ≤ (k:Int):=by omega
  have hkl:k < x2.ns.length:=(List.getElem?_eq_some_iff.1 hk).1
  have k1:(k:Int) < (x2.ns.length:Int):=by omega
  obtain ⟨rb,era,-,-,-,t2,-⟩:=HT.out.row.cell HX2.out
  have g1:=HT.out.cells.2.1
  rw [era] at g1
  obtain ⟨nb,ena,-,n0,-⟩:=(HT.out.nam _ x2 HX2.out).cell hk
  rw [ena] at t2
  have HK:=hide (And.intro hk (And.intro era ena))
  clear hk era ena
  go_wp2_with fail
  go_ret
  exact ⟨rfl,HB.out⟩

theorem rren_fit0 {w:World} {S:Nat→Prop} {g r n:Nat} {s:Tr} {u:RTr} (h:Rel s u) (hw:Wf s r n) (hn:n ≤ 1700000000000) (hl:Low s) (hT:SM w S g u) {p q:List UInt8} {ms ms2:List (List UInt8)} {z z2:List UInt8} (hp:spl p=some (ms ++ [z])) (hq:spl q=some (ms2 ++ [z2])) {x:Nat} (hg:goR u (ms ++ [z]) 1=(0,nmb s x)) (hab:abo (ms ++ [z]) (ms2 ++ [z2])=false) {d2:Nat} {t2:Th} {x2:RT} (ht2:s.T d2=some t2) (hpa:paR u ms2=(0,nmb s d2)) (hx2:u.th[nmb s d2]?=some x2) (hk2:Lk s t2 x2) (hc2:t2.ns.lookup z2=none) {tx:Th} (hx:s.T x=some tx) {rk:Nat→Nat} (hdp:Deep s rk) {m:Nat} (hm:rk x < m) (hnm:∀ ys e,go s ys x=(0,some e)→∀ y ∈ ys,nmB y=true) (hft:fitsB s m q x=false) :
  Calls Tryz.prog 28 #[.pointer (some ⟨g,0,none⟩),.string (St p),.string (St q)] w fun e w'=>e=.returned (.int .i64 16)∧Below w.heap.size w w':=by
 have hs:=h.rs hw hn
 have hok:=(spl_some hp).1
 have hok2:=(spl_some hq).1
 obtain ⟨h16,h200⟩:=okN_short hok
 obtain ⟨h16b,h200b⟩:=okN_short hok2
 have hl1:(ms ++ [z]).length=ms.length + 1:=by simp
 have hl2:(ms2 ++ [z2]).length=ms2.length + 1:=by simp
 have hz200:z2.length ≤ 200:=h200b z2 (by simp)
 have hm16:ms.length ≤ 16:=by rw [hl1] at h16; omega
 have hm16b:ms2.length ≤ 16:=by rw [hl2] at h16b; omega
 have K1:=hide (rsplit_yes w hp)
 have K2:Hid (∀ v,Calls Tryz.prog 71 #[.string (St q)] v fun e w'=>∃ a c,e=.returned (.tuple #[.slice a (ms2 ++ [z2]).length c,.int .i64 0])∧OwnS v.heap.size w' a (ms2 ++ [z2]).length c (ms2 ++ [z2])∧Below v.heap.size v w'):=fun v=>rsplit_yes v hq
 have d0:(((ms.length + 1:Nat):Int) == 0)=false:=by simp; omega
 have d0b:(((ms2.length + 1:Nat):Int) == 0)=false:=by simp; omega
 have HT:=hide hT
 have hul:=hs.len
 rw [hl1] at K1
 rw [hl2] at K2
 have KW:Hid (∀ v a c,SM v S g u→HasS v a (ms.length + 1) (ms ++ [z])→Calls Tryz.prog 75 #[.pointer (some ⟨g,0,none⟩),.slice a (ms.length + 1) c] v fun e w'=>e=.returned (.tuple #[.int .i64 (nmb s x:Int),.int .i64 0])∧w'=v):=fun v a c hv hh=>by
  have:=rwalk_any (c:=c) hv hs hh h200 (by omega)
  rw [hg] at this
  exact this
 have KA:Hid (∀ v,Calls Tryz.prog 76 #[.string (St p),.string (St q)] v fun e w'=>e=.returned (.tuple #[.bool false,.int .i64 0])∧Below v.heap.size v w'):=fun v=>by
  have:=rabove_yes v hp hq
  rw [hab] at this
  exact this
 have KP:Hid (∀ B v a c,SM v S g u→OwnS B v a (ms2.length + 1) c (ms2 ++ [z2])→Calls Tryz.prog 77 #[.pointer (some ⟨g,0,none⟩),.slice a (ms2.length + 1) c] v fun e w'=>e=.returned (.tuple #[.int .i64 (nmb s d2:Int),.int .i64 0])∧w'=v):=fun B v a c hv ho=>by
  have:=rparent18_any hv hs ho.has ho.2.1 hok2
  rw [hpa] at this
  exact this
 have hw1:IntKind.i64.wrap (((ms2.length + 1:Nat):Int) - 1)=(ms2.length:Int):=by rw [IntKind.wrap_i64]; omega
 have e1:((ms2.length + 1:Nat):Int) - 1=(ms2.length:Int):=by omega
 have l0:(0:Int) ≤ (ms2.length:Int):=by omega
 have l1:(ms2.length:Int) < ((ms2.length + 1:Nat):Int):=by omega
 have hdl:nmb s d2 < u.th.length:=(List.getElem?_eq_some_iff.1 hx2).1
 have hd0:(0:Int) ≤ (nmb s d2:Int):=by omega
 have hd1:(nmb s d2:Int) < (u.th.length:Int):=by omega
 have hn2:=hs.few _ x2 hx2
 have hz2:x2.ns.lookup z2=none:=hk2.hasn hw ht2 hc2
 have KL:Hid (∀ v,SM v S g u→Calls Tryz.prog 78 #[.pointer (some ⟨g,0,none⟩),.int .i64 (nmb s d2:Int),.string (St z2)] v fun e w'=>e=.returned (.int .i64 (-1))∧w'=v):=fun v hv=>by
  refine (rplace_any hv hx2 z2 (by omega) hn2 (by omega)).mono ?_
  rintro e w' ⟨⟨r,rfl,hr⟩,rfl⟩
  rcases plK_look hr (hs.ap _ x2 hx2) with ⟨rfl,q⟩ | ⟨k,c',rfl,_,q⟩
  ·exact ⟨rfl,rfl⟩
  ·rw [q] at hz2; cases hz2
 have KF:Hid (∀ v a c,SM v S g u→HasS v a (ms2.length + 1) (ms2 ++ [z2])→Calls Tryz.prog 79 #[.pointer (some ⟨g,0,none⟩),.slice a (ms2.length + 1) c,.int .i64 (nmb s x:Int)] v fun e w'=>e=.returned (.bool false)∧Below v.heap.size v w'):=fun v a c hv hh=>by
  have:=rfits_rel (c:=c) h hw hn hdp m x (ms2 ++ [z2]) v a tx hx hm hv (by rw [hl2]; exact hh) (by rw [hl2]; omega) (((okN_iff _).1 hok2).2.1) hnm
  rw [hl2,show jn (ms2 ++ [z2])=q from (spl_some hq).2.1.symm,hft] at this
  exact this
 clear h hw hl hT hs hok hok2 h16 h200 h16b h200b hl1 hl2 hp hq hg hab hpa hx2 hk2 ht2 hc2 hz2 hx hdp hm hnm hft hn
 have HO:Hid (∀ B v a c,OwnS B v a (ms2.length + 1) c (ms2 ++ [z2])→∃ b o,a=some ⟨b,o,none⟩∧v.cell? ⟨b,o + ms2.length,none⟩=some (.string (St z2))):=fun B v a c ho=>ho.last
 generalize St p=sp at *
 generalize St q=sq at *
 generalize St z2=sz2 at *
 generalize ms.length + 1=n1 at *
 generalize ms2.length + 1=n2 at *
 generalize ms2.length=l2 at *
 generalize ms ++ [z]=xs1 at *
 generalize ms2 ++ [z2]=ys2 at *
 go_enter Tryz.func28,Tryz.ntmps28
 go_wp2_with fail
 refine (unhide K1).mono ?_
 rintro e w1 ⟨a,c,rfl,ho,hb⟩
 have HB:=hide hb
 have HT:=hide (HT.out.below hb)
 have HA:=hide ho
 have K2:=hide (K2.out w1)
 clear K1 hb ho
 go_wp2_with fail
 refine (unhide K2).mono ?_
 rintro e w2 ⟨a2,c2,rfl,ho,hb⟩
 have HB:=hide (HB.out.trans (hb.mono HB.out.size))
 have HT:=hide (HT.out.below hb)
 have HA:=hide (HA.out.below hb (Nat.le_refl _))
 have HA2:Hid (∃ B,OwnS B w2 a2 n2 c2 ys2):=⟨_,ho⟩
 have KW:=hide (KW.out w2 a c HT.out HA.out.has)
 clear K2 hb ho
 go_wp2_with fail
 refine (unhide KW).mono ?_
 rintro e w3 ⟨rfl,rfl⟩
 clear KW HA
 have KA:=hide (KA.out w3)
 go_wp2_with fail
 refine (unhide KA).mono ?_
 rintro e w4 ⟨rfl,hb⟩
 have HB:=hide (HB.out.trans (hb.mono HB.out.size))
 have HT:=hide (HT.out.below hb)
 have HA2:Hid (∃ B,OwnS B w4 a2 n2 c2 ys2):=by
  obtain ⟨B,q⟩:=HA2.out
  exact ⟨B,q.below hb (Nat.le_refl _)⟩
 clear KA hb
 have KP:=hide (KP.out _ w4 a2 c2 HT.out HA2.out.choose_spec)
 go_wp2_with fail
 refine (unhide KP).mono ?_
 rintro e w5 ⟨rfl,rfl⟩
 clear KP
 obtain ⟨b0,o0,rfl,cz⟩:=HO.out _ _ _ _ HA2.out.choose_spec
 have KL:=hide (KL.out w5 HT.out)
 go_wp2_with fail
 refine (unhide KL).mono ?_
 rintro e w6 ⟨rfl,rfl⟩
 clear KL
 have KF:=hide (KF.out w6 _ c2 HT.out HA2.out.choose_spec.has)
 go_wp2_with fail
 refine (unhide KF).mono ?_
 rintro e w7 ⟨rfl,hb⟩
 have HB:=hide (HB.out.trans (hb.mono HB.out.size))
 have HT:=hide (HT.out.below hb)
 clear KF hb
 go_wp2_with fail
 go_ret
 exact ⟨rfl,HB.out⟩

theorem rren_fit1 {w:World} {S:Nat→Prop} {g r n:Nat} {s:Tr} {u:RTr} (h:Rel s u) (hw:Wf s r n) (hn:n ≤ 1700000000000) (hl:Low s) (hT:SM w S g u) {p q:List UInt8} {ms ms2:List (List UInt8)} {z z2:List UInt8} (hp:spl p=some (ms ++ [z])) (hq:spl q=some (ms2 ++ [z2])) {x y:Nat} (hg:goR u (ms ++ [z]) 1=(0,nmb s x)) (hab:abo (ms ++ [z]) (ms2 ++ [z2])=false) {d2:Nat} {t2:Th} {x2:RT} (ht2:s.T d2=some t2) (hpa:paR u ms2=(0,nmb s d2)) (hx2:u.th[nmb s d2]?=some x2) (hk2:Lk s t2 x2) (hc2:t2.ns.lookup z2=some y) {ty:Th} (hy:s.T y=some ty) (hxy:y ≠ x) {tx:Th} (hx:s.T x=some tx) {rk:Nat→Nat} (hdp:Deep s rk) {m:Nat} (hm:rk x < m) (hnm:∀ ys e,go s ys x=(0,some e)→∀ y ∈ ys,nmB y=true) (hft:fitsB s m q x=false) :
  Calls Tryz.prog 28 #[.pointer (some ⟨g,0,none⟩),.string (St p),.string (St q)] w fun e w'=>e=.returned (.int .i64 16)∧Below w.heap.size w w':=by
 have hs:=h.rs hw hn
 have hok:=(spl_some hp).1
 have hok2:=(spl_some hq).1
 obtain ⟨h16,h200⟩:=okN_short hok
 obtain ⟨h16b,h200b⟩:=okN_short hok2
 have hl1:(ms ++ [z]).length=ms.length + 1:=by simp
 have hl2:(ms2 ++ [z2]).length=ms2.length + 1:=by simp
 have hz200:z2.length ≤ 200:=h200b z2 (by simp)
 have hm16:ms.length ≤ 16:=by rw [hl1] at h16; omega
 have hm16b:ms2.length ≤ 16:=by rw [hl2] at h16b; omega
 have K1:=hide (rsplit_yes w hp)
 have K2:Hid (∀ v,Calls Tryz.prog 71 #[.string (St q)] v fun e w'=>∃ a c,e=.returned (.tuple #[.slice a (ms2 ++ [z2]).length c,.int .i64 0])∧OwnS v.heap.size w' a (ms2 ++ [z2]).length c (ms2 ++ [z2])∧Below v.heap.size v w'):=fun v=>rsplit_yes v hq
 have d0:(((ms.length + 1:Nat):Int) == 0)=false:=by simp; omega
 have d0b:(((ms2.length + 1:Nat):Int) == 0)=false:=by simp; omega
 have HT:=hide hT
 have hul:=hs.len
 rw [hl1] at K1
 rw [hl2] at K2
 have KW:Hid (∀ v a c,SM v S g u→HasS v a (ms.length + 1) (ms ++ [z])→Calls Tryz.prog 75 #[.pointer (some ⟨g,0,none⟩),.slice a (ms.length + 1) c] v fun e w'=>e=.returned (.tuple #[.int .i64 (nmb s x:Int),.int .i64 0])∧w'=v):=fun v a c hv hh=>by
  have:=rwalk_any (c:=c) hv hs hh h200 (by omega)
  rw [hg] at this
  exact this
 have KA:Hid (∀ v,Calls Tryz.prog 76 #[.string (St p),.string (St q)] v fun e w'=>e=.returned (.tuple #[.bool false,.int .i64 0])∧Below v.heap.size v w'):=fun v=>by
  have:=rabove_yes v hp hq
  rw [hab] at this
  exact this
 have KP:Hid (∀ B v a c,SM v S g u→OwnS B v a (ms2.length + 1) c (ms2 ++ [z2])→Calls Tryz.prog 77 #[.pointer (some ⟨g,0,none⟩),.slice a (ms2.length + 1) c] v fun e w'=>e=.returned (.tuple #[.int .i64 (nmb s d2:Int),.int .i64 0])∧w'=v):=fun B v a c hv ho=>by
  have:=rparent18_any hv hs ho.has ho.2.1 hok2
  rw [hpa] at this
  exact this
 have hw1:IntKind.i64.wrap (((ms2.length + 1:Nat):Int) - 1)=(ms2.length:Int):=by rw [IntKind.wrap_i64]; omega
 have e1:((ms2.length + 1:Nat):Int) - 1=(ms2.length:Int):=by omega
 have l0:(0:Int) ≤ (ms2.length:Int):=by omega
 have l1:(ms2.length:Int) < ((ms2.length + 1:Nat):Int):=by omega
 have hdl:nmb s d2 < u.th.length:=(List.getElem?_eq_some_iff.1 hx2).1
 have hd0:(0:Int) ≤ (nmb s d2:Int):=by omega
 have hd1:(nmb s d2:Int) < (u.th.length:Int):=by omega
 have hn2:=hs.few _ x2 hx2
 have hz2:x2.ns.lookup z2=some (nmb s y):=hk2.has hw ht2 hc2
 have KL:Hid (∀ v,SM v S g u→Calls Tryz.prog 78 #[.pointer (some ⟨g,0,none⟩),.int .i64 (nmb s d2:Int),.string (St z2)] v fun e w'=>(∃ k:Nat,e=.returned (.int .i64 (k:Int))∧x2.ns[k]?=some (z2,nmb s y))∧w'=v):=fun v hv=>by
  refine (rplace_any hv hx2 z2 (by omega) hn2 (by omega)).mono ?_
  rintro e w' ⟨⟨r,rfl,hr⟩,rfl⟩
  rcases plK_look hr (hs.ap _ x2 hx2) with ⟨_,q⟩ | ⟨k,c',rfl,q1,q2⟩
  ·rw [q] at hz2; cases hz2
  ·rw [hz2] at q2
   cases q2
   exact ⟨⟨k,rfl,q1⟩,rfl⟩
 have KF:Hid (∀ v a c,SM v S g u→HasS v a (ms2.length + 1) (ms2 ++ [z2])→Calls Tryz.prog 79 #[.pointer (some ⟨g,0,none⟩),.slice a (ms2.length + 1) c,.int .i64 (nmb s x:Int)] v fun e w'=>e=.returned (.bool false)∧Below v.heap.size v w'):=fun v a c hv hh=>by
  have:=rfits_rel (c:=c) h hw hn hdp m x (ms2 ++ [z2]) v a tx hx hm hv (by rw [hl2]; exact hh) (by rw [hl2]; omega) (((okN_iff _).1 hok2).2.1) hnm
  rw [hl2,show jn (ms2 ++ [z2])=q from (spl_some hq).2.1.symm,hft] at this
  exact this
 have dxy:((nmb s y:Int) == (nmb s x:Int))=false:=by
  have:nmb s y ≠ nmb s x:=fun e=>hxy (nmb_inj hw hy hx e)
  simp
  omega
 have HX2:=hide hx2
 clear h hw hl hT hs hok hok2 h16 h200 h16b h200b hl1 hl2 hp hq hg hab hpa hx2 hk2 ht2 hc2 hz2 hx hdp hm hnm hft hn hxy hy
 have HO:Hid (∀ B v a c,OwnS B v a (ms2.length + 1) c (ms2 ++ [z2])→∃ b o,a=some ⟨b,o,none⟩∧v.cell? ⟨b,o + ms2.length,none⟩=some (.string (St z2))):=fun B v a c ho=>ho.last
 generalize St p=sp at *
 generalize St q=sq at *
 generalize St z2=sz2 at *
 generalize ms.length + 1=n1 at *
 generalize ms2.length + 1=n2 at *
 generalize ms2.length=l2 at *
 generalize ms ++ [z]=xs1 at *
 generalize ms2 ++ [z2]=ys2 at *
 go_enter Tryz.func28,Tryz.ntmps28
 go_wp2_with fail
 refine (unhide K1).mono ?_
 rintro e w1 ⟨a,c,rfl,ho,hb⟩
 have HB:=hide hb
 have HT:=hide (HT.out.below hb)
 have HA:=hide ho
 have K2:=hide (K2.out w1)
 clear K1 hb ho
 go_wp2_with fail
 refine (unhide K2).mono ?_
 rintro e w2 ⟨a2,c2,rfl,ho,hb⟩
 have HB:=hide (HB.out.trans (hb.mono HB.out.size))
 have HT:=hide (HT.out.below hb)
 have HA:=hide (HA.out.below hb (Nat.le_refl _))
 have HA2:Hid (∃ B,OwnS B w2 a2 n2 c2 ys2):=⟨_,ho⟩
 have KW:=hide (KW.out w2 a c HT.out HA.out.has)
 clear K2 hb ho
 go_wp2_with fail
 refine (unhide KW).mono ?_
 rintro e w3 ⟨rfl,rfl⟩
 clear KW HA
 have KA:=hide (KA.out w3)
 go_wp2_with fail
 refine (unhide KA).mono ?_
 rintro e w4 ⟨rfl,hb⟩
 have HB:=hide (HB.out.trans (hb.mono HB.out.size))
 have HT:=hide (HT.out.below hb)
 have HA2:Hid (∃ B,OwnS B w4 a2 n2 c2 ys2):=by
  obtain ⟨B,q⟩:=HA2.out
  exact ⟨B,q.below hb (Nat.le_refl _)⟩
 clear KA hb
 have KP:=hide (KP.out _ w4 a2 c2 HT.out HA2.out.choose_spec)
 go_wp2_with fail
 refine (unhide KP).mono ?_
 rintro e w5 ⟨rfl,rfl⟩
 clear KP
 obtain ⟨b0,o0,rfl,cz⟩:=HO.out _ _ _ _ HA2.out.choose_spec
 have KL:=hide (KL.out w5 HT.out)
 go_wp2_with fail
 refine (unhide KL).mono ?_
 rintro e w6 ⟨⟨k,rfl,hk⟩,rfl⟩
 clear KL cz
 have k0:(0:Int) ≤ (k:Int):=by omega
 have hkl:k < x2.ns.length:=(List.getElem?_eq_some_iff.1 hk).1
 have k1:(k:Int) < (x2.ns.length:Int):=by omega
 obtain ⟨rb,era,-,-,-,t2,-⟩:=HT.out.row.cell HX2.out
 have g1:=HT.out.cells.2.1
 rw [era] at g1
 obtain ⟨nb,ena,-,n0,-⟩:=(HT.out.nam _ x2 HX2.out).cell hk
 rw [ena] at t2
 have HK:=hide (And.intro hk (And.intro era ena))
 clear hk era ena
 have KF:=hide (KF.out w6 _ c2 HT.out HA2.out.choose_spec.has)
 go_wp2_with fail
 refine (unhide KF).mono ?_
 rintro e w7 ⟨rfl,hb⟩
 have HB:=hide (HB.out.trans (hb.mono HB.out.size))
 have HT:=hide (HT.out.below hb)
 clear KF hb
 go_wp2_with fail
 go_ret
 exact ⟨rfl,HB.out⟩

end Go.Proofs.YtknmgefpjdfenaaGreat

/- The reference's Rename: what its end wants. -/
namespace Go.Proofs.YtknmgefpjdfenaaGreat
set_option maxRecDepth 100000
set_option maxHeartbeats 8000000
open Go.RowKit Go.Shelf Go.Maps
set_option linter.unusedVariables false

structure TailF (s':Tr) (u1:RTr) (g D2 X:Nat) (z2 p:List UInt8) (x3:RT) (rb:Nat):Prop where
 more:∀ (v:World) (S1:Nat→Prop),SM v S1 g u1→∃ (x c':Nat) (w':World),(∀ ty,(Builtin.append_ #[71,71] ty #[.slice x3.na x3.ns.length x3.nc,.slice (some ⟨v.heap.size,0,none⟩) 1 1]).run Tryz.prog (v.alloc (.cells #[.int .i64 (X:Int),.string (St z2)] 120))=.ok (.slice (some ⟨x,0,none⟩) (x3.ns.length + 1) c') w') ∧
   w'.cell? ⟨g,1,none⟩=some (.slice (some ⟨rb,0,none⟩) u1.th.length u1.tc)∧w'.cell? ⟨rb,D2 * 3 + 2,none⟩=some (.slice x3.na x3.ns.length x3.nc)∧(∀ k,w'.frozen? ⟨rb,k,none⟩=false) ∧
   SM (w'.setCell ⟨rb,D2 * 3 + 2,none⟩ (.slice (some ⟨x,0,none⟩) (x3.ns.length + 1) c')) (Up S1 v.heap.size (w'.setCell ⟨rb,D2 * 3 + 2,none⟩ (.slice (some ⟨x,0,none⟩) (x3.ns.length + 1) c')).heap.size) g (u1.put D2 { x3 with ns:=x3.ns ++ [(z2,X)],na:=some ⟨x,0,none⟩,nc:=c' }) ∧
   Kp S1 v (w'.setCell ⟨rb,D2 * 3 + 2,none⟩ (.slice (some ⟨x,0,none⟩) (x3.ns.length + 1) c'))
 cells:∀ (v:World) (S1:Nat→Prop),SM v S1 g u1→v.cell? ⟨g,1,none⟩=some (.slice (some ⟨rb,0,none⟩) u1.th.length u1.tc)∧v.cell? ⟨rb,D2 * 3 + 2,none⟩=some (.slice x3.na x3.ns.length x3.nc)
 rem:∀ (na:Option Addr) (nc:Nat) (v:World) (S1:Nat→Prop),SM v S1 g (u1.put D2 { x3 with ns:=x3.ns ++ [(z2,X)],na:=na,nc:=nc }) →
  Calls Tryz.prog 82 #[.pointer (some ⟨g,0,none⟩),.string (St p)] v fun e w'=>∃ u',e=.returned (.tuple #[])∧SM w' (Up S1 v.heap.size w'.heap.size) g u'∧Kp S1 v w'∧Rel s' u'
 bd:(D2:Int) < (u1.th.length:Int)
 ta:u1.ta=some ⟨rb,0,none⟩

theorem tail_all {s:Tr} {u:RTr} {r n d d2 x:Nat} {t t2 tx:Th} {x2:RT} {z z2:List UInt8} {ms:List (List UInt8)} {p:List UInt8} (h:Rel s u) (hw:Wf s r n) (hn:n ≤ 1700000000000) (hp:spl p=some (ms ++ [z])) (hd:go s ms r=(0,some d)) (ht:s.T d=some t) (h2:t.k=2) (hc:t.ns.lookup z=some x) (hx:s.T x=some tx)
  (ht2:s.T d2=some t2) (hc2:t2.ns.lookup z2=none) (hx2:u.th[nmb s d2]?=some x2) (hk2:Lk s t2 x2) (hwm:Wf (s.moved d z d2 z2 x) r n) {rb:Nat} (hrb:u.ta=some ⟨rb,0,none⟩) (g:Nat) :
  TailF (s.moved d z d2 z2 x) u g (nmb s d2) (nmb s x) z2 p x2 rb:=by
 have hs:=h.rs hw hn
 refine ⟨fun v S1 hM=>SM.more hM hx2 (hs.few _ x2 hx2) hrb,fun v S1 hM=>?_,fun na nc v S1 hM=>tail_remove h hw hn hp hd ht h2 hc hx ht2 hc2 hx2 hk2 hwm na nc hM,?_,hrb⟩
 ·obtain ⟨rb',e1,_,_,_,c2,_⟩:=hM.row.cell hx2
  rw [hrb] at e1
  cases e1
  have:=hM.cells.2.1
  rw [hrb] at this
  exact ⟨this,c2⟩
 ·have:=(List.getElem?_eq_some_iff.1 hx2).1
  omega

theorem nmb_gone {s:Tr} {d y:Nat} {t ty:Th} {z:List UInt8} (ht:s.T d=some t) (hdy:d ≠ y) {e:Nat} (he:e ≠ y):nmb (s.gone d t z y ty) e=nmb s e:=by
 obtain ⟨g1,g2⟩:=gone_T (s:=s) (t:=t) (tx:=ty) (z:=z) hdy
 by_cases q:e=d
 ·subst q
  rw [nmb_of g1,nmb_of ht]
 ·unfold nmb
  rw [g2 e q he]

theorem tail_over {s:Tr} {u:RTr} {r n d d2 x y:Nat} {t t2 tx ty:Th} {x2:RT} {z z2:List UInt8} {ms:List (List UInt8)} {p:List UInt8} {kk:Int} (h:Rel s u) (hw:Wf s r n) (hn:n ≤ 1700000000000) (ho:∀ f b,s.opn f=some b→f < 16) (hp:spl p=some (ms ++ [z])) (hd:go s ms r=(0,some d)) (ht:s.T d=some t) (h2:t.k=2) (hc:t.ns.lookup z=some x) (hx:s.T x=some tx)
  (ht2:s.T d2=some t2) (h22:t2.k=2) (hc2:t2.ns.lookup z2=some y) (hy:s.T y=some ty) (hxy:y ≠ x) (hxd:x ≠ d2) (hE:yE s y ty kk=0) (hx2:u.th[nmb s d2]?=some x2) (hk2:Lk s t2 x2) {k:Nat} (hk:x2.ns[k]?=some (z2,nmb s y)) (hwm:Wf ((s.gone d2 t2 z2 y ty).moved d z d2 z2 x) r n) {rb:Nat} (hrb:u.ta=some ⟨rb,0,none⟩) (g:Nat) (a:Option Addr) (c:Nat) :
  TailF ((s.gone d2 t2 z2 y ty).moved d z d2 z2 x) (dpR u (nmb s d2) x2 k (nmb s y) a c) g (nmb s d2) (nmb s x) z2 p { x2 with ns:=x2.ns.eraseIdx k,na:=a,nc:=c } rb:=by
 obtain ⟨hw1,t1,t3,e1,e2,e3,e4,e5,e6,e7⟩:=hw.over hn ht h2 hc hx ht2 h22 hc2 hy hxy hE ho hxd
 obtain ⟨q1,q2,q3,q4,q5⟩:=hw.dropable (by omega) ht2 hc2 hy
 have h1:=h.gone hw hn ht2 hc2 hy hx2 hk2 hk hw1 a c
 have hye:ty.ns=[]:=(yE_zero hE).1
 have hdy:d ≠ y:=fun e=>by
  subst e
  rw [hy] at ht
  cases ht
  rw [hye] at hc
  cases hc
 have hgo:=gone_go ht2 hy q1 hc2 hye hdy ms r hd
 have hd2l:nmb s d2 < u.th.length:=(List.getElem?_eq_some_iff.1 hx2).1
 have hny:nmb s y ≠ nmb s d2:=fun e=>q1 (nmb_inj hw ht2 hy e.symm)
 have hx3:(dpR u (nmb s d2) x2 k (nmb s y) a c).th[nmb s d2]?=some { x2 with ns:=x2.ns.eraseIdx k,na:=a,nc:=c }:=by
  have hc1:(cutR u (nmb s d2) x2 k a c).th[nmb s d2]?=some { x2 with ns:=x2.ns.eraseIdx k,na:=a,nc:=c }:=by
   unfold cutR
   rw [put_get _ hd2l,if_pos rfl]
  unfold dpR
  split
  ·have hl:nmb s y < (cutR u (nmb s d2) x2 k a c).th.length:=by
    obtain ⟨xy,hxy2,_⟩:=h.thing hw hy
    unfold cutR
    rw [rput_len]
    exact (List.getElem?_eq_some_iff.1 hxy2).1
   rw [put_get _ hl,if_neg hny]
   exact hc1
  ·exact hc1
 have hnd2:=nmb_gone (z:=z2) (ty:=ty) ht2 q1 (e:=d2) q1
 have hnx:=nmb_gone (z:=z2) (ty:=ty) ht2 q1 (e:=x) (fun e=>hxy e.symm)
 obtain ⟨x3,hx3',hk3⟩:=h1.thing hw1 e4
 rw [hnd2,hx3] at hx3'
 cases hx3'
 have hta:(dpR u (nmb s d2) x2 k (nmb s y) a c).ta=some ⟨rb,0,none⟩:=by
  unfold dpR
  split <;> exact hrb
 have:=tail_all h1 hw1 hn hp hgo e1 e2 e3 e7 e4 e6 (by rw [hnd2]; exact hx3) hk3 hwm hta g
 rw [hnd2,hnx] at this
 exact this

end Go.Proofs.YtknmgefpjdfenaaGreat

/- The reference's Rename: what takes place. -/
namespace Go.Proofs.YtknmgefpjdfenaaGreat
set_option maxRecDepth 100000
set_option maxHeartbeats 8000000
open Go.RowKit Go.Shelf Go.Maps
set_option linter.unusedVariables false

theorem rren_y13 {w:World} {S:Nat→Prop} {g r n:Nat} {s:Tr} {u:RTr} (h:Rel s u) (hw:Wf s r n) (hn:n ≤ 1700000000000) (hl:Low s) (hT:SM w S g u) {p q:List UInt8} {ms ms2:List (List UInt8)} {z z2:List UInt8} (hp:spl p=some (ms ++ [z])) (hq:spl q=some (ms2 ++ [z2])) {x y:Nat} (hg:goR u (ms ++ [z]) 1=(0,nmb s x)) (hab:abo (ms ++ [z]) (ms2 ++ [z2])=false) {d2:Nat} {t2:Th} {x2:RT} (ht2:s.T d2=some t2) (hpa:paR u ms2=(0,nmb s d2)) (hx2:u.th[nmb s d2]?=some x2) (hk2:Lk s t2 x2) (hc2:t2.ns.lookup z2=some y) {ty:Th} (hy:s.T y=some ty) (hxy:y ≠ x) {tx:Th} (hx:s.T x=some tx) {rk:Nat→Nat} (hdp:Deep s rk) {m:Nat} (hm:rk x < m) (hnm:∀ ys e,go s ys x=(0,some e)→∀ y ∈ ys,nmB y=true) (hft:fitsB s m q x=true) (hk1:tx.k=2) (hk2y:ty.k=1) :
  Calls Tryz.prog 28 #[.pointer (some ⟨g,0,none⟩),.string (St p),.string (St q)] w fun e w'=>e=.returned (.int .i64 13)∧Below w.heap.size w w':=by
 have hs:=h.rs hw hn
 have hok:=(spl_some hp).1
 have hok2:=(spl_some hq).1
 obtain ⟨h16,h200⟩:=okN_short hok
 obtain ⟨h16b,h200b⟩:=okN_short hok2
 have hl1:(ms ++ [z]).length=ms.length + 1:=by simp
 have hl2:(ms2 ++ [z2]).length=ms2.length + 1:=by simp
 have hz200:z2.length ≤ 200:=h200b z2 (by simp)
 have hm16:ms.length ≤ 16:=by rw [hl1] at h16; omega
 have hm16b:ms2.length ≤ 16:=by rw [hl2] at h16b; omega
 have K1:=hide (rsplit_yes w hp)
 have K2:Hid (∀ v,Calls Tryz.prog 71 #[.string (St q)] v fun e w'=>∃ a c,e=.returned (.tuple #[.slice a (ms2 ++ [z2]).length c,.int .i64 0])∧OwnS v.heap.size w' a (ms2 ++ [z2]).length c (ms2 ++ [z2])∧Below v.heap.size v w'):=fun v=>rsplit_yes v hq
 have d0:(((ms.length + 1:Nat):Int) == 0)=false:=by simp; omega
 have d0b:(((ms2.length + 1:Nat):Int) == 0)=false:=by simp; omega
 have HT:=hide hT
 have hul:=hs.len
 rw [hl1] at K1
 rw [hl2] at K2
 have KW:Hid (∀ v a c,SM v S g u→HasS v a (ms.length + 1) (ms ++ [z])→Calls Tryz.prog 75 #[.pointer (some ⟨g,0,none⟩),.slice a (ms.length + 1) c] v fun e w'=>e=.returned (.tuple #[.int .i64 (nmb s x:Int),.int .i64 0])∧w'=v):=fun v a c hv hh=>by
  have:=rwalk_any (c:=c) hv hs hh h200 (by omega)
  rw [hg] at this
  exact this
 have KA:Hid (∀ v,Calls Tryz.prog 76 #[.string (St p),.string (St q)] v fun e w'=>e=.returned (.tuple #[.bool false,.int .i64 0])∧Below v.heap.size v w'):=fun v=>by
  have:=rabove_yes v hp hq
  rw [hab] at this
  exact this
 have KP:Hid (∀ B v a c,SM v S g u→OwnS B v a (ms2.length + 1) c (ms2 ++ [z2])→Calls Tryz.prog 77 #[.pointer (some ⟨g,0,none⟩),.slice a (ms2.length + 1) c] v fun e w'=>e=.returned (.tuple #[.int .i64 (nmb s d2:Int),.int .i64 0])∧w'=v):=fun B v a c hv ho=>by
  have:=rparent18_any hv hs ho.has ho.2.1 hok2
  rw [hpa] at this
  exact this
 have hw1:IntKind.i64.wrap (((ms2.length + 1:Nat):Int) - 1)=(ms2.length:Int):=by rw [IntKind.wrap_i64]; omega
 have e1:((ms2.length + 1:Nat):Int) - 1=(ms2.length:Int):=by omega
 have l0:(0:Int) ≤ (ms2.length:Int):=by omega
 have l1:(ms2.length:Int) < ((ms2.length + 1:Nat):Int):=by omega
 have hdl:nmb s d2 < u.th.length:=(List.getElem?_eq_some_iff.1 hx2).1
 have hd0:(0:Int) ≤ (nmb s d2:Int):=by omega
 have hd1:(nmb s d2:Int) < (u.th.length:Int):=by omega
 have hn2:=hs.few _ x2 hx2
 have hz2:x2.ns.lookup z2=some (nmb s y):=hk2.has hw ht2 hc2
 have KL:Hid (∀ v,SM v S g u→Calls Tryz.prog 78 #[.pointer (some ⟨g,0,none⟩),.int .i64 (nmb s d2:Int),.string (St z2)] v fun e w'=>(∃ k:Nat,e=.returned (.int .i64 (k:Int))∧x2.ns[k]?=some (z2,nmb s y))∧w'=v):=fun v hv=>by
  refine (rplace_any hv hx2 z2 (by omega) hn2 (by omega)).mono ?_
  rintro e w' ⟨⟨r,rfl,hr⟩,rfl⟩
  rcases plK_look hr (hs.ap _ x2 hx2) with ⟨_,q⟩ | ⟨k,c',rfl,q1,q2⟩
  ·rw [q] at hz2; cases hz2
  ·rw [hz2] at q2
   cases q2
   exact ⟨⟨k,rfl,q1⟩,rfl⟩
 have KF:Hid (∀ v a c,SM v S g u→HasS v a (ms2.length + 1) (ms2 ++ [z2])→Calls Tryz.prog 79 #[.pointer (some ⟨g,0,none⟩),.slice a (ms2.length + 1) c,.int .i64 (nmb s x:Int)] v fun e w'=>e=.returned (.bool true)∧Below v.heap.size v w'):=fun v a c hv hh=>by
  have:=rfits_rel (c:=c) h hw hn hdp m x (ms2 ++ [z2]) v a tx hx hm hv (by rw [hl2]; exact hh) (by rw [hl2]; omega) (((okN_iff _).1 hok2).2.1) hnm
  rw [hl2,show jn (ms2 ++ [z2])=q from (spl_some hq).2.1.symm,hft] at this
  exact this
 obtain ⟨xx,hxx,hkx⟩:=h.thing hw hx
 obtain ⟨xy,hxy2,hky⟩:=h.thing hw hy
 have hxl:nmb s x < u.th.length:=(List.getElem?_eq_some_iff.1 hxx).1
 have hx0:(0:Int) ≤ (nmb s x:Int):=by omega
 have hx1:(nmb s x:Int) < (u.th.length:Int):=by omega
 have hyl:nmb s y < u.th.length:=(List.getElem?_eq_some_iff.1 hxy2).1
 have hy0:(0:Int) ≤ (nmb s y:Int):=by omega
 have hy1:(nmb s y:Int) < (u.th.length:Int):=by omega
 have hxk:xx.k=tx.k:=hkx.k
 have hyk:xy.k=ty.k:=hky.k
 have hyn:xy.ns.length=ty.ns.length:=by have:=hky.ns.length_eq; rwa [List.length_map] at this
 have dxy:((nmb s y:Int) == (nmb s x:Int))=false:=by
  have:nmb s y ≠ nmb s x:=fun e=>hxy (nmb_inj hw hy hx e)
  simp
  omega
 rw [hk1] at hxk
 rw [hk2y] at hyk
 have HXX:=hide (And.intro hxx hxk)
 have HYY:=hide (And.intro hxy2 (And.intro hyk hyn))
 have HX2:=hide hx2
 clear h hw hl hT hs hok hok2 h16 h200 h16b h200b hl1 hl2 hp hq hg hab hpa hx2 hk2 ht2 hc2 hz2 hx hdp hm hnm hft hn hxy hy hk1 hk2y hxx hxy2 hkx hky hxk hyk hyn
 have HO:Hid (∀ B v a c,OwnS B v a (ms2.length + 1) c (ms2 ++ [z2])→∃ b o,a=some ⟨b,o,none⟩∧v.cell? ⟨b,o + ms2.length,none⟩=some (.string (St z2))):=fun B v a c ho=>ho.last
 generalize St p=sp at *
 generalize St q=sq at *
 generalize St z2=sz2 at *
 generalize ms.length + 1=n1 at *
 generalize ms2.length + 1=n2 at *
 generalize ms2.length=l2 at *
 generalize ms ++ [z]=xs1 at *
 generalize ms2 ++ [z2]=ys2 at *
 go_enter Tryz.func28,Tryz.ntmps28
 go_wp2_with fail
 refine (unhide K1).mono ?_
 rintro e w1 ⟨a,c,rfl,ho,hb⟩
 have HB:=hide hb
 have HT:=hide (HT.out.below hb)
 have HA:=hide ho
 have K2:=hide (K2.out w1)
 clear K1 hb ho
 go_wp2_with fail
 refine (unhide K2).mono ?_
 rintro e w2 ⟨a2,c2,rfl,ho,hb⟩
 have HB:=hide (HB.out.trans (hb.mono HB.out.size))
 have HT:=hide (HT.out.below hb)
 have HA:=hide (HA.out.below hb (Nat.le_refl _))
 have HA2:Hid (∃ B,OwnS B w2 a2 n2 c2 ys2):=⟨_,ho⟩
 have KW:=hide (KW.out w2 a c HT.out HA.out.has)
 clear K2 hb ho
 go_wp2_with fail
 refine (unhide KW).mono ?_
 rintro e w3 ⟨rfl,rfl⟩
 clear KW HA
 have KA:=hide (KA.out w3)
 go_wp2_with fail
 refine (unhide KA).mono ?_
 rintro e w4 ⟨rfl,hb⟩
 have HB:=hide (HB.out.trans (hb.mono HB.out.size))
 have HT:=hide (HT.out.below hb)
 have HA2:Hid (∃ B,OwnS B w4 a2 n2 c2 ys2):=by
  obtain ⟨B,q⟩:=HA2.out
  exact ⟨B,q.below hb (Nat.le_refl _)⟩
 clear KA hb
 have KP:=hide (KP.out _ w4 a2 c2 HT.out HA2.out.choose_spec)
 go_wp2_with fail
 refine (unhide KP).mono ?_
 rintro e w5 ⟨rfl,rfl⟩
 clear KP
 obtain ⟨b0,o0,rfl,cz⟩:=HO.out _ _ _ _ HA2.out.choose_spec
 have KL:=hide (KL.out w5 HT.out)
 go_wp2_with fail
 refine (unhide KL).mono ?_
 rintro e w6 ⟨⟨k,rfl,hk⟩,rfl⟩
 clear KL cz
 have k0:(0:Int) ≤ (k:Int):=by omega
 have hkl:k < x2.ns.length:=(List.getElem?_eq_some_iff.1 hk).1
 have k1:(k:Int) < (x2.ns.length:Int):=by omega
 obtain ⟨rb,era,-,-,-,t2,-⟩:=HT.out.row.cell HX2.out
 have g1:=HT.out.cells.2.1
 rw [era] at g1
 obtain ⟨nb,ena,-,n0,-⟩:=(HT.out.nam _ x2 HX2.out).cell hk
 rw [ena] at t2
 have HK:=hide (And.intro hk (And.intro era ena))
 clear hk era ena
 have KF:=hide (KF.out w6 _ c2 HT.out HA2.out.choose_spec.has)
 go_wp2_with fail
 refine (unhide KF).mono ?_
 rintro e w7 ⟨rfl,hb⟩
 have HB:=hide (HB.out.trans (hb.mono HB.out.size))
 have HT:=hide (HT.out.below hb)
 clear KF hb
 clear g1 t2 n0
 obtain ⟨rb7,er7,-,x0,-,-,-⟩:=HT.out.row.cell HXX.out.1
 rw [HK.out.2.1] at er7
 cases er7
 obtain ⟨rb7,er7,-,y0,-,y2,-⟩:=HT.out.row.cell HYY.out.1
 rw [HK.out.2.1] at er7
 cases er7
 obtain ⟨rb7,er7,-,-,-,t2,-⟩:=HT.out.row.cell HX2.out
 rw [HK.out.2.1] at er7
 cases er7
 have g1:=HT.out.cells.2.1
 rw [HK.out.2.1] at g1
 obtain ⟨nb7,en7,-,n0,-⟩:=(HT.out.nam _ x2 HX2.out).cell HK.out.1
 rw [HK.out.2.2] at en7
 cases en7
 rw [HK.out.2.2] at t2
 rw [HXX.out.2] at x0
 rw [HYY.out.2.1] at y0
 rw [HYY.out.2.2] at y2
 go_wp2_with fail
 go_ret
 exact ⟨rfl,HB.out⟩

theorem rren_y14 {w:World} {S:Nat→Prop} {g r n:Nat} {s:Tr} {u:RTr} (h:Rel s u) (hw:Wf s r n) (hn:n ≤ 1700000000000) (hl:Low s) (hT:SM w S g u) {p q:List UInt8} {ms ms2:List (List UInt8)} {z z2:List UInt8} (hp:spl p=some (ms ++ [z])) (hq:spl q=some (ms2 ++ [z2])) {x y:Nat} (hg:goR u (ms ++ [z]) 1=(0,nmb s x)) (hab:abo (ms ++ [z]) (ms2 ++ [z2])=false) {d2:Nat} {t2:Th} {x2:RT} (ht2:s.T d2=some t2) (hpa:paR u ms2=(0,nmb s d2)) (hx2:u.th[nmb s d2]?=some x2) (hk2:Lk s t2 x2) (hc2:t2.ns.lookup z2=some y) {ty:Th} (hy:s.T y=some ty) (hxy:y ≠ x) {tx:Th} (hx:s.T x=some tx) {rk:Nat→Nat} (hdp:Deep s rk) {m:Nat} (hm:rk x < m) (hnm:∀ ys e,go s ys x=(0,some e)→∀ y ∈ ys,nmB y=true) (hft:fitsB s m q x=true) (hk1:tx.k=1) (hk2y:ty.k=2) :
  Calls Tryz.prog 28 #[.pointer (some ⟨g,0,none⟩),.string (St p),.string (St q)] w fun e w'=>e=.returned (.int .i64 14)∧Below w.heap.size w w':=by
 have hs:=h.rs hw hn
 have hok:=(spl_some hp).1
 have hok2:=(spl_some hq).1
 obtain ⟨h16,h200⟩:=okN_short hok
 obtain ⟨h16b,h200b⟩:=okN_short hok2
 have hl1:(ms ++ [z]).length=ms.length + 1:=by simp
 have hl2:(ms2 ++ [z2]).length=ms2.length + 1:=by simp
 have hz200:z2.length ≤ 200:=h200b z2 (by simp)
 have hm16:ms.length ≤ 16:=by rw [hl1] at h16; omega
 have hm16b:ms2.length ≤ 16:=by rw [hl2] at h16b; omega
 have K1:=hide (rsplit_yes w hp)
 have K2:Hid (∀ v,Calls Tryz.prog 71 #[.string (St q)] v fun e w'=>∃ a c,e=.returned (.tuple #[.slice a (ms2 ++ [z2]).length c,.int .i64 0])∧OwnS v.heap.size w' a (ms2 ++ [z2]).length c (ms2 ++ [z2])∧Below v.heap.size v w'):=fun v=>rsplit_yes v hq
 have d0:(((ms.length + 1:Nat):Int) == 0)=false:=by simp; omega
 have d0b:(((ms2.length + 1:Nat):Int) == 0)=false:=by simp; omega
 have HT:=hide hT
 have hul:=hs.len
 rw [hl1] at K1
 rw [hl2] at K2
 have KW:Hid (∀ v a c,SM v S g u→HasS v a (ms.length + 1) (ms ++ [z])→Calls Tryz.prog 75 #[.pointer (some ⟨g,0,none⟩),.slice a (ms.length + 1) c] v fun e w'=>e=.returned (.tuple #[.int .i64 (nmb s x:Int),.int .i64 0])∧w'=v):=fun v a c hv hh=>by
  have:=rwalk_any (c:=c) hv hs hh h200 (by omega)
  rw [hg] at this
  exact this
 have KA:Hid (∀ v,Calls Tryz.prog 76 #[.string (St p),.string (St q)] v fun e w'=>e=.returned (.tuple #[.bool false,.int .i64 0])∧Below v.heap.size v w'):=fun v=>by
  have:=rabove_yes v hp hq
  rw [hab] at this
  exact this
 have KP:Hid (∀ B v a c,SM v S g u→OwnS B v a (ms2.length + 1) c (ms2 ++ [z2])→Calls Tryz.prog 77 #[.pointer (some ⟨g,0,none⟩),.slice a (ms2.length + 1) c] v fun e w'=>e=.returned (.tuple #[.int .i64 (nmb s d2:Int),.int .i64 0])∧w'=v):=fun B v a c hv ho=>by
  have:=rparent18_any hv hs ho.has ho.2.1 hok2
  rw [hpa] at this
  exact this
 have hw1:IntKind.i64.wrap (((ms2.length + 1:Nat):Int) - 1)=(ms2.length:Int):=by rw [IntKind.wrap_i64]; omega
 have e1:((ms2.length + 1:Nat):Int) - 1=(ms2.length:Int):=by omega
 have l0:(0:Int) ≤ (ms2.length:Int):=by omega
 have l1:(ms2.length:Int) < ((ms2.length + 1:Nat):Int):=by omega
 have hdl:nmb s d2 < u.th.length:=(List.getElem?_eq_some_iff.1 hx2).1
 have hd0:(0:Int) ≤ (nmb s d2:Int):=by omega
 have hd1:(nmb s d2:Int) < (u.th.length:Int):=by omega
 have hn2:=hs.few _ x2 hx2
 have hz2:x2.ns.lookup z2=some (nmb s y):=hk2.has hw ht2 hc2
 have KL:Hid (∀ v,SM v S g u→Calls Tryz.prog 78 #[.pointer (some ⟨g,0,none⟩),.int .i64 (nmb s d2:Int),.string (St z2)] v fun e w'=>(∃ k:Nat,e=.returned (.int .i64 (k:Int))∧x2.ns[k]?=some (z2,nmb s y))∧w'=v):=fun v hv=>by
  refine (rplace_any hv hx2 z2 (by omega) hn2 (by omega)).mono ?_
  rintro e w' ⟨⟨r,rfl,hr⟩,rfl⟩
  rcases plK_look hr (hs.ap _ x2 hx2) with ⟨_,q⟩ | ⟨k,c',rfl,q1,q2⟩
  ·rw [q] at hz2; cases hz2
  ·rw [hz2] at q2
   cases q2
   exact ⟨⟨k,rfl,q1⟩,rfl⟩
 have KF:Hid (∀ v a c,SM v S g u→HasS v a (ms2.length + 1) (ms2 ++ [z2])→Calls Tryz.prog 79 #[.pointer (some ⟨g,0,none⟩),.slice a (ms2.length + 1) c,.int .i64 (nmb s x:Int)] v fun e w'=>e=.returned (.bool true)∧Below v.heap.size v w'):=fun v a c hv hh=>by
  have:=rfits_rel (c:=c) h hw hn hdp m x (ms2 ++ [z2]) v a tx hx hm hv (by rw [hl2]; exact hh) (by rw [hl2]; omega) (((okN_iff _).1 hok2).2.1) hnm
  rw [hl2,show jn (ms2 ++ [z2])=q from (spl_some hq).2.1.symm,hft] at this
  exact this
 obtain ⟨xx,hxx,hkx⟩:=h.thing hw hx
 obtain ⟨xy,hxy2,hky⟩:=h.thing hw hy
 have hxl:nmb s x < u.th.length:=(List.getElem?_eq_some_iff.1 hxx).1
 have hx0:(0:Int) ≤ (nmb s x:Int):=by omega
 have hx1:(nmb s x:Int) < (u.th.length:Int):=by omega
 have hyl:nmb s y < u.th.length:=(List.getElem?_eq_some_iff.1 hxy2).1
 have hy0:(0:Int) ≤ (nmb s y:Int):=by omega
 have hy1:(nmb s y:Int) < (u.th.length:Int):=by omega
 have hxk:xx.k=tx.k:=hkx.k
 have hyk:xy.k=ty.k:=hky.k
 have hyn:xy.ns.length=ty.ns.length:=by have:=hky.ns.length_eq; rwa [List.length_map] at this
 have dxy:((nmb s y:Int) == (nmb s x:Int))=false:=by
  have:nmb s y ≠ nmb s x:=fun e=>hxy (nmb_inj hw hy hx e)
  simp
  omega
 rw [hk1] at hxk
 rw [hk2y] at hyk
 have HXX:=hide (And.intro hxx hxk)
 have HYY:=hide (And.intro hxy2 (And.intro hyk hyn))
 have HX2:=hide hx2
 clear h hw hl hT hs hok hok2 h16 h200 h16b h200b hl1 hl2 hp hq hg hab hpa hx2 hk2 ht2 hc2 hz2 hx hdp hm hnm hft hn hxy hy hk1 hk2y hxx hxy2 hkx hky hxk hyk hyn
 have HO:Hid (∀ B v a c,OwnS B v a (ms2.length + 1) c (ms2 ++ [z2])→∃ b o,a=some ⟨b,o,none⟩∧v.cell? ⟨b,o + ms2.length,none⟩=some (.string (St z2))):=fun B v a c ho=>ho.last
 generalize St p=sp at *
 generalize St q=sq at *
 generalize St z2=sz2 at *
 generalize ms.length + 1=n1 at *
 generalize ms2.length + 1=n2 at *
 generalize ms2.length=l2 at *
 generalize ms ++ [z]=xs1 at *
 generalize ms2 ++ [z2]=ys2 at *
 go_enter Tryz.func28,Tryz.ntmps28
 go_wp2_with fail
 refine (unhide K1).mono ?_
 rintro e w1 ⟨a,c,rfl,ho,hb⟩
 have HB:=hide hb
 have HT:=hide (HT.out.below hb)
 have HA:=hide ho
 have K2:=hide (K2.out w1)
 clear K1 hb ho
 go_wp2_with fail
 refine (unhide K2).mono ?_
 rintro e w2 ⟨a2,c2,rfl,ho,hb⟩
 have HB:=hide (HB.out.trans (hb.mono HB.out.size))
 have HT:=hide (HT.out.below hb)
 have HA:=hide (HA.out.below hb (Nat.le_refl _))
 have HA2:Hid (∃ B,OwnS B w2 a2 n2 c2 ys2):=⟨_,ho⟩
 have KW:=hide (KW.out w2 a c HT.out HA.out.has)
 clear K2 hb ho
 go_wp2_with fail
 refine (unhide KW).mono ?_
 rintro e w3 ⟨rfl,rfl⟩
 clear KW HA
 have KA:=hide (KA.out w3)
 go_wp2_with fail
 refine (unhide KA).mono ?_
 rintro e w4 ⟨rfl,hb⟩
 have HB:=hide (HB.out.trans (hb.mono HB.out.size))
 have HT:=hide (HT.out.below hb)
 have HA2:Hid (∃ B,OwnS B w4 a2 n2 c2 ys2):=by
  obtain ⟨B,q⟩:=HA2.out
  exact ⟨B,q.below hb (Nat.le_refl _)⟩
 clear KA hb
 have KP:=hide (KP.out _ w4 a2 c2 HT.out HA2.out.choose_spec)
 go_wp2_with fail
 refine (unhide KP).mono ?_
 rintro e w5 ⟨rfl,rfl⟩
 clear KP
 obtain ⟨b0,o0,rfl,cz⟩:=HO.out _ _ _ _ HA2.out.choose_spec
 have KL:=hide (KL.out w5 HT.out)
 go_wp2_with fail
 refine (unhide KL).mono ?_
 rintro e w6 ⟨⟨k,rfl,hk⟩,rfl⟩
 clear KL cz
 have k0:(0:Int) ≤ (k:Int):=by omega
 have hkl:k < x2.ns.length:=(List.getElem?_eq_some_iff.1 hk).1
 have k1:(k:Int) < (x2.ns.length:Int):=by omega
 obtain ⟨rb,era,-,-,-,t2,-⟩:=HT.out.row.cell HX2.out
 have g1:=HT.out.cells.2.1
 rw [era] at g1
 obtain ⟨nb,ena,-,n0,-⟩:=(HT.out.nam _ x2 HX2.out).cell hk
 rw [ena] at t2
 have HK:=hide (And.intro hk (And.intro era ena))
 clear hk era ena
 have KF:=hide (KF.out w6 _ c2 HT.out HA2.out.choose_spec.has)
 go_wp2_with fail
 refine (unhide KF).mono ?_
 rintro e w7 ⟨rfl,hb⟩
 have HB:=hide (HB.out.trans (hb.mono HB.out.size))
 have HT:=hide (HT.out.below hb)
 clear KF hb
 clear g1 t2 n0
 obtain ⟨rb7,er7,-,x0,-,-,-⟩:=HT.out.row.cell HXX.out.1
 rw [HK.out.2.1] at er7
 cases er7
 obtain ⟨rb7,er7,-,y0,-,y2,-⟩:=HT.out.row.cell HYY.out.1
 rw [HK.out.2.1] at er7
 cases er7
 obtain ⟨rb7,er7,-,-,-,t2,-⟩:=HT.out.row.cell HX2.out
 rw [HK.out.2.1] at er7
 cases er7
 have g1:=HT.out.cells.2.1
 rw [HK.out.2.1] at g1
 obtain ⟨nb7,en7,-,n0,-⟩:=(HT.out.nam _ x2 HX2.out).cell HK.out.1
 rw [HK.out.2.2] at en7
 cases en7
 rw [HK.out.2.2] at t2
 rw [HXX.out.2] at x0
 rw [HYY.out.2.1] at y0
 rw [HYY.out.2.2] at y2
 go_wp2_with fail
 go_ret
 exact ⟨rfl,HB.out⟩

theorem rren_y15 {w:World} {S:Nat→Prop} {g r n:Nat} {s:Tr} {u:RTr} (h:Rel s u) (hw:Wf s r n) (hn:n ≤ 1700000000000) (hl:Low s) (hT:SM w S g u) {p q:List UInt8} {ms ms2:List (List UInt8)} {z z2:List UInt8} (hp:spl p=some (ms ++ [z])) (hq:spl q=some (ms2 ++ [z2])) {x y:Nat} (hg:goR u (ms ++ [z]) 1=(0,nmb s x)) (hab:abo (ms ++ [z]) (ms2 ++ [z2])=false) {d2:Nat} {t2:Th} {x2:RT} (ht2:s.T d2=some t2) (hpa:paR u ms2=(0,nmb s d2)) (hx2:u.th[nmb s d2]?=some x2) (hk2:Lk s t2 x2) (hc2:t2.ns.lookup z2=some y) {ty:Th} (hy:s.T y=some ty) (hxy:y ≠ x) {tx:Th} (hx:s.T x=some tx) {rk:Nat→Nat} (hdp:Deep s rk) {m:Nat} (hm:rk x < m) (hnm:∀ ys e,go s ys x=(0,some e)→∀ y ∈ ys,nmB y=true) (hft:fitsB s m q x=true) (hk1:tx.k=2) (hk2y:ty.k=2) (hne:0 < ty.ns.length) :
  Calls Tryz.prog 28 #[.pointer (some ⟨g,0,none⟩),.string (St p),.string (St q)] w fun e w'=>e=.returned (.int .i64 15)∧Below w.heap.size w w':=by
 have hs:=h.rs hw hn
 have hok:=(spl_some hp).1
 have hok2:=(spl_some hq).1
 obtain ⟨h16,h200⟩:=okN_short hok
 obtain ⟨h16b,h200b⟩:=okN_short hok2
 have hl1:(ms ++ [z]).length=ms.length + 1:=by simp
 have hl2:(ms2 ++ [z2]).length=ms2.length + 1:=by simp
 have hz200:z2.length ≤ 200:=h200b z2 (by simp)
 have hm16:ms.length ≤ 16:=by rw [hl1] at h16; omega
 have hm16b:ms2.length ≤ 16:=by rw [hl2] at h16b; omega
 have K1:=hide (rsplit_yes w hp)
 have K2:Hid (∀ v,Calls Tryz.prog 71 #[.string (St q)] v fun e w'=>∃ a c,e=.returned (.tuple #[.slice a (ms2 ++ [z2]).length c,.int .i64 0])∧OwnS v.heap.size w' a (ms2 ++ [z2]).length c (ms2 ++ [z2])∧Below v.heap.size v w'):=fun v=>rsplit_yes v hq
 have d0:(((ms.length + 1:Nat):Int) == 0)=false:=by simp; omega
 have d0b:(((ms2.length + 1:Nat):Int) == 0)=false:=by simp; omega
 have HT:=hide hT
 have hul:=hs.len
 rw [hl1] at K1
 rw [hl2] at K2
 have KW:Hid (∀ v a c,SM v S g u→HasS v a (ms.length + 1) (ms ++ [z])→Calls Tryz.prog 75 #[.pointer (some ⟨g,0,none⟩),.slice a (ms.length + 1) c] v fun e w'=>e=.returned (.tuple #[.int .i64 (nmb s x:Int),.int .i64 0])∧w'=v):=fun v a c hv hh=>by
  have:=rwalk_any (c:=c) hv hs hh h200 (by omega)
  rw [hg] at this
  exact this
 have KA:Hid (∀ v,Calls Tryz.prog 76 #[.string (St p),.string (St q)] v fun e w'=>e=.returned (.tuple #[.bool false,.int .i64 0])∧Below v.heap.size v w'):=fun v=>by
  have:=rabove_yes v hp hq
  rw [hab] at this
  exact this
 have KP:Hid (∀ B v a c,SM v S g u→OwnS B v a (ms2.length + 1) c (ms2 ++ [z2])→Calls Tryz.prog 77 #[.pointer (some ⟨g,0,none⟩),.slice a (ms2.length + 1) c] v fun e w'=>e=.returned (.tuple #[.int .i64 (nmb s d2:Int),.int .i64 0])∧w'=v):=fun B v a c hv ho=>by
  have:=rparent18_any hv hs ho.has ho.2.1 hok2
  rw [hpa] at this
  exact this
 have hw1:IntKind.i64.wrap (((ms2.length + 1:Nat):Int) - 1)=(ms2.length:Int):=by rw [IntKind.wrap_i64]; omega
 have e1:((ms2.length + 1:Nat):Int) - 1=(ms2.length:Int):=by omega
 have l0:(0:Int) ≤ (ms2.length:Int):=by omega
 have l1:(ms2.length:Int) < ((ms2.length + 1:Nat):Int):=by omega
 have hdl:nmb s d2 < u.th.length:=(List.getElem?_eq_some_iff.1 hx2).1
 have hd0:(0:Int) ≤ (nmb s d2:Int):=by omega
 have hd1:(nmb s d2:Int) < (u.th.length:Int):=by omega
 have hn2:=hs.few _ x2 hx2
 have hz2:x2.ns.lookup z2=some (nmb s y):=hk2.has hw ht2 hc2
 have KL:Hid (∀ v,SM v S g u→Calls Tryz.prog 78 #[.pointer (some ⟨g,0,none⟩),.int .i64 (nmb s d2:Int),.string (St z2)] v fun e w'=>(∃ k:Nat,e=.returned (.int .i64 (k:Int))∧x2.ns[k]?=some (z2,nmb s y))∧w'=v):=fun v hv=>by
  refine (rplace_any hv hx2 z2 (by omega) hn2 (by omega)).mono ?_
  rintro e w' ⟨⟨r,rfl,hr⟩,rfl⟩
  rcases plK_look hr (hs.ap _ x2 hx2) with ⟨_,q⟩ | ⟨k,c',rfl,q1,q2⟩
  ·rw [q] at hz2; cases hz2
  ·rw [hz2] at q2
   cases q2
   exact ⟨⟨k,rfl,q1⟩,rfl⟩
 have KF:Hid (∀ v a c,SM v S g u→HasS v a (ms2.length + 1) (ms2 ++ [z2])→Calls Tryz.prog 79 #[.pointer (some ⟨g,0,none⟩),.slice a (ms2.length + 1) c,.int .i64 (nmb s x:Int)] v fun e w'=>e=.returned (.bool true)∧Below v.heap.size v w'):=fun v a c hv hh=>by
  have:=rfits_rel (c:=c) h hw hn hdp m x (ms2 ++ [z2]) v a tx hx hm hv (by rw [hl2]; exact hh) (by rw [hl2]; omega) (((okN_iff _).1 hok2).2.1) hnm
  rw [hl2,show jn (ms2 ++ [z2])=q from (spl_some hq).2.1.symm,hft] at this
  exact this
 obtain ⟨xx,hxx,hkx⟩:=h.thing hw hx
 obtain ⟨xy,hxy2,hky⟩:=h.thing hw hy
 have hxl:nmb s x < u.th.length:=(List.getElem?_eq_some_iff.1 hxx).1
 have hx0:(0:Int) ≤ (nmb s x:Int):=by omega
 have hx1:(nmb s x:Int) < (u.th.length:Int):=by omega
 have hyl:nmb s y < u.th.length:=(List.getElem?_eq_some_iff.1 hxy2).1
 have hy0:(0:Int) ≤ (nmb s y:Int):=by omega
 have hy1:(nmb s y:Int) < (u.th.length:Int):=by omega
 have hxk:xx.k=tx.k:=hkx.k
 have hyk:xy.k=ty.k:=hky.k
 have hyn:xy.ns.length=ty.ns.length:=by have:=hky.ns.length_eq; rwa [List.length_map] at this
 have dxy:((nmb s y:Int) == (nmb s x:Int))=false:=by
  have:nmb s y ≠ nmb s x:=fun e=>hxy (nmb_inj hw hy hx e)
  simp
  omega
 rw [hk1] at hxk
 rw [hk2y] at hyk
 have HXX:=hide (And.intro hxx hxk)
 have HYY:=hide (And.intro hxy2 (And.intro hyk hyn))
 have HX2:=hide hx2
 have dne:decide ((ty.ns.length:Int) > 0)=true:=by simpa using hne
 have dne2:(0:Int) < (ty.ns.length:Int):=by omega
 have dne3:0 < ty.ns.length:=hne
 clear h hw hl hT hs hok hok2 h16 h200 h16b h200b hl1 hl2 hp hq hg hab hpa hx2 hk2 ht2 hc2 hz2 hx hdp hm hnm hft hn hxy hy hk1 hk2y hxx hxy2 hkx hky hxk hyk hyn hne
 generalize ty.ns.length=yl at *
 have HO:Hid (∀ B v a c,OwnS B v a (ms2.length + 1) c (ms2 ++ [z2])→∃ b o,a=some ⟨b,o,none⟩∧v.cell? ⟨b,o + ms2.length,none⟩=some (.string (St z2))):=fun B v a c ho=>ho.last
 generalize St p=sp at *
 generalize St q=sq at *
 generalize St z2=sz2 at *
 generalize ms.length + 1=n1 at *
 generalize ms2.length + 1=n2 at *
 generalize ms2.length=l2 at *
 generalize ms ++ [z]=xs1 at *
 generalize ms2 ++ [z2]=ys2 at *
 go_enter Tryz.func28,Tryz.ntmps28
 go_wp2_with fail
 refine (unhide K1).mono ?_
 rintro e w1 ⟨a,c,rfl,ho,hb⟩
 have HB:=hide hb
 have HT:=hide (HT.out.below hb)
 have HA:=hide ho
 have K2:=hide (K2.out w1)
 clear K1 hb ho
 go_wp2_with fail
 refine (unhide K2).mono ?_
 rintro e w2 ⟨a2,c2,rfl,ho,hb⟩
 have HB:=hide (HB.out.trans (hb.mono HB.out.size))
 have HT:=hide (HT.out.below hb)
 have HA:=hide (HA.out.below hb (Nat.le_refl _))
 have HA2:Hid (∃ B,OwnS B w2 a2 n2 c2 ys2):=⟨_,ho⟩
 have KW:=hide (KW.out w2 a c HT.out HA.out.has)
 clear K2 hb ho
 go_wp2_with fail
 refine (unhide KW).mono ?_
 rintro e w3 ⟨rfl,rfl⟩
 clear KW HA
 have KA:=hide (KA.out w3)
 go_wp2_with fail
 refine (unhide KA).mono ?_
 rintro e w4 ⟨rfl,hb⟩
 have HB:=hide (HB.out.trans (hb.mono HB.out.size))
 have HT:=hide (HT.out.below hb)
 have HA2:Hid (∃ B,OwnS B w4 a2 n2 c2 ys2):=by
  obtain ⟨B,q⟩:=HA2.out
  exact ⟨B,q.below hb (Nat.le_refl _)⟩
 clear KA hb
 have KP:=hide (KP.out _ w4 a2 c2 HT.out HA2.out.choose_spec)
 go_wp2_with fail
 refine (unhide KP).mono ?_
 rintro e w5 ⟨rfl,rfl⟩
 clear KP
 obtain ⟨b0,o0,rfl,cz⟩:=HO.out _ _ _ _ HA2.out.choose_spec
 have KL:=hide (KL.out w5 HT.out)
 go_wp2_with fail
 refine (unhide KL).mono ?_
 rintro e w6 ⟨⟨k,rfl,hk⟩,rfl⟩
 clear KL cz
 have k0:(0:Int) ≤ (k:Int):=by omega
 have hkl:k < x2.ns.length:=(List.getElem?_eq_some_iff.1 hk).1
 have k1:(k:Int) < (x2.ns.length:Int):=by omega
 obtain ⟨rb,era,-,-,-,t2,-⟩:=HT.out.row.cell HX2.out
 have g1:=HT.out.cells.2.1
 rw [era] at g1
 obtain ⟨nb,ena,-,n0,-⟩:=(HT.out.nam _ x2 HX2.out).cell hk
 rw [ena] at t2
 have HK:=hide (And.intro hk (And.intro era ena))
 clear hk era ena
 have KF:=hide (KF.out w6 _ c2 HT.out HA2.out.choose_spec.has)
 go_wp2_with fail
 refine (unhide KF).mono ?_
 rintro e w7 ⟨rfl,hb⟩
 have HB:=hide (HB.out.trans (hb.mono HB.out.size))
 have HT:=hide (HT.out.below hb)
 clear KF hb
 clear g1 t2 n0
 obtain ⟨rb7,er7,-,x0,-,-,-⟩:=HT.out.row.cell HXX.out.1
 rw [HK.out.2.1] at er7
 cases er7
 obtain ⟨rb7,er7,-,y0,-,y2,-⟩:=HT.out.row.cell HYY.out.1
 rw [HK.out.2.1] at er7
 cases er7
 obtain ⟨rb7,er7,-,-,-,t2,-⟩:=HT.out.row.cell HX2.out
 rw [HK.out.2.1] at er7
 cases er7
 have g1:=HT.out.cells.2.1
 rw [HK.out.2.1] at g1
 obtain ⟨nb7,en7,-,n0,-⟩:=(HT.out.nam _ x2 HX2.out).cell HK.out.1
 rw [HK.out.2.2] at en7
 cases en7
 rw [HK.out.2.2] at t2
 rw [HXX.out.2] at x0
 rw [HYY.out.2.1] at y0
 rw [HYY.out.2.2] at y2
 go_wp2_with fail
 go_ret
 exact ⟨rfl,HB.out⟩

theorem rren_y17 {w:World} {S:Nat→Prop} {g r n:Nat} {s:Tr} {u:RTr} (h:Rel s u) (hw:Wf s r n) (hn:n ≤ 1700000000000) (hl:Low s) (hT:SM w S g u) {p q:List UInt8} {ms ms2:List (List UInt8)} {z z2:List UInt8} (hp:spl p=some (ms ++ [z])) (hq:spl q=some (ms2 ++ [z2])) {x y:Nat} (hg:goR u (ms ++ [z]) 1=(0,nmb s x)) (hab:abo (ms ++ [z]) (ms2 ++ [z2])=false) {d2:Nat} {t2:Th} {x2:RT} (ht2:s.T d2=some t2) (hpa:paR u ms2=(0,nmb s d2)) (hx2:u.th[nmb s d2]?=some x2) (hk2:Lk s t2 x2) (hc2:t2.ns.lookup z2=some y) {ty:Th} (hy:s.T y=some ty) (hxy:y ≠ x) {tx:Th} (hx:s.T x=some tx) {rk:Nat→Nat} (hdp:Deep s rk) {m:Nat} (hm:rk x < m) (hnm:∀ ys e,go s ys x=(0,some e)→∀ y ∈ ys,nmB y=true) (hft:fitsB s m q x=true) (hk1:tx.k=1) (hk2y:ty.k=1) (hne:ty.ns=[]) (hcn:s.cnt y=1) (hhd:s.held y=true) :
  Calls Tryz.prog 28 #[.pointer (some ⟨g,0,none⟩),.string (St p),.string (St q)] w fun e w'=>e=.returned (.int .i64 17)∧Below w.heap.size w w':=by
 have hs:=h.rs hw hn
 have hok:=(spl_some hp).1
 have hok2:=(spl_some hq).1
 obtain ⟨h16,h200⟩:=okN_short hok
 obtain ⟨h16b,h200b⟩:=okN_short hok2
 have hl1:(ms ++ [z]).length=ms.length + 1:=by simp
 have hl2:(ms2 ++ [z2]).length=ms2.length + 1:=by simp
 have hz200:z2.length ≤ 200:=h200b z2 (by simp)
 have hm16:ms.length ≤ 16:=by rw [hl1] at h16; omega
 have hm16b:ms2.length ≤ 16:=by rw [hl2] at h16b; omega
 have K1:=hide (rsplit_yes w hp)
 have K2:Hid (∀ v,Calls Tryz.prog 71 #[.string (St q)] v fun e w'=>∃ a c,e=.returned (.tuple #[.slice a (ms2 ++ [z2]).length c,.int .i64 0])∧OwnS v.heap.size w' a (ms2 ++ [z2]).length c (ms2 ++ [z2])∧Below v.heap.size v w'):=fun v=>rsplit_yes v hq
 have d0:(((ms.length + 1:Nat):Int) == 0)=false:=by simp; omega
 have d0b:(((ms2.length + 1:Nat):Int) == 0)=false:=by simp; omega
 have HT:=hide hT
 have hul:=hs.len
 rw [hl1] at K1
 rw [hl2] at K2
 have KW:Hid (∀ v a c,SM v S g u→HasS v a (ms.length + 1) (ms ++ [z])→Calls Tryz.prog 75 #[.pointer (some ⟨g,0,none⟩),.slice a (ms.length + 1) c] v fun e w'=>e=.returned (.tuple #[.int .i64 (nmb s x:Int),.int .i64 0])∧w'=v):=fun v a c hv hh=>by
  have:=rwalk_any (c:=c) hv hs hh h200 (by omega)
  rw [hg] at this
  exact this
 have KA:Hid (∀ v,Calls Tryz.prog 76 #[.string (St p),.string (St q)] v fun e w'=>e=.returned (.tuple #[.bool false,.int .i64 0])∧Below v.heap.size v w'):=fun v=>by
  have:=rabove_yes v hp hq
  rw [hab] at this
  exact this
 have KP:Hid (∀ B v a c,SM v S g u→OwnS B v a (ms2.length + 1) c (ms2 ++ [z2])→Calls Tryz.prog 77 #[.pointer (some ⟨g,0,none⟩),.slice a (ms2.length + 1) c] v fun e w'=>e=.returned (.tuple #[.int .i64 (nmb s d2:Int),.int .i64 0])∧w'=v):=fun B v a c hv ho=>by
  have:=rparent18_any hv hs ho.has ho.2.1 hok2
  rw [hpa] at this
  exact this
 have hw1:IntKind.i64.wrap (((ms2.length + 1:Nat):Int) - 1)=(ms2.length:Int):=by rw [IntKind.wrap_i64]; omega
 have e1:((ms2.length + 1:Nat):Int) - 1=(ms2.length:Int):=by omega
 have l0:(0:Int) ≤ (ms2.length:Int):=by omega
 have l1:(ms2.length:Int) < ((ms2.length + 1:Nat):Int):=by omega
 have hdl:nmb s d2 < u.th.length:=(List.getElem?_eq_some_iff.1 hx2).1
 have hd0:(0:Int) ≤ (nmb s d2:Int):=by omega
 have hd1:(nmb s d2:Int) < (u.th.length:Int):=by omega
 have hn2:=hs.few _ x2 hx2
 have hz2:x2.ns.lookup z2=some (nmb s y):=hk2.has hw ht2 hc2
 have KL:Hid (∀ v,SM v S g u→Calls Tryz.prog 78 #[.pointer (some ⟨g,0,none⟩),.int .i64 (nmb s d2:Int),.string (St z2)] v fun e w'=>(∃ k:Nat,e=.returned (.int .i64 (k:Int))∧x2.ns[k]?=some (z2,nmb s y))∧w'=v):=fun v hv=>by
  refine (rplace_any hv hx2 z2 (by omega) hn2 (by omega)).mono ?_
  rintro e w' ⟨⟨r,rfl,hr⟩,rfl⟩
  rcases plK_look hr (hs.ap _ x2 hx2) with ⟨_,q⟩ | ⟨k,c',rfl,q1,q2⟩
  ·rw [q] at hz2; cases hz2
  ·rw [hz2] at q2
   cases q2
   exact ⟨⟨k,rfl,q1⟩,rfl⟩
 have KF:Hid (∀ v a c,SM v S g u→HasS v a (ms2.length + 1) (ms2 ++ [z2])→Calls Tryz.prog 79 #[.pointer (some ⟨g,0,none⟩),.slice a (ms2.length + 1) c,.int .i64 (nmb s x:Int)] v fun e w'=>e=.returned (.bool true)∧Below v.heap.size v w'):=fun v a c hv hh=>by
  have:=rfits_rel (c:=c) h hw hn hdp m x (ms2 ++ [z2]) v a tx hx hm hv (by rw [hl2]; exact hh) (by rw [hl2]; omega) (((okN_iff _).1 hok2).2.1) hnm
  rw [hl2,show jn (ms2 ++ [z2])=q from (spl_some hq).2.1.symm,hft] at this
  exact this
 obtain ⟨xx,hxx,hkx⟩:=h.thing hw hx
 obtain ⟨xy,hxy2,hky⟩:=h.thing hw hy
 have hxl:nmb s x < u.th.length:=(List.getElem?_eq_some_iff.1 hxx).1
 have hx0:(0:Int) ≤ (nmb s x:Int):=by omega
 have hx1:(nmb s x:Int) < (u.th.length:Int):=by omega
 have hyl:nmb s y < u.th.length:=(List.getElem?_eq_some_iff.1 hxy2).1
 have hy0:(0:Int) ≤ (nmb s y:Int):=by omega
 have hy1:(nmb s y:Int) < (u.th.length:Int):=by omega
 have hxk:xx.k=tx.k:=hkx.k
 have hyk:xy.k=ty.k:=hky.k
 have hyn:xy.ns.length=ty.ns.length:=by have:=hky.ns.length_eq; rwa [List.length_map] at this
 have dxy:((nmb s y:Int) == (nmb s x:Int))=false:=by
  have:nmb s y ≠ nmb s x:=fun e=>hxy (nmb_inj hw hy hx e)
  simp
  omega
 rw [hk1] at hxk
 rw [hk2y] at hyk
 have HXX:=hide (And.intro hxx hxk)
 have HYY:=hide (And.intro hxy2 (And.intro hyk hyn))
 have HX2:=hide hx2
 have hlk:=h.links hw hy
 have hbz:=h.busy hw hl hy
 have hp0:=nmb_pos hw hl hy
 have KN:Hid (∀ v,SM v S g u→Calls Tryz.prog 73 #[.pointer (some ⟨g,0,none⟩),.int .i64 (nmb s y:Int)] v fun e w'=>e=.returned (.int .i64 (s.cnt y:Int))∧w'=v):=fun v hv=>by
  have:=rlinks_any hv hs (nmb s y) (by omega) (by rw [hlk]; have:=hw.cnt_le y; omega)
  rw [hlk] at this
  exact this
 have KZ:Hid (∀ v,SM v S g u→Calls Tryz.prog 80 #[.pointer (some ⟨g,0,none⟩),.int .i64 (nmb s y:Int)] v fun e w'=>e=.returned (.bool (s.held y))∧w'=v):=fun v hv=>by
  have:=rbusy_any hv (nmb s y) hp0
  rw [hbz] at this
  exact this
 rw [hcn] at KN
 rw [hhd] at KZ
 rw [hne] at HYY
 rw [show ([]:NS).length=0 from rfl] at HYY
 clear h hw hl hT hs hok hok2 h16 h200 h16b h200b hl1 hl2 hp hq hg hab hpa hx2 hk2 ht2 hc2 hz2 hx hdp hm hnm hft hn hxy hy hk1 hk2y hxx hxy2 hkx hky hxk hyk hyn hne hcn hhd hlk hbz hp0
 have HO:Hid (∀ B v a c,OwnS B v a (ms2.length + 1) c (ms2 ++ [z2])→∃ b o,a=some ⟨b,o,none⟩∧v.cell? ⟨b,o + ms2.length,none⟩=some (.string (St z2))):=fun B v a c ho=>ho.last
 generalize St p=sp at *
 generalize St q=sq at *
 generalize St z2=sz2 at *
 generalize ms.length + 1=n1 at *
 generalize ms2.length + 1=n2 at *
 generalize ms2.length=l2 at *
 generalize ms ++ [z]=xs1 at *
 generalize ms2 ++ [z2]=ys2 at *
 go_enter Tryz.func28,Tryz.ntmps28
 go_wp2_with fail
 refine (unhide K1).mono ?_
 rintro e w1 ⟨a,c,rfl,ho,hb⟩
 have HB:=hide hb
 have HT:=hide (HT.out.below hb)
 have HA:=hide ho
 have K2:=hide (K2.out w1)
 clear K1 hb ho
 go_wp2_with fail
 refine (unhide K2).mono ?_
 rintro e w2 ⟨a2,c2,rfl,ho,hb⟩
 have HB:=hide (HB.out.trans (hb.mono HB.out.size))
 have HT:=hide (HT.out.below hb)
 have HA:=hide (HA.out.below hb (Nat.le_refl _))
 have HA2:Hid (∃ B,OwnS B w2 a2 n2 c2 ys2):=⟨_,ho⟩
 have KW:=hide (KW.out w2 a c HT.out HA.out.has)
 clear K2 hb ho
 go_wp2_with fail
 refine (unhide KW).mono ?_
 rintro e w3 ⟨rfl,rfl⟩
 clear KW HA
 have KA:=hide (KA.out w3)
 go_wp2_with fail
 refine (unhide KA).mono ?_
 rintro e w4 ⟨rfl,hb⟩
 have HB:=hide (HB.out.trans (hb.mono HB.out.size))
 have HT:=hide (HT.out.below hb)
 have HA2:Hid (∃ B,OwnS B w4 a2 n2 c2 ys2):=by
  obtain ⟨B,q⟩:=HA2.out
  exact ⟨B,q.below hb (Nat.le_refl _)⟩
 clear KA hb
 have KP:=hide (KP.out _ w4 a2 c2 HT.out HA2.out.choose_spec)
 go_wp2_with fail
 refine (unhide KP).mono ?_
 rintro e w5 ⟨rfl,rfl⟩
 clear KP
 obtain ⟨b0,o0,rfl,cz⟩:=HO.out _ _ _ _ HA2.out.choose_spec
 have KL:=hide (KL.out w5 HT.out)
 go_wp2_with fail
 refine (unhide KL).mono ?_
 rintro e w6 ⟨⟨k,rfl,hk⟩,rfl⟩
 clear KL cz
 have k0:(0:Int) ≤ (k:Int):=by omega
 have hkl:k < x2.ns.length:=(List.getElem?_eq_some_iff.1 hk).1
 have k1:(k:Int) < (x2.ns.length:Int):=by omega
 obtain ⟨rb,era,-,-,-,t2,-⟩:=HT.out.row.cell HX2.out
 have g1:=HT.out.cells.2.1
 rw [era] at g1
 obtain ⟨nb,ena,-,n0,-⟩:=(HT.out.nam _ x2 HX2.out).cell hk
 rw [ena] at t2
 have HK:=hide (And.intro hk (And.intro era ena))
 clear hk era ena
 have KF:=hide (KF.out w6 _ c2 HT.out HA2.out.choose_spec.has)
 go_wp2_with fail
 refine (unhide KF).mono ?_
 rintro e w7 ⟨rfl,hb⟩
 have HB:=hide (HB.out.trans (hb.mono HB.out.size))
 have HT:=hide (HT.out.below hb)
 clear KF hb
 clear g1 t2 n0
 obtain ⟨rb7,er7,-,x0,-,-,-⟩:=HT.out.row.cell HXX.out.1
 rw [HK.out.2.1] at er7
 cases er7
 obtain ⟨rb7,er7,-,y0,-,y2,-⟩:=HT.out.row.cell HYY.out.1
 rw [HK.out.2.1] at er7
 cases er7
 obtain ⟨rb7,er7,-,-,-,t2,-⟩:=HT.out.row.cell HX2.out
 rw [HK.out.2.1] at er7
 cases er7
 have g1:=HT.out.cells.2.1
 rw [HK.out.2.1] at g1
 obtain ⟨nb7,en7,-,n0,-⟩:=(HT.out.nam _ x2 HX2.out).cell HK.out.1
 rw [HK.out.2.2] at en7
 cases en7
 rw [HK.out.2.2] at t2
 rw [HXX.out.2] at x0
 rw [HYY.out.2.1] at y0
 rw [HYY.out.2.2] at y2
 have KN:=hide (KN.out w7 HT.out)
 go_wp2_with fail
 refine (unhide KN).mono ?_
 rintro e w8 ⟨rfl,rfl⟩
 clear KN
 have KZ:=hide (KZ.out w8 HT.out)
 go_wp2_with fail
 refine (unhide KZ).mono ?_
 rintro e w9 ⟨rfl,rfl⟩
 clear KZ
 go_wp2_with fail
 go_ret
 exact ⟨rfl,HB.out⟩

end Go.Proofs.YtknmgefpjdfenaaGreat

