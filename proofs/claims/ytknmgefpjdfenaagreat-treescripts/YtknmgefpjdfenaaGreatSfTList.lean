/- List. -/
import Derived.Test.YtknmgefpjdfenaaGreatSfTKeys
import Derived.Test.YtknmgefpjdfenaaGreatSfJ26
import Derived.Test.YtknmgefpjdfenaaGreatSfCCell
import Derived.Deep.RegionHeld3
import Derived.Laws.AppendOwn
namespace Go.Proofs.YtknmgefpjdfenaaGreat
set_option maxRecDepth 100000
set_option maxHeartbeats 8000000
open Go.RowKit Go.Shelf Go.Maps
set_option linter.unusedVariables false

theorem infoE:(Tryz.prog.info? 107).map (fun i=>(i.zero,i.size,i.bytes))=some (some (.agg #[.string ⟨#[]⟩,.int .i64 0,.int .i64 0]),3,32):=by kernel_rfl

theorem undE:Tryz.prog.underlying 51=some (.slice 107):=by kernel_rfl

def ecs (s:Tr) (e:List UInt8 × Nat):Array Value:=match s.T e.2 with
 | some t=>#[.string (St e.1),.int .i64 t.k,.int .i64 (t.n:Int)]
 | none=>#[.string (St e.1),.int .i64 0,.int .i64 0]

theorem ecs_some {s:Tr} {x:List UInt8} {c:Nat} {t:Th} (h:s.T c=some t):ecs s (x,c)=#[.string (St x),.int .i64 t.k,.int .i64 (t.n:Int)]:=by
 unfold ecs; rw [h]

def EL (B:Nat) (w:World) (v:Value) (s:Tr) (es:NS):Prop:=w.ownsRow B 107 3 v es.length (es.flatMap (fun e=>(ecs s e).toList))

theorem EL.nil (B:Nat) (w:World) (s:Tr):EL B w (.slice none 0 0) s []:=World.ownsRow_nil _ _ _ _

theorem EL.shape {B:Nat} {w:World} {v:Value} {s:Tr} {es:NS} (h:EL B w v s es):∃ a n c,v=.slice a n c:=by
 rcases h.2 with ⟨rfl,_⟩ | ⟨g,cap,cur,rfl,_⟩
 ·exact ⟨_,_,_,rfl⟩
 ·exact ⟨_,_,_,rfl⟩

theorem EL.below {B n:Nat} {w w':World} {v:Value} {s:Tr} {es:NS} (h:EL B w v s es) (hb:Below n w w') (hn:w.heap.size ≤ n):EL B w' v s es :=
 ownsRow_block h (fun g cur _ hh=>hb.block g (by have:=(Array.getElem?_eq_some_iff.1 hh).1; omega))

theorem EL.app {B:Nat} {w:World} {v:Value} {s:Tr} {es:NS} (h:EL B w v s es) (hB:B ≤ w.heap.size) {x:List UInt8} {c:Nat} {t:Th} (ht:s.T c=some t) (hn:es.length ≤ 1800000000000) :
  ∃ (v':Value) (w':World),(∀ ty,(Builtin.append_ #[51,51] ty #[v,.slice (some ⟨w.heap.size,0,none⟩) 1 1]).run Tryz.prog (w.alloc (.cells #[.string (St x),.int .i64 t.k,.int .i64 (t.n:Int)] 107))=.ok v' w')∧EL B w' v' s (es ++ [(x,c)])∧Below B w w' ∧
   (∀ (k:Nat) cs t,w.heap[k]?=some (Obj.cells cs t (0,0))→t ≠ 107→w'.heap[k]?=w.heap[k]?):=by
 obtain ⟨i0,hi,hz0,hz1,hz2⟩:=info_parts infoE
 have hb0:Below w.heap.size w (w.alloc (.cells #[.string (St x),.int .i64 t.k,.int .i64 (t.n:Int)] 107)):=(Below.refl _ w).alloc (Nat.le_refl _) _
 have h1:=h.below hb0 (Nat.le_refl _)
 have hbl:=Bl.new w #[.string (St x),.int .i64 t.k,.int .i64 (t.n:Int)] 107
 obtain ⟨v',w',hr,ho2,hg,_⟩:=run_append_own (P:=Tryz.prog) (w.alloc (.cells #[.string (St x),.int .i64 t.k,.int .i64 (t.n:Int)] 107)) B 51 0 107 i0 _ 3 32 undE hi hz0 hz1 hz2 rfl (by decide) v es.length _ h1 ⟨w.heap.size,0,none⟩ 1 1 [.string (St x),.int .i64 t.k,.int .i64 (t.n:Int)] rfl
  (fun j u hj=>by rw [World.add_zero_spot,Nat.zero_add]; exact hbl.cell j u (by simpa using hj)) (by intro z hz; simp at hz; rcases hz with rfl | rfl | rfl <;> rfl) (by unfold maxLen; omega) (by omega) (Nat.le_trans hB hb0.size)
 refine ⟨v',w',fun ty=>hr,?_,?_,fun k cs ty hh ht'=>?_⟩
 ·have e:(es ++ [(x,c)]).flatMap (fun e=>(ecs s e).toList)=es.flatMap (fun e=>(ecs s e).toList) ++ [.string (St x),.int .i64 t.k,.int .i64 (t.n:Int)]:=by
   rw [List.flatMap_append,List.flatMap_cons,ecs_some ht]
   simp
  unfold EL
  rw [e,List.length_append]
  exact ho2
 ·refine (hb0.mono hB).grown hg (Nat.le_trans hB hb0.size) (fun k e=>?_)
  rcases h.2 with ⟨rfl,_⟩ | ⟨g,cap,cur,rfl,hgB,_⟩
  ·simp [Value.ownBlock] at e
  ·simp [Value.ownBlock] at e
   omega
 ·have hlt:=(Array.getElem?_eq_some_iff.1 hh).1
  refine (hg.block k (Nat.lt_of_lt_of_le hlt hb0.size) (fun e=>?_)).trans (hb0.block k hlt)
  rcases h.2 with ⟨rfl,_⟩ | ⟨g,cap,cur,rfl,_,hgc,_⟩
  ·simp [Value.ownBlock] at e
  ·simp [Value.ownBlock] at e
   subst e
   rw [hgc] at hh
   exact ht' (cells_ty hh).symm

theorem balL {n:Nat} {u v:World} (h:Below n u v) (hn:n ≤ u.heap.size) (o:Obj):Below n u (v.alloc o):=h.alloc (Nat.le_trans hn h.size) o

theorem bdrL {n:Nat} {u v:World} (h:Below n u v):Below n u v.drew:=⟨h.os,h.tape,h.output,h.size,h.block⟩

theorem step_append_li {w w':World} {ops:Array Oper} {o:Oper} {a:Act} {K':Act→World→Prop} {Q:Exit→Act→World→Prop} {E:Prop} (hw:Region.wanted o (yielded ops a.tmps)=true) (d s:Operand) (t:TypeId)
  (ho:o.op=.call { callee:=.builtin .append,args:=#[d,s],argTypes:=#[t,t] }) (v x v':Value) (hd:a.eval d=v) (hs:a.eval s=x)
  (hrun:∀ ty,(Builtin.append_ #[t,t] ty #[v,x]).run Tryz.prog w=.ok v' w')
  (h:K' (a.put o.dst v') w'):if Region.wanted o (yielded ops a.tmps)=true then Oper.wp Tryz.prog o a w K' Q else E:=by
 rw [if_pos hw]
 have hr:=hrun o.type
 unfold Oper.wp
 simp [execOp,ho,resolve,invoke,builtin,hd,hs,hr,Result.andThen]
 exact h

theorem list_ok {w : World} {S : Nat → Prop} {g r b : Nat} {s : Tr} {t : Th} (h : TM w S g s) (hk : Ok s r) {p : List UInt8} {ns : List (List UInt8)} (hp : spl p = some ns) (hg : go s ns r = (0, some b)) (ht : s.T b = some t) (h2 : t.k = 2) (hn : t.ns.length ≤ 1800000000000) (hx : ∀ e ∈ t.ns, e.1.length ≤ 200) :
    Calls Tryz.prog 17 #[.pointer (some ⟨g, 0, none⟩), .string (St p)] w fun e w' => ∃ v, e = .returned (.tuple #[v, .int .i64 0]) ∧ EL w.heap.size w' v s t.ns ∧ Below w.heap.size w w' := by
  have K := hide (refuses_one (p := p) h hk.row_ne (by have := spl_len hp; omega) (Below.refl _ _))
  rw [splE_of hp] at K
  have KF : Hid (∀ u, TM u S g s → Calls Tryz.prog 53 #[.pointer (some ⟨g, 0, none⟩), .string (St p)] u fun e w' => e = .returned (.tuple #[.pointer (some ⟨b, 0, none⟩), .int .i64 0]) ∧ Below u.heap.size u w') := fun u hu => by
    have := find_any hu hk hp
    rw [hg] at this
    exact this
  have KR : Hid (∀ u, TM u S g s → Calls Tryz.prog 61 #[.pointer (some ⟨b, 0, none⟩)] u fun e w' => ∃ a c, e = .returned (.slice a t.ns.length c) ∧ OwnS u.heap.size w' a t.ns.length c (t.ns.map (·.1)) ∧ Below u.heap.size u w') := fun u hu => rising_dir hu ht h2 hn
  have HT := hide h
  have HK := hide (And.intro hk (And.intro ht (And.intro h2 hx)))
  clear h hk hp hg ht h2 hx
  generalize St p = sp at *
  go_enter Tryz.func17, Tryz.ntmps17
  go_wp2_with fail
  refine (unhide K).mono ?_
  rintro e w1 ⟨rfl, hb⟩
  have HT := hide (HT.out.below hb)
  have HB := hide hb
  have KF := hide (KF.out w1 HT.out)
  clear K hb
  go_wp2_with fail
  refine (unhide KF).mono ?_
  rintro e w2 ⟨rfl, hb⟩
  have HT := hide (HT.out.below hb)
  have HB := hide (HB.out.trans (hb.mono HB.out.size))
  have t0 := (HT.out.thing_cells HK.out.2.1).1
  rw [HK.out.2.2.1] at t0
  have KR := hide (KR.out w2 HT.out)
  clear KF hb
  go_wp2_with fail
  refine (unhide KR).mono ?_
  rintro e w3 ⟨an, cn, rfl, ho, hb⟩
  have HT := hide (HT.out.below hb)
  have HI : Hid (EL w3.heap.size w3 (.slice none 0 0) s (t.ns.take 0) ∧ Below w3.heap.size w3 w3) := ⟨EL.nil _ _ _, Below.refl _ _⟩
  have HN := hide ho
  have HB3 := hide (HB.out.trans (hb.mono HB.out.size))
  clear KR ho hb t0 HB
  generalize hnl : t.ns.length = nl at *
  go_wp2_with fail
  go_loopw [37, 9] (fun iv lv wr => ∃ (k : Nat) (la : Option Addr) (ln lc : Nat), k ≤ nl ∧ iv = .int .i64 (k : Int) ∧ lv = .slice la ln lc ∧ Hid (EL w3.heap.size wr (.slice la ln lc) s (t.ns.take k) ∧ Below w3.heap.size w3 wr)) (fun iv _ _ => (nl : Int).toNat - (intOf iv).toNat)
  case atStart => exact ⟨0, none, 0, 0, Nat.zero_le _, rfl, rfl, HI⟩
  case round =>
    obtain ⟨k, la, ln, lc, hk, rfl, rfl, hJ⟩ := hrel
    clear HI
    by_cases hlt : k < nl
    · have HQ : Hid (∃ (an0 off mp c : Nat) (x : List UInt8) (t' : Th), an = some ⟨an0, off, none⟩ ∧ wr.cell? ⟨an0, off + k, none⟩ = some (.string (St x)) ∧ wr.cell? ⟨b, 4, none⟩ = some (.map (some mp)) ∧
          (Instr.lookup 67 (.map (some mp)) (.string (St x)) false).run Tryz.prog wr = .ok (.pointer (some ⟨c, 0, none⟩)) wr ∧ s.T c = some t' ∧ x.length ≤ 200 ∧ t.ns.take (k + 1) = t.ns.take k ++ [(x, c)] ∧
          (∀ v, Below w3.heap.size w3 v → Hid (Below w3.heap.size w3 v) ∧ v.cell? ⟨c, 0, none⟩ = some (.int .i64 t'.k) ∧ v.cell? ⟨c, 1, none⟩ = some (.int .i64 (t'.n : Int)))) := by
        obtain ⟨hk0, ht, h2, hx⟩ := HK.out
        have hTM := HT.out.below hJ.out.2
        have hkn : k < t.ns.length := by omega
        have hmem : t.ns[k] ∈ t.ns := List.getElem_mem hkn
        obtain ⟨an0, off, ean, hcl⟩ := (HN.out.below hJ.out.2 (Nat.le_refl _)).has.cell hlt
        have hname : (t.ns.map (·.1))[k]?.getD [] = t.ns[k].1 := by rw [List.getElem?_map, List.getElem?_eq_getElem hkn]; rfl
        rw [hname] at hcl
        have hM := hTM.map b t ht h2
        have hlk := look_mem hM.2 hmem
        have hlo := hM.look (hx _ hmem)
        rw [hlk] at hlo
        obtain ⟨t', ht'⟩ := hk0.live b t _ _ ht hlk
        refine ⟨an0, off, t.mp, t.ns[k].2, t.ns[k].1, t', ean, hcl, hTM.dir_map ht h2, hlo, ht', hx _ hmem, ?_, fun v hv => ?_⟩
        · rw [List.take_add_one, List.getElem?_eq_getElem hkn]; rfl
        · have hc := (HT.out.below hv).thing_cells ht'
          exact ⟨hv, hc.1, hc.2.1⟩
      obtain ⟨an0, off, mp, c, x, t', rfl, hcl, hmap, hlo, ht', hx, htk, hKB⟩ := HQ.out
      have KB := hide hKB
      have KC : Hid (∀ v, Calls Tryz.prog 62 #[.string (St x)] v fun e w' => e = .returned (.string (St x)) ∧ Below v.heap.size v w') := fun v => clone_any x v (by omega)
      have HA : Hid (∀ v, Below wr.heap.size wr v → ∃ (lv' : Value) (w' : World), (∀ ty, (Builtin.append_ #[51, 51] ty #[.slice la ln lc, .slice (some ⟨v.heap.size, 0, none⟩) 1 1]).run Tryz.prog (v.alloc (.cells #[.string (St x), .int .i64 t'.k, .int .i64 (t'.n : Int)] 107)) = .ok lv' w') ∧ EL w3.heap.size w' lv' s (t.ns.take (k + 1)) ∧ Below w3.heap.size w3 w') := fun v hv => by
        obtain ⟨lv', w', R, h1, h2, _⟩ := (hJ.out.1.below hv (Nat.le_refl _)).app (Nat.le_trans hJ.out.2.size hv.size) (x := x) ht' (by simp; omega)
        rw [← htk] at h1
        exact ⟨lv', w', R, h1, (hJ.out.2.trans (hv.mono hJ.out.2.size)).trans h2⟩
      have B00 : Hid (Below w3.heap.size w3 wr) := hJ.out.2
      have B0 : Hid (Below w3.heap.size w3 wr.drew) := bdrL hJ.out.2
      have J := hKB wr.drew (unhide B0)
      have hlt' : (k : Int) < (nl : Int) := by omega
      clear hKB HQ hJ HT HK htk hx ht'
      generalize St x = sx at *
      go_upto_region 14 with fail
      go_region_held3 (fun v => Hid (Below w3.heap.size w3 v) ∧ v.cell? ⟨c, 0, none⟩ = some (.int .i64 t'.k) ∧ v.cell? ⟨c, 1, none⟩ = some (.int .i64 (t'.n : Int)))
        (with_reducible (first | exact J | exact unhide KB _ (unhide B2) | exact unhide KB _ (unhide B1) | exact unhide KB _ (balL (unhide B1) (Nat.le_refl _) _)))
        (first
          | (go_at_call 62; refine (unhide KC _).mono ?_; rintro e w5 ⟨rfl, hb⟩
             have B1 := hide (show Below w3.heap.size w3 w5 from (unhide B0).trans (hb.mono (unhide B0).size))
             obtain ⟨lv', w6, R, hE, hb6⟩ := HA.out w5 ⟨hb.os, hb.tape, hb.output, hb.size, hb.block⟩
             have R := hide R
             have HE := hide hE
             have B2 := hide hb6
             clear hE hb6 hb)
          | (refine step_append_li (by rfl) _ _ _ (by rfl) _ _ _ (by rfl) (by rfl) (unhide R) ?_; clear R))
      all_goals
        obtain ⟨la', ln', lc', rfl⟩ := HE.out.shape
        have HJ : Hid (EL w3.heap.size w6 (.slice la' ln' lc') s (t.ns.take (k + 1)) ∧ Below w3.heap.size w3 w6) := ⟨HE.out, B2.out⟩
        clear J KB KC HA B0 B00 B1 B2 HE
        go_wp2_with fail
        go_roundw
        case rel => exact ⟨k + 1, la', ln', lc', by omega, by go_num, rfl, HJ⟩
        case measure => simp [intOf]; omega
    · obtain rfl : k = nl := by omega
      have HR : Hid (EL w.heap.size wr (.slice la ln lc) s t.ns ∧ Below w.heap.size w wr) := by
        obtain ⟨q1, q2⟩ := hJ.out
        rw [List.take_of_length_le (by omega)] at q1
        refine ⟨?_, HB3.out.trans (q2.mono HB3.out.size)⟩
        refine ⟨q1.1, q1.2.elim .inl (fun ⟨g0, cap, cur, e1, e2, e3⟩ => .inr ⟨g0, cap, cur, e1, Nat.le_trans HB3.out.size e2, e3⟩)⟩
      clear hJ HT HK HN
      go_wp2_with fail
      go_ret2
      exact ⟨_, rfl, HR.out⟩

end Go.Proofs.YtknmgefpjdfenaaGreat
