/- Joined: TFits, TRename. -/
import Derived.Test.YtknmgefpjdfenaaGreatTnJ46
/- each with the visitor of fits, fits; yields. -/
namespace Go.Proofs.YtknmgefpjdfenaaGreat
open Go.RowKit Go.Shelf Go.Maps
set_option linter.unusedVariables false
set_option maxRecDepth 100000

theorem fits1_any (p : List UInt8) (x : Value) (w : World) (hp : p.length ≤ 9223372036854775807) :
    Calls Tryz.prog 96 #[.string (St p), x] w fun e w' => e = .returned (.bool (spl p).isSome) ∧ Below w.heap.size w w' := by
  cases hs : spl p with
  | none =>
    have K := hide (split_no w hp hs)
    clear hs hp
    generalize St p = sp at *
    go_enter Tryz.func96, Tryz.ntmps96
    go_wp2_with fail
    refine (unhide K).mono ?_
    rintro e w1 ⟨⟨y, cy, rfl⟩, hb⟩
    have HB := hide hb
    clear K hb
    go_wp2_with fail
    go_ret
    exact ⟨rfl, HB.out⟩
  | some ns =>
    have K := hide (split_yes w hs)
    clear hs hp
    generalize St p = sp at *
    generalize ns.length = m at *
    go_enter Tryz.func96, Tryz.ntmps96
    go_wp2_with fail
    refine (unhide K).mono ?_
    rintro e w1 ⟨y, cy, rfl, _, hb⟩
    have HB := hide hb
    clear K hb
    go_wp2_with fail
    go_ret
    exact ⟨rfl, HB.out⟩

/-- Whether all that is below a thing, at a path, has a path. -/
def fitsB (s : Tr) (n : Nat) (p : List UInt8) (b : Nat) : Bool := (dumpL s n p b).all (fun e => (spl e.1).isSome)

theorem fitsB_some {s : Tr} {b : Nat} {t : Th} (h : s.T b = some t) (n : Nat) (p : List UInt8) : fitsB s (n + 1) p b = ((spl p).isSome && t.ns.all (fun e => fitsB s n (subP p e.1) e.2)) := by
  unfold fitsB
  rw [dumpL_some h, List.all_cons, List.all_flatMap]

set_option maxHeartbeats 8000000 in
theorem each_fits {S : Nat → Prop} {g : Nat} {s : Tr} {rk : Nat → Nat} (hdp : Deep s rk) (n : Nat) : ∀ (b : Nat) (p : List UInt8) (u : World) (t : Th), s.T b = some t → rk b < n → TM u S g s → p.length + 300 * n ≤ 1000000000 →
    Calls Tryz.prog 47 #[.pointer (some ⟨b, 0, none⟩), .string (St p), .func (.func 96) #[] #[]] u fun e w' => e = .returned (.bool (fitsB s n p b)) ∧ Below u.heap.size u w' := by
  induction n with
  | zero => intro b p u t _ h; omega
  | succ n IH =>
    intro b p u t ht hrk h hpl
    have hsm := hdp.small b t ht
    have hfb := fitsB_some ht n p
    have KV := hide (fits1_any p (.pointer (some ⟨b, 0, none⟩)) u (by omega))
    have KR : Hid (∀ w, Below u.heap.size u w → Calls Tryz.prog 61 #[.pointer (some ⟨b, 0, none⟩)] w fun e w' => ∃ a c, e = .returned (.slice a t.ns.length c) ∧ OwnS w.heap.size w' a t.ns.length c (t.ns.map (·.1)) ∧ Below w.heap.size w w') := fun w hw => by
      by_cases h2 : t.k = 2
      · exact rising_dir (h.below hw) ht h2 hsm.2.1
      · have h0 : t.ns = [] := hsm.2.2.resolve_left h2
        rw [h0]
        exact rising_file (h.below hw) ht h2
    have HT := hide (And.intro h (And.intro ht (And.intro hrk (And.intro hpl (And.intro hfb hdp)))))
    have IH := hide IH
    have hnn := hsm.2.1
    clear h ht hrk hpl hsm hdp hfb
    cases hv : (spl p).isSome with
    | false =>
      rw [hv] at KV
      have HF : Hid (fitsB s (n + 1) p b = false) := by
        have := HT.out.2.2.2.2.1
        rw [hv, Bool.false_and] at this
        exact this
      clear HT IH KR
      generalize hsp : St p = sp at *
      go_enter Tryz.func47, Tryz.ntmps47
      go_wp2_with fail
      refine (unhide KV).mono ?_
      rintro e w1 ⟨rfl, hb⟩
      have HB := hide hb
      clear KV hb
      go_wp2_with fail
      go_ret
      exact ⟨by rw [HF.out]; rfl, HB.out⟩
    | true =>
      rw [hv] at KV
      generalize hsp : St p = sp at *
      go_enter Tryz.func47, Tryz.ntmps47
      go_wp2_with fail
      refine (unhide KV).mono ?_
      rintro e w1 ⟨rfl, hb1⟩
      have HB1 := hide hb1
      have KR := hide (KR.out w1 hb1)
      clear KV hb1
      go_wp2_with fail
      refine (unhide KR).mono ?_
      rintro e w2 ⟨an, cn, rfl, ho, hb⟩
      have HI : Hid ((t.ns.take 0).all (fun e => fitsB s n (subP p e.1) e.2) = true ∧ Below u.heap.size u w2 ∧ OwnS w1.heap.size w2 an t.ns.length cn (t.ns.map (·.1))) := ⟨rfl, HB1.out.trans (hb.mono HB1.out.size), ho⟩
      clear KR ho hb
      generalize hnl : t.ns.length = nl at *
      go_wp2_with fail
      go_loopw [17] (fun iv wr => ∃ k : Nat, k ≤ nl ∧ iv = .int .i64 (k : Int) ∧ Hid ((t.ns.take k).all (fun e => fitsB s n (subP p e.1) e.2) = true ∧ Below u.heap.size u wr ∧ OwnS w1.heap.size wr an nl cn (t.ns.map (·.1)))) (fun iv _ => (nl : Int).toNat - (intOf iv).toNat)
      case atStart => exact ⟨0, Nat.zero_le _, rfl, HI⟩
      case round =>
        obtain ⟨k, hk, rfl, hJ⟩ := hrel
        clear HI
        by_cases hlt : k < nl
        · have HQ : Hid (∃ (an0 : Nat) (off : Nat) (mp c : Nat) (x : List UInt8) (q : Bool), an = some ⟨an0, off, none⟩ ∧ wr.cell? ⟨an0, off + k, none⟩ = some (.string (St x)) ∧
              (∀ w, Below u.heap.size u w → Hid (Below u.heap.size u w) ∧ w.cell? ⟨b, 4, none⟩ = some (.map (some mp)) ∧ (Instr.lookup 67 (.map (some mp)) (.string (St x)) false).run Tryz.prog w = .ok (.pointer (some ⟨c, 0, none⟩)) w) ∧
              (Calls Tryz.prog 47 #[.pointer (some ⟨c, 0, none⟩), .string (St (subP p x)), .func (.func 96) #[] #[]] wr.drew fun e w' => e = .returned (.bool q) ∧ Below wr.heap.size wr w') ∧
              x.length ≤ 200 ∧ p.length ≤ 1000000000 ∧ Below u.heap.size u wr ∧
              (q = false → fitsB s (n + 1) p b = false) ∧
              (q = true → ∀ w', Below wr.heap.size wr w' → ((t.ns.take (k + 1)).all (fun e => fitsB s n (subP p e.1) e.2) = true ∧ Below u.heap.size u w' ∧ OwnS w1.heap.size w' an nl cn (t.ns.map (·.1))))) := by
            obtain ⟨h, ht, hrk, hpl, hfb, hdp⟩ := HT.out
            obtain ⟨q1, q2, q3⟩ := hJ.out
            have hkn : k < t.ns.length := by omega
            have hmem : t.ns[k] ∈ t.ns := List.getElem_mem hkn
            obtain ⟨⟨t', ht'⟩, hx, hrc⟩ := hdp.live b t ht _ hmem
            have h2 : t.k = 2 := (hdp.small b t ht).2.2.resolve_right (fun e => by rw [e] at hkn; simp at hkn)
            obtain ⟨an0, off, ean, hcl⟩ := q3.has.cell hlt
            have hname : (t.ns.map (·.1))[k]?.getD [] = t.ns[k].1 := by rw [List.getElem?_map, List.getElem?_eq_getElem hkn]; rfl
            rw [hname] at hcl
            have hsl : (subP p t.ns[k].1).length ≤ p.length + 201 := by
              unfold subP
              have := trims_len p
              simp; omega
            refine ⟨an0, off, t.mp, t.ns[k].2, t.ns[k].1, fitsB s n (subP p t.ns[k].1) t.ns[k].2, ean, hcl, fun w hw => ?_, ?_, hx, by omega, q2, fun hq => ?_, fun hq w' hb => ?_⟩
            · have hM := h.below hw
              refine ⟨hw, hM.dir_map ht h2, ?_⟩
              have := (hM.map b t ht h2).look hx
              rw [look_mem (hM.map b t ht h2).2 hmem] at this
              exact this
            · refine (IH.out t.ns[k].2 (subP p t.ns[k].1) wr.drew t' ht' (by omega) (h.below (bd1 q2)) (by omega)).mono ?_
              rintro e w' ⟨rfl, hb⟩
              exact ⟨rfl, hb.os, hb.tape, hb.output, hb.size, hb.block⟩
            · rw [hfb, hv, Bool.true_and]
              rw [Bool.eq_false_iff]
              intro hall
              have := List.all_eq_true.1 hall _ hmem
              rw [hq] at this
              cases this
            · refine ⟨?_, q2.trans (hb.mono q2.size), q3.kept (fun g e => hb.block g (q3.lt e).1)⟩
              rw [List.take_add_one, List.getElem?_eq_getElem hkn, List.all_append, q1]
              simp [hq]
          obtain ⟨an0, off, mp, c, x, q, rfl, hcl, hKB, hKE, hx, hpl, hbu, hno, hfin⟩ := HQ.out
          have KB := hide hKB
          have KE := hide hKE
          have KT : Hid (∀ w, Calls Tryz.prog 92 #[.string sp, .string ⟨#[47]⟩] w fun e w' => e = .returned (.string (St (Lib.trimSuffix p [47]))) ∧ w' = w) := fun w => by rw [← hsp]; exact trims_any p w (by omega)
          have ha1 := St_app47 (Lib.trimSuffix p [47])
          have hz1 : ¬ 9223372036854775807 < (St (Lib.trimSuffix p [47])).size + 1 := by rw [St_size]; have := trims_len p; omega
          have ha2 : St (Lib.trimSuffix p [47] ++ [47]) ++ St x = St (subP p x) := St_app _ _
          have hz2 : ¬ 9223372036854775807 < (St (Lib.trimSuffix p [47] ++ [47])).size + (St x).size := by rw [St_size, St_size]; have := trims_len p; simp; omega
          have J := hKB wr.drew (bd1 hbu)
          have HF := hide (And.intro hno hfin)
          have hW : Hid (u.heap.size ≤ wr.heap.size ∧ Below u.heap.size u wr) := ⟨hbu.size, hbu⟩
          have hlt' : (k : Int) < (nl : Int) := by omega
          clear hKB hKE hfin hno hbu HQ hJ HT IH HB1
          generalize subP p x = pq at *
          generalize St (Lib.trimSuffix p [47]) = st at *
          generalize St (Lib.trimSuffix p [47] ++ [47]) = s1 at *
          generalize St pq = sq at *
          generalize St x = sx at *
          go_upto_region 6 with fail
          go_region_held3 (fun w => Hid (Below u.heap.size u w) ∧ w.cell? ⟨b, 4, none⟩ = some (.map (some mp)) ∧ (Instr.lookup 67 (.map (some mp)) (.string sx) false).run Tryz.prog w = .ok (.pointer (some ⟨c, 0, none⟩)) w)
            (with_reducible (first | exact J | exact unhide KB _ (unhide B1)))
            (first
              | (go_at_call 92; refine (unhide KT _).mono ?_; rintro e w' ⟨rfl, rfl⟩)
              | (go_at_call 47; refine (unhide KE).mono ?_; rintro e w3 ⟨rfl, hE⟩
                 have HG := hide hE
                 have B1 := hide ((unhide hW).2.trans (hE.mono (unhide hW).1))
                 clear hE))
          all_goals
            clear J KB KE KT B1
            cases q with
            | false =>
              have HN := hide (HF.out.1 rfl)
              clear HF
              go_wp2_with fail
              go_ret
              exact ⟨by rw [HN.out]; rfl, (unhide hW).2.trans (HG.out.mono (unhide hW).1)⟩
            | true =>
              have HN := hide (HF.out.2 rfl _ HG.out)
              clear HF
              go_wp2_with fail
              go_roundw
              case rel => exact ⟨k + 1, by omega, by go_num, HN⟩
              case measure => simp [intOf]; omega
        · obtain rfl : k = nl := by omega
          have HR : Hid (fitsB s (n + 1) p b = true ∧ Below u.heap.size u wr) := by
            obtain ⟨q1, q2, q3⟩ := hJ.out
            rw [List.take_of_length_le (by omega)] at q1
            exact ⟨by rw [HT.out.2.2.2.2.1, hv, q1]; rfl, q2⟩
          clear hJ HT IH HB1
          go_wp2_with fail
          go_ret
          exact ⟨by rw [HR.out.1]; rfl, HR.out.2⟩

theorem fits_any {w : World} {S : Nat → Prop} {g b n : Nat} {s : Tr} {rk : Nat → Nat} {t : Th} (h : TM w S g s) (hdp : Deep s rk) (ht : s.T b = some t) (hn : rk b < n) (hnn : n ≤ 1000000) (p : List UInt8) (hp : p.length ≤ 1000) :
    Calls Tryz.prog 58 #[.pointer (some ⟨b, 0, none⟩), .string (St p)] w fun e w' => e = .returned (.bool (fitsB s n p b)) ∧ Below w.heap.size w w' := by
  have K := hide (each_fits hdp n b p w t ht hn h (by omega))
  clear h hdp ht hn hnn hp
  generalize fitsB s n p b = q at *
  generalize St p = sp at *
  go_enter Tryz.func58, Tryz.ntmps58
  go_wp2_with fail
  refine (unhide K).mono ?_
  rintro e w1 ⟨rfl, hb⟩
  have HB := hide hb
  clear K hb
  go_wp2_with fail
  go_ret
  exact ⟨rfl, HB.out⟩

/-- Why a thing may not give way to one of that kind. -/
def yE (s : Tr) (y : Nat) (t : Th) (k : Int) : Int :=
  if t.k = 1 ∧ k = 2 then 13 else if t.k = 2 ∧ k = 1 then 14 else if 0 < t.ns.length then 15 else if s.keeps y t = true then 17 else 0

theorem ns_lenv {w : World} {S : Nat → Prop} {g x : Nat} {s : Tr} {t : Th} (h : TM w S g s) (hx : s.T x = some t) (hs : Small t) (ty : TypeId) :
    (Builtin.len_ #[67] ty #[if t.k = 2 then .map (some t.mp) else .map none]).run Tryz.prog w = .ok (.int .i64 (t.ns.length : Int)) w := by
  by_cases h2 : t.k = 2
  · rw [if_pos h2]
    exact (h.map x t hx h2).len ty
  · rw [if_neg h2]
    have : t.ns = [] := hs.2.2.resolve_left h2
    rw [this]
    exact Maps.len_nil undM ty

set_option maxHeartbeats 2000000 in
theorem yields_any {w : World} {S : Nat → Prop} {g y : Nat} {s : Tr} {t : Th} {k : Int} (h : TM w S g s) (hy : s.T y = some t) (hs : Small t) (ho : ∀ f b, s.opn f = some b → ∃ t, s.T b = some t) (hk : t.k = 1 ∨ t.k = 2) (hk2 : k = 1 ∨ k = 2) :
    Calls Tryz.prog 59 #[.pointer (some ⟨g, 0, none⟩), .pointer (some ⟨y, 0, none⟩), .int .i64 k] w fun e w' => e = .returned (.int .i64 (yE s y t k)) ∧ w' = w := by
  have K := hide (holds_any h hy ho)
  obtain ⟨c0, _, _, _, c4, _⟩ := h.thing_cells hy
  have hl := ns_lenv h hy hs 3
  have HV : Hid (yE s y t k = if t.k = 1 ∧ k = 2 then 13 else if t.k = 2 ∧ k = 1 then 14 else if 0 < t.ns.length then 15 else if s.keeps y t = true then 17 else 0) := rfl
  have hmx := hs.2.1
  clear h hy hs ho
  generalize (if t.k = 2 then Value.map (some t.mp) else Value.map none) = mv at *
  generalize t.ns.length = nl at *
  generalize t.k = tk at *
  generalize s.keeps y t = kp at *
  by_cases hn : 0 < nl
  · have e1 : (if 0 < nl then (15 : Int) else if kp = true then 17 else 0) = 15 := if_pos hn
    rw [e1] at HV
    clear e1
    have d3 : decide ((nl : Int) > 0) = true := by simp; omega
    rcases hk with rfl | rfl <;> rcases hk2 with rfl | rfl
    all_goals
      clear K
      go_enter Tryz.func59, Tryz.ntmps59
      go_wp2_with fail
      go_ret
      exact ⟨by rw [HV.out]; rfl, rfl⟩
  · obtain rfl : nl = 0 := by omega
    cases kp
    all_goals
      rcases hk with rfl | rfl <;> rcases hk2 with rfl | rfl
      all_goals
        go_enter Tryz.func59, Tryz.ntmps59
        go_wp2_with fail
        first
          | (go_ret; exact ⟨by rw [HV.out]; rfl, rfl⟩)
          | (refine (unhide K).mono ?_
             rintro e w1 ⟨rfl, rfl⟩
             clear K
             go_wp2_with fail
             go_ret
             exact ⟨by rw [HV.out]; rfl, rfl⟩)

end Go.Proofs.YtknmgefpjdfenaaGreat

/- Rename: all ways. -/
namespace Go.Proofs.YtknmgefpjdfenaaGreat
open Go.RowKit Go.Shelf Go.Maps
set_option linter.unusedVariables false
set_option maxRecDepth 100000

/-- A directory's names turn. -/
def Tr.edit (s : Tr) (d : Nat) (f : NS → NS) : Tr := match s.T d with
  | none => s
  | some t => s.upd d { t with ns := f t.ns }

theorem edit_some {s : Tr} {d : Nat} {t : Th} (h : s.T d = some t) (f : NS → NS) : s.edit d f = s.upd d { t with ns := f t.ns } := by unfold Tr.edit; rw [h]

/-- x goes from one place to another. -/
def Tr.moved (s : Tr) (d : Nat) (z : List UInt8) (d2 : Nat) (z2 : List UInt8) (x : Nat) : Tr := (s.edit d (delN z)).edit d2 (putN z2 x)

theorem C2.drewN {u : World} {m : Nat} {x y : Value} (h : C2 u m x y) (q : Nat) : C2 (u.drewN q) m x y := h

theorem C2.kp {S : Nat → Prop} {u u' : World} {m : Nat} {x y : Value} (h : C2 u m x y) (hk : Kp S u u') (hm : ¬ S m) : C2 u' m x y := (hk.block m h.lt hm).trans h


theorem TM.edits {v : World} {S' : Nat → Prop} {g d d2 : Nat} {s1 : Tr} {t1 t3 : Th} {z z2 : List UInt8} (x : Nat) (h : TM v S' g s1) (h1 : s1.T d = some t1) (k1 : t1.k = 2) (hz : z.length ≤ 200) (hz2 : z2.length ≤ 200)
    (h3 : (s1.edit d (delN z)).T d2 = some t3) (k3 : t3.k = 2) (hl : t3.ns.length < 1000000000) :
    ∃ u1 u2 mp1 mp2, v.cell? ⟨d, 4, none⟩ = some (.map (some mp1)) ∧ (∀ ty, (Builtin.delete_ #[67, 9] ty #[.map (some mp1), .string (St z)]).run Tryz.prog v.drew = .ok (.tuple #[]) u1) ∧
      u1.cell? ⟨d2, 4, none⟩ = some (.map (some mp2)) ∧ (Instr.mapUpdate 67 (.map (some mp2)) (.string (St z2)) (.pointer (some ⟨x, 0, none⟩))).run Tryz.prog u1.drew = .ok () u2 ∧
      TM u2 S' g (s1.moved d z d2 z2 x) ∧ u2.heap.size = v.heap.size ∧ (∀ (S0 : Nat → Prop) (w0 : World), (∀ k, S' k → S0 k ∨ w0.heap.size ≤ k) → Kp S0 w0 v → Kp S0 w0 u2) ∧ (∀ m a b, C2 v m a b → C2 u1 m a b) := by
  obtain ⟨u1, r1, m1, g1, z1⟩ := (h.drew.map d t1 h1 k1).del hz
  have q1 := h.drew.setM h1 k1 m1 g1 z1
  have e1 : s1.upd d { t1 with ns := delN z t1.ns } = s1.edit d (delN z) := (edit_some h1 _).symm
  rw [e1] at q1
  obtain ⟨u2, r2, m2, g2, z2'⟩ := (q1.drew.map d2 t3 h3 k3).put hz2 x hl
  have q2 := q1.drew.setM h3 k3 m2 g2 z2'
  have e2 : (s1.edit d (delN z)).upd d2 { t3 with ns := putN z2 x t3.ns } = s1.moved d z d2 z2 x := (edit_some h3 _).symm
  rw [e2] at q2
  refine ⟨u1, u2, t1.mp, t3.mp, h.dir_map h1 k1, r1, q1.dir_map h3 k3, r2, q2, ?_, fun S0 w0 hS hk => ?_, fun m a b hc => ?_⟩
  · rw [z2']
    show u1.heap.size = _
    rw [z1]
    rfl
  · have a1 := (hk.drew).grown g1 (hS _ (h.sm d t1 h1 k1))
    exact (a1.drew).grown g2 (hS _ (q1.sm d2 t3 h3 k3))
  · exact (g1.block m (show m < v.drew.heap.size from hc.lt) (fun e => by
      cases e
      exact (h.map d t1 h1 k1).ne hc rfl)).trans hc


set_option maxHeartbeats 1000000 in
theorem ren_bad {w : World} {S : Nat → Prop} {g r n : Nat} {s : Tr} (h : TM w S g s) (hw : Wf s r n) (hn : n ≤ 900000) {p q : List UInt8} (hpl : p.length ≤ 9223372036854775807) (hql : q.length ≤ 9223372036854775807) (he : refE [p, q] = 16) :
    Calls Tryz.prog 16 #[.pointer (some ⟨g, 0, none⟩), .string (St p), .string (St q)] w fun e w' => e = .returned (.int .i64 16) ∧ Below w.heap.size w w' := by
  have K := refuses_two h hw.ok.row_ne hpl hql
  rw [he] at K
  have K := hide K
  clear h hw he hpl hql
  generalize St p = sp at *
  generalize St q = sq at *
  go_enter Tryz.func16, Tryz.ntmps16
  go_wp2_with fail
  refine (unhide K).mono ?_
  rintro e w1 ⟨rfl, hb⟩
  have HB := hide hb
  clear K hb
  go_wp2_with fail
  go_ret
  exact ⟨rfl, HB.out⟩

set_option maxHeartbeats 1000000 in
theorem ren_root {w : World} {S : Nat → Prop} {g r n : Nat} {s : Tr} (h : TM w S g s) (hw : Wf s r n) (hn : n ≤ 900000) {p q : List UInt8} {ps qs : List (List UInt8)} (hp : spl p = some ps) (hq : spl q = some qs) (hr : ps = [] ∨ qs = []) :
    Calls Tryz.prog 16 #[.pointer (some ⟨g, 0, none⟩), .string (St p), .string (St q)] w fun e w' => e = .returned (.int .i64 17) ∧ Below w.heap.size w w' := by
  have K := refuses_two h hw.ok.row_ne (p := p) (q := q) (by have := spl_len hp; omega) (by have := spl_len hq; omega)
  rw [show refE [p, q] = 0 by unfold refE; simp [hp, hq]] at K
  have K := hide K
  have HT := hide h
  have HT0 := hide h
  have hSw := h.lt
  have hc : ((St p).toList == [47]) = true ∨ (((St p).toList == [47]) = false ∧ ((St q).toList == [47]) = true) := by
    rw [St_toList, St_toList]
    by_cases h0 : p = [47]
    · exact .inl (by rw [h0]; rfl)
    · right
      refine ⟨by simpa using h0, ?_⟩
      rcases hr with rfl | rfl
      · exact absurd (spl_some hp).2.1 h0
      · rw [(spl_some hq).2.1]; rfl
  clear h hw hp hq
  generalize St p = sp at *
  generalize St q = sq at *
  clear hr HT0 HT
  rcases hc with d0 | ⟨d0, d1⟩
  all_goals
    go_enter Tryz.func16, Tryz.ntmps16
    go_wp2_with fail
    refine (unhide K).mono ?_
    rintro e w1 ⟨rfl, hb⟩
    have HB := hide hb
    clear K hb
    go_wp2_with fail
    go_ret
    exact ⟨rfl, HB.out⟩

set_option maxHeartbeats 1000000 in
theorem ren_tak {w : World} {S : Nat → Prop} {g r n : Nat} {s : Tr} (h : TM w S g s) (hw : Wf s r n) (hn : n ≤ 900000) {p q : List UInt8} {z z2 : List UInt8} {ms ms2 : List (List UInt8)} (hp : spl p = some (ms ++ [z])) (hq : spl q = some (ms2 ++ [z2])) {E : Int} (hE : E ≠ 0) (ht : tkA s ms z r = .tuple #[.agg #[.pointer none, .string ⟨#[]⟩], .pointer none, .int .i64 E]) :
    Calls Tryz.prog 16 #[.pointer (some ⟨g, 0, none⟩), .string (St p), .string (St q)] w fun e w' => e = .returned (.int .i64 E) ∧ Below w.heap.size w w' := by
  have K := refuses_two h hw.ok.row_ne (p := p) (q := q) (by have := spl_len hp; omega) (by have := spl_len hq; omega)
  rw [show refE [p, q] = 0 by unfold refE; simp [hp, hq]] at K
  have K := hide K
  have HT := hide h
  have HT0 := hide h
  have hSw := h.lt
  have dne := not_root hp
  have dne2 := not_root hq
  have KT : Hid (∀ u, TM u S g s → Calls Tryz.prog 54 #[.pointer (some ⟨g, 0, none⟩), .string (St p)] u fun e w' => e = .returned (.tuple #[.agg #[.pointer none, .string ⟨#[]⟩], .pointer none, .int .i64 E]) ∧ Below u.heap.size u w') := fun u hu => by
    have := taken_any hu hw.ok hp
    rw [ht] at this
    exact this
  have d1 : (E != 0) = true := by simpa using hE
  clear h hw hp hq
  generalize St p = sp at *
  generalize St q = sq at *
  clear ht
  go_enter Tryz.func16, Tryz.ntmps16
  go_wp2_with fail
  refine (unhide K).mono ?_
  rintro e w1 ⟨rfl, hb⟩
  have HT := hide (HT.out.below hb)
  have HB := hide hb
  clear K hb
  have KT := hide (KT.out w1 HT.out)
  go_wp2_with fail
  refine (unhide KT).mono ?_
  rintro e w2 ⟨rfl, hb⟩
  have HB := hide ((HB.out.trans (hb.mono HB.out.size)).alloc (HB.out.trans (hb.mono HB.out.size)).size (.cells #[.pointer none, .string ⟨#[]⟩] 92))
  clear KT hb
  go_wp2_with fail
  go_ret
  exact ⟨rfl, HB.out⟩

set_option maxHeartbeats 1000000 in
theorem ren_abo {w : World} {S : Nat → Prop} {g r n : Nat} {s : Tr} (h : TM w S g s) (hw : Wf s r n) (hn : n ≤ 900000) {p q : List UInt8} {z z2 : List UInt8} {ms ms2 : List (List UInt8)} (hp : spl p = some (ms ++ [z])) (hq : spl q = some (ms2 ++ [z2])) {d x : Nat} {t : Th} (e1 : plc s ms r = (0, some d)) (ht : s.T d = some t) (h2 : t.k = 2) (hc : t.ns.lookup z = some x) (hab : abo (ms ++ [z]) (ms2 ++ [z2]) = true) (hpq : p ≠ q) :
    Calls Tryz.prog 16 #[.pointer (some ⟨g, 0, none⟩), .string (St p), .string (St q)] w fun e w' => e = .returned (.int .i64 1) ∧ Below w.heap.size w w' := by
  have K := refuses_two h hw.ok.row_ne (p := p) (q := q) (by have := spl_len hp; omega) (by have := spl_len hq; omega)
  rw [show refE [p, q] = 0 by unfold refE; simp [hp, hq]] at K
  have K := hide K
  have HT := hide h
  have HT0 := hide h
  have hSw := h.lt
  have dne := not_root hp
  have dne2 := not_root hq
  have KT : Hid (∀ u, TM u S g s → Calls Tryz.prog 54 #[.pointer (some ⟨g, 0, none⟩), .string (St p)] u fun e w' => e = .returned (.tuple #[.agg #[.pointer (some ⟨d, 0, none⟩), .string (St z)], .pointer (some ⟨x, 0, none⟩), .int .i64 0]) ∧ Below u.heap.size u w') := fun u hu => by
    have := taken_any hu hw.ok hp
    rw [tkA_some e1 ht hc] at this
    exact this
  have KA : Hid (∀ u, Calls Tryz.prog 55 #[.string (St p), .string (St q)] u fun e w' => e = .returned (.tuple #[.bool true, .int .i64 0]) ∧ Below u.heap.size u w') := fun u => by
    have := above_yes u hp hq
    rw [hab] at this
    exact this
  have d1 : ((St p).toList == (St q).toList) = false := by rw [St_toList, St_toList]; simpa using hpq
  clear h hw hp hq
  generalize St p = sp at *
  generalize St q = sq at *
  clear ht h2 hc e1 hab hpq
  generalize St z = sz at *
  go_enter Tryz.func16, Tryz.ntmps16
  go_wp2_with fail
  refine (unhide K).mono ?_
  rintro e w1 ⟨rfl, hb⟩
  have HT := hide (HT.out.below hb)
  have HB := hide hb
  clear K hb
  have KT := hide (KT.out w1 HT.out)
  go_wp2_with fail
  refine (unhide KT).mono ?_
  rintro e w2 ⟨rfl, hb⟩
  have hb2 : Below w1.heap.size w1 (w2.alloc (.cells #[.pointer (some ⟨d, 0, none⟩), .string sz] 92)) := hb.alloc hb.size _
  have HT := hide (HT.out.below hb2)
  have HC := hide (C2.new w2 (.pointer (some ⟨d, 0, none⟩)) (.string sz))
  have hm8 : w.heap.size ≤ w2.heap.size := Nat.le_trans HB.out.size hb.size
  have HB := hide (HB.out.trans (hb2.mono HB.out.size))
  have KA := hide (KA.out (w2.alloc (.cells #[.pointer (some ⟨d, 0, none⟩), .string sz] 92)))
  clear KT hb hb2
  go_wp2_with fail
  generalize w2.alloc (.cells #[.pointer (some ⟨d, 0, none⟩), .string sz] 92) = w3 at *
  generalize w2.heap.size = m8 at *
  refine (unhide KA).mono ?_
  rintro e w4 ⟨rfl, hb⟩
  have HT := hide (HT.out.below hb)
  have HC := hide (HC.out.below hb HC.out.lt)
  have HB := hide (HB.out.trans (hb.mono HB.out.size))
  clear KA hb
  go_wp2_with fail
  go_ret
  exact ⟨rfl, HB.out⟩

set_option maxHeartbeats 1000000 in
theorem ren_plc {w : World} {S : Nat → Prop} {g r n : Nat} {s : Tr} (h : TM w S g s) (hw : Wf s r n) (hn : n ≤ 900000) {p q : List UInt8} {z z2 : List UInt8} {ms ms2 : List (List UInt8)} (hp : spl p = some (ms ++ [z])) (hq : spl q = some (ms2 ++ [z2])) {d x : Nat} {t : Th} (e1 : plc s ms r = (0, some d)) (ht : s.T d = some t) (h2 : t.k = 2) (hc : t.ns.lookup z = some x) (hab : abo (ms ++ [z]) (ms2 ++ [z2]) = false) (hE : (plc s ms2 r).2 = none ∧ (plc s ms2 r).1 ≠ 0) :
    Calls Tryz.prog 16 #[.pointer (some ⟨g, 0, none⟩), .string (St p), .string (St q)] w fun e w' => e = .returned (.int .i64 (plc s ms2 r).1) ∧ Below w.heap.size w w' := by
  have K := refuses_two h hw.ok.row_ne (p := p) (q := q) (by have := spl_len hp; omega) (by have := spl_len hq; omega)
  rw [show refE [p, q] = 0 by unfold refE; simp [hp, hq]] at K
  have K := hide K
  have HT := hide h
  have HT0 := hide h
  have hSw := h.lt
  have dne := not_root hp
  have dne2 := not_root hq
  have KT : Hid (∀ u, TM u S g s → Calls Tryz.prog 54 #[.pointer (some ⟨g, 0, none⟩), .string (St p)] u fun e w' => e = .returned (.tuple #[.agg #[.pointer (some ⟨d, 0, none⟩), .string (St z)], .pointer (some ⟨x, 0, none⟩), .int .i64 0]) ∧ Below u.heap.size u w') := fun u hu => by
    have := taken_any hu hw.ok hp
    rw [tkA_some e1 ht hc] at this
    exact this
  have KA : Hid (∀ u, Calls Tryz.prog 55 #[.string (St p), .string (St q)] u fun e w' => e = .returned (.tuple #[.bool false, .int .i64 0]) ∧ Below u.heap.size u w') := fun u => by
    have := above_yes u hp hq
    rw [hab] at this
    exact this
  have KP : Hid (∀ u, TM u S g s → Calls Tryz.prog 56 #[.pointer (some ⟨g, 0, none⟩), .string (St q)] u fun e w' => e = .returned (.tuple #[.agg #[.pointer none, .string ⟨#[]⟩], .int .i64 (plc s ms2 r).1]) ∧ Below u.heap.size u w') := fun u hu => by
    have := place_any hu hw.ok hq
    rw [plA_none z2 hE.1] at this
    exact this
  have d1 : ((plc s ms2 r).1 != 0) = true := by simpa using hE.2
  clear h hw hp hq
  generalize St p = sp at *
  generalize St q = sq at *
  clear ht h2 hc e1 hab hE
  generalize (plc s ms2 r).1 = E at *
  generalize St z = sz at *
  go_enter Tryz.func16, Tryz.ntmps16
  go_wp2_with fail
  refine (unhide K).mono ?_
  rintro e w1 ⟨rfl, hb⟩
  have HT := hide (HT.out.below hb)
  have HB := hide hb
  clear K hb
  have KT := hide (KT.out w1 HT.out)
  go_wp2_with fail
  refine (unhide KT).mono ?_
  rintro e w2 ⟨rfl, hb⟩
  have hb2 : Below w1.heap.size w1 (w2.alloc (.cells #[.pointer (some ⟨d, 0, none⟩), .string sz] 92)) := hb.alloc hb.size _
  have HT := hide (HT.out.below hb2)
  have HC := hide (C2.new w2 (.pointer (some ⟨d, 0, none⟩)) (.string sz))
  have hm8 : w.heap.size ≤ w2.heap.size := Nat.le_trans HB.out.size hb.size
  have HB := hide (HB.out.trans (hb2.mono HB.out.size))
  have KA := hide (KA.out (w2.alloc (.cells #[.pointer (some ⟨d, 0, none⟩), .string sz] 92)))
  clear KT hb hb2
  go_wp2_with fail
  generalize w2.alloc (.cells #[.pointer (some ⟨d, 0, none⟩), .string sz] 92) = w3 at *
  generalize w2.heap.size = m8 at *
  refine (unhide KA).mono ?_
  rintro e w4 ⟨rfl, hb⟩
  have HT := hide (HT.out.below hb)
  have HC := hide (HC.out.below hb HC.out.lt)
  have HB := hide (HB.out.trans (hb.mono HB.out.size))
  clear KA hb
  have KP := hide (KP.out w4 HT.out)
  go_wp2_with fail
  refine (unhide KP).mono ?_
  rintro e w5 ⟨rfl, hb⟩
  have HB := hide ((HB.out.trans (hb.mono HB.out.size)).alloc (HB.out.trans (hb.mono HB.out.size)).size (.cells #[.pointer none, .string ⟨#[]⟩] 92))
  clear KP hb
  go_wp2_with fail
  go_ret
  exact ⟨rfl, HB.out⟩

set_option maxHeartbeats 2000000 in
theorem ren_same {w : World} {S : Nat → Prop} {g r n : Nat} {s : Tr} (h : TM w S g s) (hw : Wf s r n) (hn : n ≤ 900000) {p q : List UInt8} {z z2 : List UInt8} {ms ms2 : List (List UInt8)} (hp : spl p = some (ms ++ [z])) (hq : spl q = some (ms2 ++ [z2])) {d x : Nat} {t : Th} (e1 : plc s ms r = (0, some d)) (ht : s.T d = some t) (h2 : t.k = 2) (hc : t.ns.lookup z = some x) {d2 : Nat} {t2 : Th} (e2 : plc s ms2 r = (0, some d2)) (ht2 : s.T d2 = some t2) (h22 : t2.k = 2) {b : Bool} (hab : abo (ms ++ [z]) (ms2 ++ [z2]) = b) (hb : b = false ∨ p = q) (hc2 : t2.ns.lookup z2 = some x) (hx : ∃ tx, s.T x = some tx) :
    Calls Tryz.prog 16 #[.pointer (some ⟨g, 0, none⟩), .string (St p), .string (St q)] w fun e w' => e = .returned (.int .i64 0) ∧ Below w.heap.size w w' := by
  have K := refuses_two h hw.ok.row_ne (p := p) (q := q) (by have := spl_len hp; omega) (by have := spl_len hq; omega)
  rw [show refE [p, q] = 0 by unfold refE; simp [hp, hq]] at K
  have K := hide K
  have HT := hide h
  have HT0 := hide h
  have hSw := h.lt
  have dne := not_root hp
  have dne2 := not_root hq
  have KT : Hid (∀ u, TM u S g s → Calls Tryz.prog 54 #[.pointer (some ⟨g, 0, none⟩), .string (St p)] u fun e w' => e = .returned (.tuple #[.agg #[.pointer (some ⟨d, 0, none⟩), .string (St z)], .pointer (some ⟨x, 0, none⟩), .int .i64 0]) ∧ Below u.heap.size u w') := fun u hu => by
    have := taken_any hu hw.ok hp
    rw [tkA_some e1 ht hc] at this
    exact this
  have KA : Hid (∀ u, Calls Tryz.prog 55 #[.string (St p), .string (St q)] u fun e w' => e = .returned (.tuple #[.bool b, .int .i64 0]) ∧ Below u.heap.size u w') := fun u => by
    have := above_yes u hp hq
    rw [hab] at this
    exact this
  have KP : Hid (∀ u, TM u S g s → Calls Tryz.prog 56 #[.pointer (some ⟨g, 0, none⟩), .string (St q)] u fun e w' => e = .returned (.tuple #[.agg #[.pointer (some ⟨d2, 0, none⟩), .string (St z2)], .int .i64 0]) ∧ Below u.heap.size u w') := fun u hu => by
    have := place_any hu hw.ok hq
    rw [plA_some z2 e2] at this
    exact this
  have KN : Hid (∀ u, TM u S g s → Calls Tryz.prog 57 #[.agg #[.pointer (some ⟨d2, 0, none⟩), .string (St z2)]] u fun e w' => e = .returned (.pointer (some ⟨x, 0, none⟩)) ∧ Below u.heap.size u w') := fun u hu => by
    have := named_any hu ht2 h22 (name_len hq)
    rw [hc2] at this
    exact this
  have KQ : Hid (∀ u, TM u S g s → (binOp .eql 63 (.pointer (some ⟨x, 0, none⟩)) (.pointer (some ⟨x, 0, none⟩))).run Tryz.prog u = .ok (.bool true) u) := fun u hu => by
    obtain ⟨tx, hx⟩ := hx
    have := ptr_eq hu hx hx (v := u) rfl
    rwa [decide_eq_true rfl] at this
  have hb' : b = false ∨ (b = true ∧ ((St p).toList == (St q).toList) = true) := by
    rw [St_toList, St_toList]
    cases b
    · exact .inl rfl
    · exact .inr ⟨rfl, by rcases hb with q | q; cases q; rw [q]; simp⟩
  clear h hw hp hq
  generalize St p = sp at *
  generalize St q = sq at *
  clear ht h2 hc e1 hab hb e2 ht2 h22 hc2 hx
  generalize St z = sz at *
  generalize St z2 = sz2 at *
  rcases hb' with rfl | ⟨rfl, d1⟩
  all_goals
    go_enter Tryz.func16, Tryz.ntmps16
    go_wp2_with fail
    refine (unhide K).mono ?_
    rintro e w1 ⟨rfl, hb⟩
    have HT := hide (HT.out.below hb)
    have HB := hide hb
    clear K hb
    have KT := hide (KT.out w1 HT.out)
    go_wp2_with fail
    refine (unhide KT).mono ?_
    rintro e w2 ⟨rfl, hb⟩
    have hb2 : Below w1.heap.size w1 (w2.alloc (.cells #[.pointer (some ⟨d, 0, none⟩), .string sz] 92)) := hb.alloc hb.size _
    have HT := hide (HT.out.below hb2)
    have HC := hide (C2.new w2 (.pointer (some ⟨d, 0, none⟩)) (.string sz))
    have hm8 : w.heap.size ≤ w2.heap.size := Nat.le_trans HB.out.size hb.size
    have HB := hide (HB.out.trans (hb2.mono HB.out.size))
    have KA := hide (KA.out (w2.alloc (.cells #[.pointer (some ⟨d, 0, none⟩), .string sz] 92)))
    clear KT hb hb2
    go_wp2_with fail
    generalize w2.alloc (.cells #[.pointer (some ⟨d, 0, none⟩), .string sz] 92) = w3 at *
    generalize w2.heap.size = m8 at *
    refine (unhide KA).mono ?_
    rintro e w4 ⟨rfl, hb⟩
    have HT := hide (HT.out.below hb)
    have HC := hide (HC.out.below hb HC.out.lt)
    have HB := hide (HB.out.trans (hb.mono HB.out.size))
    clear KA hb
    have hlt8 : m8 < w4.heap.size := HC.out.lt
    have KP := hide (KP.out w4 HT.out)
    go_wp2_with fail
    refine (unhide KP).mono ?_
    rintro e w5 ⟨rfl, hb⟩
    have hb2 : Below w4.heap.size w4 (w5.alloc (.cells #[.pointer (some ⟨d2, 0, none⟩), .string sz2] 92)) := hb.alloc hb.size _
    have HT := hide (HT.out.below hb2)
    have HC := hide (HC.out.below hb2 hlt8)
    have HD := hide (C2.new w5 (.pointer (some ⟨d2, 0, none⟩)) (.string sz2))
    have hm13 : w.heap.size ≤ w5.heap.size := Nat.le_trans HB.out.size hb.size
    have HB := hide (HB.out.trans (hb2.mono HB.out.size))
    have KN := hide (KN.out _ HT.out)
    have j0 := HD.out.c0
    have j1 := HD.out.c1
    clear KP hb hb2 hlt8
    go_upto_region 13 with fail
    change Code.wp _ _ _ _ (w5.alloc (.cells #[.pointer (some ⟨d2, 0, none⟩), .string sz2] 92))
    generalize w5.alloc (.cells #[.pointer (some ⟨d2, 0, none⟩), .string sz2] 92) = w6 at *
    generalize w5.heap.size = m13 at *
    go_wp2_with fail
    refine (unhide KN).mono ?_
    rintro e w7 ⟨rfl, hb⟩
    have HT := hide (HT.out.below hb)
    have HC := hide (HC.out.below hb HC.out.lt)
    have HD := hide (HD.out.below hb HD.out.lt)
    have HB := hide (HB.out.trans (hb.mono HB.out.size))
    clear KN hb j0 j1

    have hn := KQ.out w7 HT.out
    clear KQ
    go_wp2_with fail
    go_ret
    exact ⟨rfl, HB.out⟩

set_option maxHeartbeats 2000000 in
theorem ren_fit0 {w : World} {S : Nat → Prop} {g r n : Nat} {s : Tr} (h : TM w S g s) (hw : Wf s r n) (hn : n ≤ 900000) {p q : List UInt8} {z z2 : List UInt8} {ms ms2 : List (List UInt8)} (hp : spl p = some (ms ++ [z])) (hq : spl q = some (ms2 ++ [z2])) {d x : Nat} {t : Th} (e1 : plc s ms r = (0, some d)) (ht : s.T d = some t) (h2 : t.k = 2) (hc : t.ns.lookup z = some x) {d2 : Nat} {t2 : Th} (e2 : plc s ms2 r = (0, some d2)) (ht2 : s.T d2 = some t2) (h22 : t2.k = 2) (hab : abo (ms ++ [z]) (ms2 ++ [z2]) = false) (hc2 : t2.ns.lookup z2 = none) {tx : Th} (hx : s.T x = some tx) {rk : Nat → Nat} (hdp : Deep s rk) {n2 : Nat} (hnn : rk x < n2) (hn2 : n2 ≤ 1000000) (hfit : fitsB s n2 q x = false) :
    Calls Tryz.prog 16 #[.pointer (some ⟨g, 0, none⟩), .string (St p), .string (St q)] w fun e w' => e = .returned (.int .i64 16) ∧ Below w.heap.size w w' := by
  have K := refuses_two h hw.ok.row_ne (p := p) (q := q) (by have := spl_len hp; omega) (by have := spl_len hq; omega)
  rw [show refE [p, q] = 0 by unfold refE; simp [hp, hq]] at K
  have K := hide K
  have HT := hide h
  have HT0 := hide h
  have hSw := h.lt
  have dne := not_root hp
  have dne2 := not_root hq
  have KT : Hid (∀ u, TM u S g s → Calls Tryz.prog 54 #[.pointer (some ⟨g, 0, none⟩), .string (St p)] u fun e w' => e = .returned (.tuple #[.agg #[.pointer (some ⟨d, 0, none⟩), .string (St z)], .pointer (some ⟨x, 0, none⟩), .int .i64 0]) ∧ Below u.heap.size u w') := fun u hu => by
    have := taken_any hu hw.ok hp
    rw [tkA_some e1 ht hc] at this
    exact this
  have KA : Hid (∀ u, Calls Tryz.prog 55 #[.string (St p), .string (St q)] u fun e w' => e = .returned (.tuple #[.bool false, .int .i64 0]) ∧ Below u.heap.size u w') := fun u => by
    have := above_yes u hp hq
    rw [hab] at this
    exact this
  have KP : Hid (∀ u, TM u S g s → Calls Tryz.prog 56 #[.pointer (some ⟨g, 0, none⟩), .string (St q)] u fun e w' => e = .returned (.tuple #[.agg #[.pointer (some ⟨d2, 0, none⟩), .string (St z2)], .int .i64 0]) ∧ Below u.heap.size u w') := fun u hu => by
    have := place_any hu hw.ok hq
    rw [plA_some z2 e2] at this
    exact this
  have KN : Hid (∀ u, TM u S g s → Calls Tryz.prog 57 #[.agg #[.pointer (some ⟨d2, 0, none⟩), .string (St z2)]] u fun e w' => e = .returned (.pointer none) ∧ Below u.heap.size u w') := fun u hu => by
    have := named_any hu ht2 h22 (name_len hq)
    rw [hc2] at this
    exact this
  have KF : Hid (∀ u, TM u S g s → Calls Tryz.prog 58 #[.pointer (some ⟨x, 0, none⟩), .string (St q)] u fun e w' => e = .returned (.bool false) ∧ Below u.heap.size u w') := fun u hu => by
    have := fits_any hu hdp hx hnn hn2 q (by have := spl_len hq; omega)
    rw [hfit] at this
    exact this
  clear h hw hp hq
  generalize St p = sp at *
  generalize St q = sq at *
  clear ht h2 hc e1 hab e2 ht2 h22 hc2 hfit hnn hn2 hdp
  clear hx
  generalize St z = sz at *
  generalize St z2 = sz2 at *
  go_enter Tryz.func16, Tryz.ntmps16
  go_wp2_with fail
  refine (unhide K).mono ?_
  rintro e w1 ⟨rfl, hb⟩
  have HT := hide (HT.out.below hb)
  have HB := hide hb
  clear K hb
  have KT := hide (KT.out w1 HT.out)
  go_wp2_with fail
  refine (unhide KT).mono ?_
  rintro e w2 ⟨rfl, hb⟩
  have hb2 : Below w1.heap.size w1 (w2.alloc (.cells #[.pointer (some ⟨d, 0, none⟩), .string sz] 92)) := hb.alloc hb.size _
  have HT := hide (HT.out.below hb2)
  have HC := hide (C2.new w2 (.pointer (some ⟨d, 0, none⟩)) (.string sz))
  have hm8 : w.heap.size ≤ w2.heap.size := Nat.le_trans HB.out.size hb.size
  have HB := hide (HB.out.trans (hb2.mono HB.out.size))
  have KA := hide (KA.out (w2.alloc (.cells #[.pointer (some ⟨d, 0, none⟩), .string sz] 92)))
  clear KT hb hb2
  go_wp2_with fail
  generalize w2.alloc (.cells #[.pointer (some ⟨d, 0, none⟩), .string sz] 92) = w3 at *
  generalize w2.heap.size = m8 at *
  refine (unhide KA).mono ?_
  rintro e w4 ⟨rfl, hb⟩
  have HT := hide (HT.out.below hb)
  have HC := hide (HC.out.below hb HC.out.lt)
  have HB := hide (HB.out.trans (hb.mono HB.out.size))
  clear KA hb
  have hlt8 : m8 < w4.heap.size := HC.out.lt
  have KP := hide (KP.out w4 HT.out)
  go_wp2_with fail
  refine (unhide KP).mono ?_
  rintro e w5 ⟨rfl, hb⟩
  have hb2 : Below w4.heap.size w4 (w5.alloc (.cells #[.pointer (some ⟨d2, 0, none⟩), .string sz2] 92)) := hb.alloc hb.size _
  have HT := hide (HT.out.below hb2)
  have HC := hide (HC.out.below hb2 hlt8)
  have HD := hide (C2.new w5 (.pointer (some ⟨d2, 0, none⟩)) (.string sz2))
  have hm13 : w.heap.size ≤ w5.heap.size := Nat.le_trans HB.out.size hb.size
  have HB := hide (HB.out.trans (hb2.mono HB.out.size))
  have KN := hide (KN.out _ HT.out)
  have j0 := HD.out.c0
  have j1 := HD.out.c1
  clear KP hb hb2 hlt8
  go_upto_region 13 with fail
  change Code.wp _ _ _ _ (w5.alloc (.cells #[.pointer (some ⟨d2, 0, none⟩), .string sz2] 92))
  generalize w5.alloc (.cells #[.pointer (some ⟨d2, 0, none⟩), .string sz2] 92) = w6 at *
  generalize w5.heap.size = m13 at *
  go_wp2_with fail
  refine (unhide KN).mono ?_
  rintro e w7 ⟨rfl, hb⟩
  have HT := hide (HT.out.below hb)
  have HC := hide (HC.out.below hb HC.out.lt)
  have HD := hide (HD.out.below hb HD.out.lt)
  have HB := hide (HB.out.trans (hb.mono HB.out.size))
  clear KN hb j0 j1
  have KF := hide (KF.out w7 HT.out)
  go_wp2_with fail
  refine (unhide KF).mono ?_
  rintro e w8 ⟨rfl, hb⟩
  have HT := hide (HT.out.below hb)
  have HC := hide (HC.out.below hb HC.out.lt)
  have HD := hide (HD.out.below hb HD.out.lt)
  have HB := hide (HB.out.trans (hb.mono HB.out.size))
  clear KF hb
  go_wp2_with fail
  go_ret
  exact ⟨rfl, HB.out⟩

set_option maxHeartbeats 2000000 in
theorem ren_fit1 {w : World} {S : Nat → Prop} {g r n : Nat} {s : Tr} (h : TM w S g s) (hw : Wf s r n) (hn : n ≤ 900000) {p q : List UInt8} {z z2 : List UInt8} {ms ms2 : List (List UInt8)} (hp : spl p = some (ms ++ [z])) (hq : spl q = some (ms2 ++ [z2])) {d x : Nat} {t : Th} (e1 : plc s ms r = (0, some d)) (ht : s.T d = some t) (h2 : t.k = 2) (hc : t.ns.lookup z = some x) {d2 : Nat} {t2 : Th} (e2 : plc s ms2 r = (0, some d2)) (ht2 : s.T d2 = some t2) (h22 : t2.k = 2) (hab : abo (ms ++ [z]) (ms2 ++ [z2]) = false) {y : Nat} {ty : Th} (hy : s.T y = some ty) (hxy : y ≠ x) (hc2 : t2.ns.lookup z2 = some y) {tx : Th} (hx : s.T x = some tx) {rk : Nat → Nat} (hdp : Deep s rk) {n2 : Nat} (hnn : rk x < n2) (hn2 : n2 ≤ 1000000) (hfit : fitsB s n2 q x = false) :
    Calls Tryz.prog 16 #[.pointer (some ⟨g, 0, none⟩), .string (St p), .string (St q)] w fun e w' => e = .returned (.int .i64 16) ∧ Below w.heap.size w w' := by
  have K := refuses_two h hw.ok.row_ne (p := p) (q := q) (by have := spl_len hp; omega) (by have := spl_len hq; omega)
  rw [show refE [p, q] = 0 by unfold refE; simp [hp, hq]] at K
  have K := hide K
  have HT := hide h
  have HT0 := hide h
  have hSw := h.lt
  have dne := not_root hp
  have dne2 := not_root hq
  have KT : Hid (∀ u, TM u S g s → Calls Tryz.prog 54 #[.pointer (some ⟨g, 0, none⟩), .string (St p)] u fun e w' => e = .returned (.tuple #[.agg #[.pointer (some ⟨d, 0, none⟩), .string (St z)], .pointer (some ⟨x, 0, none⟩), .int .i64 0]) ∧ Below u.heap.size u w') := fun u hu => by
    have := taken_any hu hw.ok hp
    rw [tkA_some e1 ht hc] at this
    exact this
  have KA : Hid (∀ u, Calls Tryz.prog 55 #[.string (St p), .string (St q)] u fun e w' => e = .returned (.tuple #[.bool false, .int .i64 0]) ∧ Below u.heap.size u w') := fun u => by
    have := above_yes u hp hq
    rw [hab] at this
    exact this
  have KP : Hid (∀ u, TM u S g s → Calls Tryz.prog 56 #[.pointer (some ⟨g, 0, none⟩), .string (St q)] u fun e w' => e = .returned (.tuple #[.agg #[.pointer (some ⟨d2, 0, none⟩), .string (St z2)], .int .i64 0]) ∧ Below u.heap.size u w') := fun u hu => by
    have := place_any hu hw.ok hq
    rw [plA_some z2 e2] at this
    exact this
  have KN : Hid (∀ u, TM u S g s → Calls Tryz.prog 57 #[.agg #[.pointer (some ⟨d2, 0, none⟩), .string (St z2)]] u fun e w' => e = .returned (.pointer (some ⟨y, 0, none⟩)) ∧ Below u.heap.size u w') := fun u hu => by
    have := named_any hu ht2 h22 (name_len hq)
    rw [hc2] at this
    exact this
  have KF : Hid (∀ u, TM u S g s → Calls Tryz.prog 58 #[.pointer (some ⟨x, 0, none⟩), .string (St q)] u fun e w' => e = .returned (.bool false) ∧ Below u.heap.size u w') := fun u hu => by
    have := fits_any hu hdp hx hnn hn2 q (by have := spl_len hq; omega)
    rw [hfit] at this
    exact this
  have KQ : Hid (∀ u, TM u S g s → (binOp .eql 63 (.pointer (some ⟨x, 0, none⟩)) (.pointer (some ⟨y, 0, none⟩))).run Tryz.prog u = .ok (.bool false) u) := fun u hu => by
    have := ptr_eq hu hx hy (v := u) rfl
    rwa [decide_eq_false (fun e => hxy e.symm)] at this
  clear h hw hp hq
  generalize St p = sp at *
  generalize St q = sq at *
  clear ht h2 hc e1 hab e2 ht2 h22 hc2 hfit hnn hn2 hdp
  clear hx hy hxy
  generalize St z = sz at *
  generalize St z2 = sz2 at *
  go_enter Tryz.func16, Tryz.ntmps16
  go_wp2_with fail
  refine (unhide K).mono ?_
  rintro e w1 ⟨rfl, hb⟩
  have HT := hide (HT.out.below hb)
  have HB := hide hb
  clear K hb
  have KT := hide (KT.out w1 HT.out)
  go_wp2_with fail
  refine (unhide KT).mono ?_
  rintro e w2 ⟨rfl, hb⟩
  have hb2 : Below w1.heap.size w1 (w2.alloc (.cells #[.pointer (some ⟨d, 0, none⟩), .string sz] 92)) := hb.alloc hb.size _
  have HT := hide (HT.out.below hb2)
  have HC := hide (C2.new w2 (.pointer (some ⟨d, 0, none⟩)) (.string sz))
  have hm8 : w.heap.size ≤ w2.heap.size := Nat.le_trans HB.out.size hb.size
  have HB := hide (HB.out.trans (hb2.mono HB.out.size))
  have KA := hide (KA.out (w2.alloc (.cells #[.pointer (some ⟨d, 0, none⟩), .string sz] 92)))
  clear KT hb hb2
  go_wp2_with fail
  generalize w2.alloc (.cells #[.pointer (some ⟨d, 0, none⟩), .string sz] 92) = w3 at *
  generalize w2.heap.size = m8 at *
  refine (unhide KA).mono ?_
  rintro e w4 ⟨rfl, hb⟩
  have HT := hide (HT.out.below hb)
  have HC := hide (HC.out.below hb HC.out.lt)
  have HB := hide (HB.out.trans (hb.mono HB.out.size))
  clear KA hb
  have hlt8 : m8 < w4.heap.size := HC.out.lt
  have KP := hide (KP.out w4 HT.out)
  go_wp2_with fail
  refine (unhide KP).mono ?_
  rintro e w5 ⟨rfl, hb⟩
  have hb2 : Below w4.heap.size w4 (w5.alloc (.cells #[.pointer (some ⟨d2, 0, none⟩), .string sz2] 92)) := hb.alloc hb.size _
  have HT := hide (HT.out.below hb2)
  have HC := hide (HC.out.below hb2 hlt8)
  have HD := hide (C2.new w5 (.pointer (some ⟨d2, 0, none⟩)) (.string sz2))
  have hm13 : w.heap.size ≤ w5.heap.size := Nat.le_trans HB.out.size hb.size
  have HB := hide (HB.out.trans (hb2.mono HB.out.size))
  have KN := hide (KN.out _ HT.out)
  have j0 := HD.out.c0
  have j1 := HD.out.c1
  clear KP hb hb2 hlt8
  go_upto_region 13 with fail
  change Code.wp _ _ _ _ (w5.alloc (.cells #[.pointer (some ⟨d2, 0, none⟩), .string sz2] 92))
  generalize w5.alloc (.cells #[.pointer (some ⟨d2, 0, none⟩), .string sz2] 92) = w6 at *
  generalize w5.heap.size = m13 at *
  go_wp2_with fail
  refine (unhide KN).mono ?_
  rintro e w7 ⟨rfl, hb⟩
  have HT := hide (HT.out.below hb)
  have HC := hide (HC.out.below hb HC.out.lt)
  have HD := hide (HD.out.below hb HD.out.lt)
  have HB := hide (HB.out.trans (hb.mono HB.out.size))
  clear KN hb j0 j1
  have hn := KQ.out w7 HT.out
  clear KQ
  have KF := hide (KF.out w7 HT.out)
  go_wp2_with fail
  refine (unhide KF).mono ?_
  rintro e w8 ⟨rfl, hb⟩
  have HT := hide (HT.out.below hb)
  have HC := hide (HC.out.below hb HC.out.lt)
  have HD := hide (HD.out.below hb HD.out.lt)
  have HB := hide (HB.out.trans (hb.mono HB.out.size))
  clear KF hb
  go_wp2_with fail
  go_ret
  exact ⟨rfl, HB.out⟩

set_option maxHeartbeats 2000000 in
theorem ren_yld {w : World} {S : Nat → Prop} {g r n : Nat} {s : Tr} (h : TM w S g s) (hw : Wf s r n) (hn : n ≤ 900000) {p q : List UInt8} {z z2 : List UInt8} {ms ms2 : List (List UInt8)} (hp : spl p = some (ms ++ [z])) (hq : spl q = some (ms2 ++ [z2])) {d x : Nat} {t : Th} (e1 : plc s ms r = (0, some d)) (ht : s.T d = some t) (h2 : t.k = 2) (hc : t.ns.lookup z = some x) {d2 : Nat} {t2 : Th} (e2 : plc s ms2 r = (0, some d2)) (ht2 : s.T d2 = some t2) (h22 : t2.k = 2) (hab : abo (ms ++ [z]) (ms2 ++ [z2]) = false) {y : Nat} {ty : Th} (hy : s.T y = some ty) (hxy : y ≠ x) (hc2 : t2.ns.lookup z2 = some y) {tx : Th} (hx : s.T x = some tx) {rk : Nat → Nat} (hdp : Deep s rk) {n2 : Nat} (hnn : rk x < n2) (hn2 : n2 ≤ 1000000) (hfit : fitsB s n2 q x = true) (hE : yE s y ty tx.k ≠ 0) :
    Calls Tryz.prog 16 #[.pointer (some ⟨g, 0, none⟩), .string (St p), .string (St q)] w fun e w' => e = .returned (.int .i64 (yE s y ty tx.k)) ∧ Below w.heap.size w w' := by
  have K := refuses_two h hw.ok.row_ne (p := p) (q := q) (by have := spl_len hp; omega) (by have := spl_len hq; omega)
  rw [show refE [p, q] = 0 by unfold refE; simp [hp, hq]] at K
  have K := hide K
  have HT := hide h
  have HT0 := hide h
  have hSw := h.lt
  have dne := not_root hp
  have dne2 := not_root hq
  have KT : Hid (∀ u, TM u S g s → Calls Tryz.prog 54 #[.pointer (some ⟨g, 0, none⟩), .string (St p)] u fun e w' => e = .returned (.tuple #[.agg #[.pointer (some ⟨d, 0, none⟩), .string (St z)], .pointer (some ⟨x, 0, none⟩), .int .i64 0]) ∧ Below u.heap.size u w') := fun u hu => by
    have := taken_any hu hw.ok hp
    rw [tkA_some e1 ht hc] at this
    exact this
  have KA : Hid (∀ u, Calls Tryz.prog 55 #[.string (St p), .string (St q)] u fun e w' => e = .returned (.tuple #[.bool false, .int .i64 0]) ∧ Below u.heap.size u w') := fun u => by
    have := above_yes u hp hq
    rw [hab] at this
    exact this
  have KP : Hid (∀ u, TM u S g s → Calls Tryz.prog 56 #[.pointer (some ⟨g, 0, none⟩), .string (St q)] u fun e w' => e = .returned (.tuple #[.agg #[.pointer (some ⟨d2, 0, none⟩), .string (St z2)], .int .i64 0]) ∧ Below u.heap.size u w') := fun u hu => by
    have := place_any hu hw.ok hq
    rw [plA_some z2 e2] at this
    exact this
  have KN : Hid (∀ u, TM u S g s → Calls Tryz.prog 57 #[.agg #[.pointer (some ⟨d2, 0, none⟩), .string (St z2)]] u fun e w' => e = .returned (.pointer (some ⟨y, 0, none⟩)) ∧ Below u.heap.size u w') := fun u hu => by
    have := named_any hu ht2 h22 (name_len hq)
    rw [hc2] at this
    exact this
  have KF : Hid (∀ u, TM u S g s → Calls Tryz.prog 58 #[.pointer (some ⟨x, 0, none⟩), .string (St q)] u fun e w' => e = .returned (.bool true) ∧ Below u.heap.size u w') := fun u hu => by
    have := fits_any hu hdp hx hnn hn2 q (by have := spl_len hq; omega)
    rw [hfit] at this
    exact this
  have KQ : Hid (∀ u, TM u S g s → (binOp .eql 63 (.pointer (some ⟨x, 0, none⟩)) (.pointer (some ⟨y, 0, none⟩))).run Tryz.prog u = .ok (.bool false) u) := fun u hu => by
    have := ptr_eq hu hx hy (v := u) rfl
    rwa [decide_eq_false (fun e => hxy e.symm)] at this
  have KY : Hid (∀ u, TM u S g s → Calls Tryz.prog 59 #[.pointer (some ⟨g, 0, none⟩), .pointer (some ⟨y, 0, none⟩), .int .i64 tx.k] u fun e w' => e = .returned (.int .i64 (yE s y ty tx.k)) ∧ w' = u) := fun u hu =>
    yields_any hu hy (hdp.small y ty hy) (fun f b ho => by obtain ⟨t, ht, _⟩ := hw.opn f b ho; exact ⟨t, ht⟩) (hw.ok.kind y ty hy) (hw.ok.kind x tx hx)
  have HX := hide hx
  have d1 : (yE s y ty tx.k != 0) = true := by simpa using hE
  clear h hw hp hq
  generalize St p = sp at *
  generalize St q = sq at *
  clear ht h2 hc e1 hab e2 ht2 h22 hc2 hfit hnn hn2 hdp
  clear hx hy hxy hE
  generalize yE s y ty tx.k = E at *
  generalize hkx : tx.k = kx at *
  generalize St z = sz at *
  generalize St z2 = sz2 at *
  go_enter Tryz.func16, Tryz.ntmps16
  go_wp2_with fail
  refine (unhide K).mono ?_
  rintro e w1 ⟨rfl, hb⟩
  have HT := hide (HT.out.below hb)
  have HB := hide hb
  clear K hb
  have KT := hide (KT.out w1 HT.out)
  go_wp2_with fail
  refine (unhide KT).mono ?_
  rintro e w2 ⟨rfl, hb⟩
  have hb2 : Below w1.heap.size w1 (w2.alloc (.cells #[.pointer (some ⟨d, 0, none⟩), .string sz] 92)) := hb.alloc hb.size _
  have HT := hide (HT.out.below hb2)
  have HC := hide (C2.new w2 (.pointer (some ⟨d, 0, none⟩)) (.string sz))
  have hm8 : w.heap.size ≤ w2.heap.size := Nat.le_trans HB.out.size hb.size
  have HB := hide (HB.out.trans (hb2.mono HB.out.size))
  have KA := hide (KA.out (w2.alloc (.cells #[.pointer (some ⟨d, 0, none⟩), .string sz] 92)))
  clear KT hb hb2
  go_wp2_with fail
  generalize w2.alloc (.cells #[.pointer (some ⟨d, 0, none⟩), .string sz] 92) = w3 at *
  generalize w2.heap.size = m8 at *
  refine (unhide KA).mono ?_
  rintro e w4 ⟨rfl, hb⟩
  have HT := hide (HT.out.below hb)
  have HC := hide (HC.out.below hb HC.out.lt)
  have HB := hide (HB.out.trans (hb.mono HB.out.size))
  clear KA hb
  have hlt8 : m8 < w4.heap.size := HC.out.lt
  have KP := hide (KP.out w4 HT.out)
  go_wp2_with fail
  refine (unhide KP).mono ?_
  rintro e w5 ⟨rfl, hb⟩
  have hb2 : Below w4.heap.size w4 (w5.alloc (.cells #[.pointer (some ⟨d2, 0, none⟩), .string sz2] 92)) := hb.alloc hb.size _
  have HT := hide (HT.out.below hb2)
  have HC := hide (HC.out.below hb2 hlt8)
  have HD := hide (C2.new w5 (.pointer (some ⟨d2, 0, none⟩)) (.string sz2))
  have hm13 : w.heap.size ≤ w5.heap.size := Nat.le_trans HB.out.size hb.size
  have HB := hide (HB.out.trans (hb2.mono HB.out.size))
  have KN := hide (KN.out _ HT.out)
  have j0 := HD.out.c0
  have j1 := HD.out.c1
  clear KP hb hb2 hlt8
  go_upto_region 13 with fail
  change Code.wp _ _ _ _ (w5.alloc (.cells #[.pointer (some ⟨d2, 0, none⟩), .string sz2] 92))
  generalize w5.alloc (.cells #[.pointer (some ⟨d2, 0, none⟩), .string sz2] 92) = w6 at *
  generalize w5.heap.size = m13 at *
  go_wp2_with fail
  refine (unhide KN).mono ?_
  rintro e w7 ⟨rfl, hb⟩
  have HT := hide (HT.out.below hb)
  have HC := hide (HC.out.below hb HC.out.lt)
  have HD := hide (HD.out.below hb HD.out.lt)
  have HB := hide (HB.out.trans (hb.mono HB.out.size))
  clear KN hb j0 j1
  have hn := KQ.out w7 HT.out
  clear KQ
  have KF := hide (KF.out w7 HT.out)
  go_wp2_with fail
  refine (unhide KF).mono ?_
  rintro e w8 ⟨rfl, hb⟩
  have HT := hide (HT.out.below hb)
  have HC := hide (HC.out.below hb HC.out.lt)
  have HD := hide (HD.out.below hb HD.out.lt)
  have HB := hide (HB.out.trans (hb.mono HB.out.size))
  clear KF hb
  have cx := (HT.out.thing_cells HX.out).1
  have KY := hide (KY.out w8 HT.out)
  go_wp2_with fail
  refine (unhide KY).mono ?_
  rintro e w8' ⟨rfl, rfl⟩
  clear KY
  go_wp2_with fail
  go_ret
  exact ⟨rfl, HB.out⟩

set_option maxHeartbeats 4000000 in
theorem ren_mov {w : World} {S : Nat → Prop} {g r n : Nat} {s : Tr} (h : TM w S g s) (hw : Wf s r n) (hn : n ≤ 900000) {p q : List UInt8} {z z2 : List UInt8} {ms ms2 : List (List UInt8)} (hp : spl p = some (ms ++ [z])) (hq : spl q = some (ms2 ++ [z2])) {d x : Nat} {t : Th} (e1 : plc s ms r = (0, some d)) (ht : s.T d = some t) (h2 : t.k = 2) (hc : t.ns.lookup z = some x) {d2 : Nat} {t2 : Th} (e2 : plc s ms2 r = (0, some d2)) (ht2 : s.T d2 = some t2) (h22 : t2.k = 2) (hab : abo (ms ++ [z]) (ms2 ++ [z2]) = false) (hc2 : t2.ns.lookup z2 = none) {tx : Th} (hx : s.T x = some tx) {rk : Nat → Nat} (hdp : Deep s rk) {n2 : Nat} (hnn : rk x < n2) (hn2 : n2 ≤ 1000000) (hfit : fitsB s n2 q x = true) :
    Calls Tryz.prog 16 #[.pointer (some ⟨g, 0, none⟩), .string (St p), .string (St q)] w fun e w' => e = .returned (.int .i64 0) ∧ TM w' (Up S w.heap.size w'.heap.size) g (s.moved d z d2 z2 x) ∧ Kp S w w' := by
  have hz := name_len hp
  have hz2 := name_len hq
  obtain ⟨t3, h3, k3, l3⟩ : ∃ t3, (s.edit d (delN z)).T d2 = some t3 ∧ t3.k = 2 ∧ t3.ns.length < 1000000000 := by
    rw [edit_some ht, Tr.upd_T]
    have := hw.ns_le ht
    have := hw.ns_le ht2
    by_cases e : d2 = d
    · rw [if_pos e]
      exact ⟨_, rfl, h2, by have := List.length_filter_le (fun e : List UInt8 × Nat => !(e.1 == z)) t.ns; show (delN z t.ns).length < _; unfold delN; omega⟩
    · rw [if_neg e]
      exact ⟨t2, ht2, h22, by omega⟩
  have KE : Hid (∀ u, TM u S g s → _) := fun u (hu : TM u S g s) => hu.edits x ht h2 hz hz2 h3 k3 l3
  have K := refuses_two h hw.ok.row_ne (p := p) (q := q) (by have := spl_len hp; omega) (by have := spl_len hq; omega)
  rw [show refE [p, q] = 0 by unfold refE; simp [hp, hq]] at K
  have K := hide K
  have HT := hide h
  have HT0 := hide h
  have hSw := h.lt
  have dne := not_root hp
  have dne2 := not_root hq
  have KT : Hid (∀ u, TM u S g s → Calls Tryz.prog 54 #[.pointer (some ⟨g, 0, none⟩), .string (St p)] u fun e w' => e = .returned (.tuple #[.agg #[.pointer (some ⟨d, 0, none⟩), .string (St z)], .pointer (some ⟨x, 0, none⟩), .int .i64 0]) ∧ Below u.heap.size u w') := fun u hu => by
    have := taken_any hu hw.ok hp
    rw [tkA_some e1 ht hc] at this
    exact this
  have KA : Hid (∀ u, Calls Tryz.prog 55 #[.string (St p), .string (St q)] u fun e w' => e = .returned (.tuple #[.bool false, .int .i64 0]) ∧ Below u.heap.size u w') := fun u => by
    have := above_yes u hp hq
    rw [hab] at this
    exact this
  have KP : Hid (∀ u, TM u S g s → Calls Tryz.prog 56 #[.pointer (some ⟨g, 0, none⟩), .string (St q)] u fun e w' => e = .returned (.tuple #[.agg #[.pointer (some ⟨d2, 0, none⟩), .string (St z2)], .int .i64 0]) ∧ Below u.heap.size u w') := fun u hu => by
    have := place_any hu hw.ok hq
    rw [plA_some z2 e2] at this
    exact this
  have KN : Hid (∀ u, TM u S g s → Calls Tryz.prog 57 #[.agg #[.pointer (some ⟨d2, 0, none⟩), .string (St z2)]] u fun e w' => e = .returned (.pointer none) ∧ Below u.heap.size u w') := fun u hu => by
    have := named_any hu ht2 h22 (name_len hq)
    rw [hc2] at this
    exact this
  have KF : Hid (∀ u, TM u S g s → Calls Tryz.prog 58 #[.pointer (some ⟨x, 0, none⟩), .string (St q)] u fun e w' => e = .returned (.bool true) ∧ Below u.heap.size u w') := fun u hu => by
    have := fits_any hu hdp hx hnn hn2 q (by have := spl_len hq; omega)
    rw [hfit] at this
    exact this
  clear h hw hp hq
  generalize St p = sp at *
  generalize St q = sq at *
  clear ht h2 hc e1 hab e2 ht2 h22 hc2 hfit hnn hn2 hdp
  clear hx hz hz2 h3 k3 l3
  generalize St z = sz at *
  generalize St z2 = sz2 at *
  go_enter Tryz.func16, Tryz.ntmps16
  go_wp2_with fail
  refine (unhide K).mono ?_
  rintro e w1 ⟨rfl, hb⟩
  have HT := hide (HT.out.below hb)
  have HB := hide hb
  clear K hb
  have KT := hide (KT.out w1 HT.out)
  go_wp2_with fail
  refine (unhide KT).mono ?_
  rintro e w2 ⟨rfl, hb⟩
  have hb2 : Below w1.heap.size w1 (w2.alloc (.cells #[.pointer (some ⟨d, 0, none⟩), .string sz] 92)) := hb.alloc hb.size _
  have HT := hide (HT.out.below hb2)
  have HC := hide (C2.new w2 (.pointer (some ⟨d, 0, none⟩)) (.string sz))
  have hm8 : w.heap.size ≤ w2.heap.size := Nat.le_trans HB.out.size hb.size
  have HB := hide (HB.out.trans (hb2.mono HB.out.size))
  have KA := hide (KA.out (w2.alloc (.cells #[.pointer (some ⟨d, 0, none⟩), .string sz] 92)))
  clear KT hb hb2
  go_wp2_with fail
  generalize w2.alloc (.cells #[.pointer (some ⟨d, 0, none⟩), .string sz] 92) = w3 at *
  generalize w2.heap.size = m8 at *
  refine (unhide KA).mono ?_
  rintro e w4 ⟨rfl, hb⟩
  have HT := hide (HT.out.below hb)
  have HC := hide (HC.out.below hb HC.out.lt)
  have HB := hide (HB.out.trans (hb.mono HB.out.size))
  clear KA hb
  have hlt8 : m8 < w4.heap.size := HC.out.lt
  have KP := hide (KP.out w4 HT.out)
  go_wp2_with fail
  refine (unhide KP).mono ?_
  rintro e w5 ⟨rfl, hb⟩
  have hb2 : Below w4.heap.size w4 (w5.alloc (.cells #[.pointer (some ⟨d2, 0, none⟩), .string sz2] 92)) := hb.alloc hb.size _
  have HT := hide (HT.out.below hb2)
  have HC := hide (HC.out.below hb2 hlt8)
  have HD := hide (C2.new w5 (.pointer (some ⟨d2, 0, none⟩)) (.string sz2))
  have hm13 : w.heap.size ≤ w5.heap.size := Nat.le_trans HB.out.size hb.size
  have HB := hide (HB.out.trans (hb2.mono HB.out.size))
  have KN := hide (KN.out _ HT.out)
  have j0 := HD.out.c0
  have j1 := HD.out.c1
  clear KP hb hb2 hlt8
  go_upto_region 13 with fail
  change Code.wp _ _ _ _ (w5.alloc (.cells #[.pointer (some ⟨d2, 0, none⟩), .string sz2] 92))
  generalize w5.alloc (.cells #[.pointer (some ⟨d2, 0, none⟩), .string sz2] 92) = w6 at *
  generalize w5.heap.size = m13 at *
  go_wp2_with fail
  refine (unhide KN).mono ?_
  rintro e w7 ⟨rfl, hb⟩
  have HT := hide (HT.out.below hb)
  have HC := hide (HC.out.below hb HC.out.lt)
  have HD := hide (HD.out.below hb HD.out.lt)
  have HB := hide (HB.out.trans (hb.mono HB.out.size))
  clear KN hb j0 j1
  have KF := hide (KF.out w7 HT.out)
  go_wp2_with fail
  refine (unhide KF).mono ?_
  rintro e w8 ⟨rfl, hb⟩
  have HT := hide (HT.out.below hb)
  have HC := hide (HC.out.below hb HC.out.lt)
  have HD := hide (HD.out.below hb HD.out.lt)
  have HB := hide (HB.out.trans (hb.mono HB.out.size))
  clear KF hb
  have HE := hide (KE.out w8 HT.out)
  clear KE
  obtain ⟨u1, u2, mp1, mp2, f1, f2, f3, f4, f5, f6, f7, f8⟩ := HE.out
  have k0 := HC.out.c0
  have k1 := HC.out.c1
  have j0 := (f8 _ _ _ HD.out).c0
  have j1 := (f8 _ _ _ HD.out).c1
  have HR : Hid (TM u2 (Up S w.heap.size u2.heap.size) g (s.moved d z d2 z2 x) ∧ Kp S w u2) := ⟨f5.kept (fun _ _ => rfl) (fun _ q => .inl q) (fun k q => q.elim (fun e => f5.lt k e) (fun e => e.2)), f7 S w (fun k q => .inl q) (Kp.of HB.out)⟩
  clear HE f5 f6 f7 f8 HT HB HC HD HT0 hm8 hm13
  go_upto_region 25 with fail
  go_region
  go_upto_region 26 with fail
  go_region
  go_wp2_with fail
  go_ret
  exact ⟨rfl, HR.out⟩

set_option maxHeartbeats 4000000 in
theorem ren_ovr {w : World} {S : Nat → Prop} {g r n : Nat} {s : Tr} (h : TM w S g s) (hw : Wf s r n) (hn : n ≤ 900000) {p q : List UInt8} {z z2 : List UInt8} {ms ms2 : List (List UInt8)} (hp : spl p = some (ms ++ [z])) (hq : spl q = some (ms2 ++ [z2])) {d x : Nat} {t : Th} (e1 : plc s ms r = (0, some d)) (ht : s.T d = some t) (h2 : t.k = 2) (hc : t.ns.lookup z = some x) {d2 : Nat} {t2 : Th} (e2 : plc s ms2 r = (0, some d2)) (ht2 : s.T d2 = some t2) (h22 : t2.k = 2) (hab : abo (ms ++ [z]) (ms2 ++ [z2]) = false) {y : Nat} {ty : Th} (hy : s.T y = some ty) (hxy : y ≠ x) (hc2 : t2.ns.lookup z2 = some y) {tx : Th} (hx : s.T x = some tx) {rk : Nat → Nat} (hdp : Deep s rk) {n2 : Nat} (hnn : rk x < n2) (hn2 : n2 ≤ 1000000) (hfit : fitsB s n2 q x = true) (hE : yE s y ty tx.k = 0)
    {t1 t3 : Th} (g1 : (s.gone d2 t2 z2 y ty).T d = some t1) (g2 : t1.k = 2) (g3 : ((s.gone d2 t2 z2 y ty).edit d (delN z)).T d2 = some t3) (g4 : t3.k = 2) (g5 : t3.ns.length < 1000000000) :
    Calls Tryz.prog 16 #[.pointer (some ⟨g, 0, none⟩), .string (St p), .string (St q)] w fun e w' => e = .returned (.int .i64 0) ∧ TM w' (Up S w.heap.size w'.heap.size) g ((s.gone d2 t2 z2 y ty).moved d z d2 z2 x) ∧ Kp S w w' := by
  have hz := name_len hp
  have hz2 := name_len hq
  obtain ⟨q1, q2, q3, q4, q5⟩ := hw.dropable (by omega) ht2 hc2 hy
  have KD : Hid (∀ u, TM u S g s → Calls Tryz.prog 60 #[.pointer (some ⟨g, 0, none⟩), .agg #[.pointer (some ⟨d2, 0, none⟩), .string (St z2)]] u fun e w' => e = .returned (.tuple #[]) ∧ TM w' (Up S u.heap.size w'.heap.size) g (s.gone d2 t2 z2 y ty) ∧ Kp S u w') := fun u hu => drop_any hu ht2 h22 q5 hc2 hy q1 q2 q3
  have KE : Hid (∀ u S', TM u S' g (s.gone d2 t2 z2 y ty) → _) := fun u S' (hu : TM u S' g (s.gone d2 t2 z2 y ty)) => hu.edits x g1 g2 hz hz2 g3 g4 g5
  have K := refuses_two h hw.ok.row_ne (p := p) (q := q) (by have := spl_len hp; omega) (by have := spl_len hq; omega)
  rw [show refE [p, q] = 0 by unfold refE; simp [hp, hq]] at K
  have K := hide K
  have HT := hide h
  have HT0 := hide h
  have hSw := h.lt
  have dne := not_root hp
  have dne2 := not_root hq
  have KT : Hid (∀ u, TM u S g s → Calls Tryz.prog 54 #[.pointer (some ⟨g, 0, none⟩), .string (St p)] u fun e w' => e = .returned (.tuple #[.agg #[.pointer (some ⟨d, 0, none⟩), .string (St z)], .pointer (some ⟨x, 0, none⟩), .int .i64 0]) ∧ Below u.heap.size u w') := fun u hu => by
    have := taken_any hu hw.ok hp
    rw [tkA_some e1 ht hc] at this
    exact this
  have KA : Hid (∀ u, Calls Tryz.prog 55 #[.string (St p), .string (St q)] u fun e w' => e = .returned (.tuple #[.bool false, .int .i64 0]) ∧ Below u.heap.size u w') := fun u => by
    have := above_yes u hp hq
    rw [hab] at this
    exact this
  have KP : Hid (∀ u, TM u S g s → Calls Tryz.prog 56 #[.pointer (some ⟨g, 0, none⟩), .string (St q)] u fun e w' => e = .returned (.tuple #[.agg #[.pointer (some ⟨d2, 0, none⟩), .string (St z2)], .int .i64 0]) ∧ Below u.heap.size u w') := fun u hu => by
    have := place_any hu hw.ok hq
    rw [plA_some z2 e2] at this
    exact this
  have KN : Hid (∀ u, TM u S g s → Calls Tryz.prog 57 #[.agg #[.pointer (some ⟨d2, 0, none⟩), .string (St z2)]] u fun e w' => e = .returned (.pointer (some ⟨y, 0, none⟩)) ∧ Below u.heap.size u w') := fun u hu => by
    have := named_any hu ht2 h22 (name_len hq)
    rw [hc2] at this
    exact this
  have KF : Hid (∀ u, TM u S g s → Calls Tryz.prog 58 #[.pointer (some ⟨x, 0, none⟩), .string (St q)] u fun e w' => e = .returned (.bool true) ∧ Below u.heap.size u w') := fun u hu => by
    have := fits_any hu hdp hx hnn hn2 q (by have := spl_len hq; omega)
    rw [hfit] at this
    exact this
  have KQ : Hid (∀ u, TM u S g s → (binOp .eql 63 (.pointer (some ⟨x, 0, none⟩)) (.pointer (some ⟨y, 0, none⟩))).run Tryz.prog u = .ok (.bool false) u) := fun u hu => by
    have := ptr_eq hu hx hy (v := u) rfl
    rwa [decide_eq_false (fun e => hxy e.symm)] at this
  have KY : Hid (∀ u, TM u S g s → Calls Tryz.prog 59 #[.pointer (some ⟨g, 0, none⟩), .pointer (some ⟨y, 0, none⟩), .int .i64 tx.k] u fun e w' => e = .returned (.int .i64 (yE s y ty tx.k)) ∧ w' = u) := fun u hu =>
    yields_any hu hy (hdp.small y ty hy) (fun f b ho => by obtain ⟨t, ht, _⟩ := hw.opn f b ho; exact ⟨t, ht⟩) (hw.ok.kind y ty hy) (hw.ok.kind x tx hx)
  have HX := hide hx
  rw [hE] at KY
  clear h hw hp hq
  generalize St p = sp at *
  generalize St q = sq at *
  clear ht h2 hc e1 hab e2 ht2 h22 hc2 hfit hnn hn2 hdp
  clear hx hy hxy hE q1 q2 q3 q4 q5 hz hz2 g1 g2 g3 g4 g5
  generalize hkx : tx.k = kx at *
  generalize s.gone d2 t2 z2 y ty = s1 at *
  generalize St z = sz at *
  generalize St z2 = sz2 at *
  go_enter Tryz.func16, Tryz.ntmps16
  go_wp2_with fail
  refine (unhide K).mono ?_
  rintro e w1 ⟨rfl, hb⟩
  have HT := hide (HT.out.below hb)
  have HB := hide hb
  clear K hb
  have KT := hide (KT.out w1 HT.out)
  go_wp2_with fail
  refine (unhide KT).mono ?_
  rintro e w2 ⟨rfl, hb⟩
  have hb2 : Below w1.heap.size w1 (w2.alloc (.cells #[.pointer (some ⟨d, 0, none⟩), .string sz] 92)) := hb.alloc hb.size _
  have HT := hide (HT.out.below hb2)
  have HC := hide (C2.new w2 (.pointer (some ⟨d, 0, none⟩)) (.string sz))
  have hm8 : w.heap.size ≤ w2.heap.size := Nat.le_trans HB.out.size hb.size
  have HB := hide (HB.out.trans (hb2.mono HB.out.size))
  have KA := hide (KA.out (w2.alloc (.cells #[.pointer (some ⟨d, 0, none⟩), .string sz] 92)))
  clear KT hb hb2
  go_wp2_with fail
  generalize w2.alloc (.cells #[.pointer (some ⟨d, 0, none⟩), .string sz] 92) = w3 at *
  generalize w2.heap.size = m8 at *
  refine (unhide KA).mono ?_
  rintro e w4 ⟨rfl, hb⟩
  have HT := hide (HT.out.below hb)
  have HC := hide (HC.out.below hb HC.out.lt)
  have HB := hide (HB.out.trans (hb.mono HB.out.size))
  clear KA hb
  have hlt8 : m8 < w4.heap.size := HC.out.lt
  have KP := hide (KP.out w4 HT.out)
  go_wp2_with fail
  refine (unhide KP).mono ?_
  rintro e w5 ⟨rfl, hb⟩
  have hb2 : Below w4.heap.size w4 (w5.alloc (.cells #[.pointer (some ⟨d2, 0, none⟩), .string sz2] 92)) := hb.alloc hb.size _
  have HT := hide (HT.out.below hb2)
  have HC := hide (HC.out.below hb2 hlt8)
  have HD := hide (C2.new w5 (.pointer (some ⟨d2, 0, none⟩)) (.string sz2))
  have hm13 : w.heap.size ≤ w5.heap.size := Nat.le_trans HB.out.size hb.size
  have HB := hide (HB.out.trans (hb2.mono HB.out.size))
  have KN := hide (KN.out _ HT.out)
  have j0 := HD.out.c0
  have j1 := HD.out.c1
  clear KP hb hb2 hlt8
  go_upto_region 13 with fail
  change Code.wp _ _ _ _ (w5.alloc (.cells #[.pointer (some ⟨d2, 0, none⟩), .string sz2] 92))
  generalize w5.alloc (.cells #[.pointer (some ⟨d2, 0, none⟩), .string sz2] 92) = w6 at *
  generalize w5.heap.size = m13 at *
  go_wp2_with fail
  refine (unhide KN).mono ?_
  rintro e w7 ⟨rfl, hb⟩
  have HT := hide (HT.out.below hb)
  have HC := hide (HC.out.below hb HC.out.lt)
  have HD := hide (HD.out.below hb HD.out.lt)
  have HB := hide (HB.out.trans (hb.mono HB.out.size))
  clear KN hb j0 j1
  have hn := KQ.out w7 HT.out
  clear KQ
  have KF := hide (KF.out w7 HT.out)
  go_wp2_with fail
  refine (unhide KF).mono ?_
  rintro e w8 ⟨rfl, hb⟩
  have HT := hide (HT.out.below hb)
  have HC := hide (HC.out.below hb HC.out.lt)
  have HD := hide (HD.out.below hb HD.out.lt)
  have HB := hide (HB.out.trans (hb.mono HB.out.size))
  clear KF hb
  have cx := (HT.out.thing_cells HX.out).1
  have KY := hide (KY.out w8 HT.out)
  go_wp2_with fail
  refine (unhide KY).mono ?_
  rintro e w8' ⟨rfl, rfl⟩
  clear KY
  have KD := hide (KD.out w8' HT.out)
  have j0 := HD.out.c0
  have j1 := HD.out.c1
  go_wp2_with fail
  refine (unhide KD).mono ?_
  rintro e w9 ⟨rfl, h9, hk9⟩
  have n8 : ¬ S m8 := fun e => by have := hSw m8 e; omega
  have n13 : ¬ S m13 := fun e => by have := hSw m13 e; omega
  have HC := hide (HC.out.kp hk9 n8)
  have HD := hide (HD.out.kp hk9 n13)
  have HK : Hid (Kp S w w9) := (Kp.of HB.out).trans hk9 (fun k q => .inl q)
  have hs8 : w.heap.size ≤ w8'.heap.size := HB.out.size
  have HE := hide (KE.out w9 _ h9)
  clear KD KE j0 j1 h9 hk9
  obtain ⟨u1, u2, mp1, mp2, f1, f2, f3, f4, f5, f6, f7, f8⟩ := HE.out
  have k0 := HC.out.c0
  have k1 := HC.out.c1
  have j0 := (f8 _ _ _ HD.out).c0
  have j1 := (f8 _ _ _ HD.out).c1
  have HR : Hid (TM u2 (Up S w.heap.size u2.heap.size) g (s1.moved d z d2 z2 x) ∧ Kp S w u2) :=
    ⟨f5.kept (fun _ _ => rfl) (fun k q => q.elim .inl (fun e => .inr ⟨by omega, by rw [f6]; exact e.2⟩)) (fun k q => q.elim (fun e => f5.lt k (.inl e)) (fun e => e.2)), f7 S w (fun k q => q.elim .inl (fun e => .inr (by omega))) HK.out⟩
  clear HE f5 f6 f7 f8 HT HB HC HD HT0 hm8 hm13 cx HK n8 n13 hs8
  go_upto_region 25 with fail
  go_region
  go_upto_region 26 with fail
  go_region
  go_wp2_with fail
  go_ret
  exact ⟨rfl, HR.out⟩

end Go.Proofs.YtknmgefpjdfenaaGreat

