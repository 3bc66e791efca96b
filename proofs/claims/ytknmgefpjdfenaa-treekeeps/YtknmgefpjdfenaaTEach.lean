/- each with Dump's visitor, and Dump. -/
import Derived.Test.YtknmgefpjdfenaaTDump1
import Derived.Shelf.Lay
import Derived.Shelf.Strings.Prefix
namespace Go.Proofs.Ytknmgefpjdfenaa
open Go.RowKit Go.Shelf Go.Maps
set_option linter.unusedVariables false
set_option maxRecDepth 100000

shelf_lay Lays.n102 Nm 102 at Try as Try.trimSL

theorem trims_any (p : List UInt8) (w : World) (hp : p.length ≤ 9223372036854775807) :
    Calls Try.prog 38 #[.string (St p), .string ⟨#[47]⟩] w fun e w' => e = .returned (.string (St (Lib.trimSuffix p [47]))) ∧ w' = w := by
  have h := Any.strings_TrimSuffix Try.trimSL (St p) ⟨#[47]⟩ w (by rw [St_size]; exact hp)
  rw [data_St] at h
  exact h

/-- The path of a name below a path. -/
def subP (p x : List UInt8) : List UInt8 := Lib.trimSuffix p [47] ++ [47] ++ x

theorem trims_len (p : List UInt8) : (Lib.trimSuffix p [47]).length ≤ p.length := by
  unfold Lib.trimSuffix
  split
  · simp
  · exact Nat.le_refl _

/-- What Dump tells, level by level. -/
def dumpL (s : Tr) : Nat → List UInt8 → Nat → List (List UInt8 × Th)
  | 0, _, _ => []
  | n + 1, p, b => match s.T b with
    | none => []
    | some t => (p, t) :: t.ns.flatMap (fun e => dumpL s n (subP p e.1) e.2)

theorem dumpL_some {s : Tr} {b : Nat} {t : Th} (h : s.T b = some t) (n : Nat) (p : List UInt8) : dumpL s (n + 1) p b = (p, t) :: t.ns.flatMap (fun e => dumpL s n (subP p e.1) e.2) := by
  conv => lhs; unfold dumpL
  rw [h]

/-- Names lead down. -/
structure Deep (s : Tr) (rk : Nat → Nat) : Prop where
  live : ∀ b t, s.T b = some t → ∀ e ∈ t.ns, (∃ t', s.T e.2 = some t') ∧ e.1.length ≤ 200 ∧ rk e.2 < rk b
  small : ∀ b t, s.T b = some t → Small t

theorem TM.low {u v : World} {S : Nat → Prop} {g B : Nat} {s : Tr} (h : TM u S g s) (hS : ∀ k, S k → k < B) (hb : Below B u v) : TM v S g s :=
  h.kept (fun k hk => hb.block k (hS k hk)) (fun _ hk => hk) (fun k hk => Nat.lt_of_lt_of_le (h.lt k hk) hb.size)

/-- What each leaves behind with Dump's visitor. -/
def EP (B m : Nat) (s : Tr) (n : Nat) (p : List UInt8) (b : Nat) (xs : List Nd) (u w : World) : Prop :=
  ∃ v ys, Bl w m #[v] 36 ∧ DL B w v (xs ++ ys) ∧ ys.map (fun x => (x.p, x.t)) = dumpL s n p b ∧ Below B u w ∧ Fx m u w

theorem St_app (a b : List UInt8) : St a ++ St b = St (a ++ b) := by
  apply ByteArray.ext
  simp [St]

theorem St_app47 (a : List UInt8) : St a ++ (⟨#[47]⟩ : ByteArray) = St (a ++ [47]) := St_app a [47]

set_option maxHeartbeats 8000000 in
theorem each_dump {S : Nat → Prop} {g m B : Nat} {s : Tr} {rk : Nat → Nat} (hS : ∀ k, S k → k < B) (hm : B ≤ m) (hdp : Deep s rk) (n : Nat) : ∀ (b : Nat) (p : List UInt8) (u : World) (v : Value) (xs : List Nd) (t : Th), s.T b = some t → rk b < n → TM u S g s → Bl u m #[v] 36 → DL B u v xs → B ≤ u.heap.size →
    xs.length + (dumpL s n p b).length ≤ 1000000 → p.length + 300 * n ≤ 1000000000 →
    Calls Try.prog 28 #[.pointer (some ⟨b, 0, none⟩), .string (St p), .func (.func 29) #[] #[.pointer (some ⟨m, 0, none⟩)]] u fun e w' => e = .returned (.bool true) ∧ EP B m s n p b xs u w' := by
  induction n with
  | zero => intro b p u v xs t _ h; omega
  | succ n IH =>
    intro b p u v xs t ht hrk h hv hD hB hlen hpl
    have hsm := hdp.small b t ht
    have hdl := dumpL_some ht n p
    rw [hdl, List.length_cons] at hlen
    have KV := hide (visit_any h ht hsm hS hm hv hD hB (by omega) p)
    have hmu : m < u.heap.size := hv.lt
    have KR : Hid (∀ w, Below B u w → Calls Try.prog 32 #[.pointer (some ⟨b, 0, none⟩)] w fun e w' => ∃ a c, e = .returned (.slice a t.ns.length c) ∧ OwnS w.heap.size w' a t.ns.length c (t.ns.map (·.1)) ∧ Below w.heap.size w w') := fun w hw => by
      by_cases h2 : t.k = 2
      · exact rising_dir (h.low hS hw) ht h2 hsm.2.1
      · have h0 : t.ns = [] := hsm.2.2.resolve_left h2
        rw [h0]
        exact rising_file (h.low hS hw) ht h2
    have HT := hide (And.intro h (And.intro ht (And.intro hrk (And.intro hB (And.intro hlen (And.intro hpl hdl))))))
    have HDP := hide (And.intro hS (And.intro hm hdp))
    have IH := hide IH
    have hnn := hsm.2.1
    clear h ht hrk hv hD hB hlen hpl hdl hsm hS hm hdp
    generalize hsp : St p = sp at *
    go_enter Try.func28, Try.ntmps28
    go_wp2_with fail
    refine (unhide KV).mono ?_
    rintro e w1 ⟨rfl, v1, a1, c1, hbl, hDL, hbw, hfx⟩
    have HE : Hid (Bl w1 m #[v1] 36 ∧ DL B w1 v1 (xs ++ [⟨p, t, a1, c1⟩]) ∧ Below B u w1 ∧ Fx m u w1) := ⟨hbl, hDL, hbw, hfx⟩
    have KR := hide (KR.out w1 hbw)
    clear KV hbl hDL hbw hfx
    go_wp2_with fail
    refine (unhide KR).mono ?_
    rintro e w2 ⟨an, cn, rfl, ho, hb⟩
    have HI : Hid (∃ v ys, Bl w2 m #[v] 36 ∧ DL B w2 v (xs ++ ys) ∧ ys.map (fun x => (x.p, x.t)) = (p, t) :: (t.ns.take 0).flatMap (fun e => dumpL s n (subP p e.1) e.2) ∧ Below B u w2 ∧ Fx m u w2 ∧ OwnS w1.heap.size w2 an t.ns.length cn (t.ns.map (·.1))) := by
      obtain ⟨e1, e2, e3, e4⟩ := HE.out
      exact ⟨v1, [⟨p, t, a1, c1⟩], e1.call hb, e2.below hb (Nat.le_refl _), rfl, e3.trans (hb.mono (Nat.le_trans HT.out.2.2.2.1 e3.size)), e4.trans (Fx.of hb (Nat.le_refl _)), ho⟩
    have hm1 : m < w1.heap.size := Nat.lt_of_lt_of_le hmu HE.out.2.2.1.size
    clear KR ho hb HE
    generalize hnl : t.ns.length = nl at *
    go_wp2_with fail
    go_loopw [17] (fun iv wr => ∃ k : Nat, k ≤ nl ∧ iv = .int .i64 (k : Int) ∧ Hid (∃ v ys, Bl wr m #[v] 36 ∧ DL B wr v (xs ++ ys) ∧ ys.map (fun x => (x.p, x.t)) = (p, t) :: (t.ns.take k).flatMap (fun e => dumpL s n (subP p e.1) e.2) ∧ Below B u wr ∧ Fx m u wr ∧ OwnS w1.heap.size wr an nl cn (t.ns.map (·.1)))) (fun iv _ => (nl : Int).toNat - (intOf iv).toNat)
    case atStart => exact ⟨0, Nat.zero_le _, rfl, HI⟩
    case round =>
      obtain ⟨k, hk, rfl, hJ⟩ := hrel
      clear HI
      by_cases hlt : k < nl
      · have HQ : Hid (∃ (an0 : Nat) (off : Nat) (mp c : Nat) (x : List UInt8) (v2 : Value) (ys : List Nd), an = some ⟨an0, off, none⟩ ∧ wr.cell? ⟨an0, off + k, none⟩ = some (.string (St x)) ∧
            (∀ w, Below B u w → Hid (Below B u w) ∧ w.cell? ⟨b, 4, none⟩ = some (.map (some mp)) ∧ (Instr.lookup 57 (.map (some mp)) (.string (St x)) false).run Try.prog w = .ok (.pointer (some ⟨c, 0, none⟩)) w) ∧
            (Calls Try.prog 28 #[.pointer (some ⟨c, 0, none⟩), .string (St (subP p x)), .func (.func 29) #[] #[.pointer (some ⟨m, 0, none⟩)]] wr.drew fun e w' => e = .returned (.bool true) ∧ EP B m s n (subP p x) c (xs ++ ys) wr.drew w') ∧
            x.length ≤ 200 ∧ p.length ≤ 1000000000 ∧ Below B u wr ∧
            (∀ w', EP B m s n (subP p x) c (xs ++ ys) wr.drew w' → Below B u w' ∧ ∃ v ys, Bl w' m #[v] 36 ∧ DL B w' v (xs ++ ys) ∧ ys.map (fun x => (x.p, x.t)) = (p, t) :: (t.ns.take (k + 1)).flatMap (fun e => dumpL s n (subP p e.1) e.2) ∧ Below B u w' ∧ Fx m u w' ∧ OwnS w1.heap.size w' an nl cn (t.ns.map (·.1)))) := by
          obtain ⟨h, ht, hrk, hB, hlen, hpl, hdl⟩ := HT.out
          obtain ⟨hS, hm, hdp⟩ := HDP.out
          obtain ⟨v2, ys, q1, q2, q3, q4, q5, q6⟩ := hJ.out
          have hkn : k < t.ns.length := by omega
          have hmem : t.ns[k] ∈ t.ns := List.getElem_mem hkn
          obtain ⟨⟨t', ht'⟩, hx, hrc⟩ := hdp.live b t ht _ hmem
          have h2 : t.k = 2 := (hdp.small b t ht).2.2.resolve_right (fun e => by rw [e] at hkn; simp at hkn)
          obtain ⟨an0, off, ean, hcl⟩ := q6.has.cell hlt
          have hname : (t.ns.map (·.1))[k]?.getD [] = t.ns[k].1 := by rw [List.getElem?_map, List.getElem?_eq_getElem hkn]; rfl
          rw [hname] at hcl
          have htot : t.ns.flatMap (fun e => dumpL s n (subP p e.1) e.2) = (t.ns.take k).flatMap (fun e => dumpL s n (subP p e.1) e.2) ++ (dumpL s n (subP p t.ns[k].1) t.ns[k].2 ++ (t.ns.drop (k + 1)).flatMap (fun e => dumpL s n (subP p e.1) e.2)) := by
            conv => lhs; rw [← List.take_append_drop k t.ns, List.drop_eq_getElem_cons hkn]
            rw [List.flatMap_append, List.flatMap_cons]
          have hyl : ys.length = ((t.ns.take k).flatMap (fun e => dumpL s n (subP p e.1) e.2)).length + 1 := by
            have := congrArg List.length q3
            simpa using this
          have hsl : (subP p t.ns[k].1).length ≤ p.length + 201 := by
            unfold subP
            have := trims_len p
            simp; omega
          have hbd : Below B u wr.drew := bd1 q4
          refine ⟨an0, off, t.mp, t.ns[k].2, t.ns[k].1, v2, ys, ean, hcl, fun w hw => ?_, ?_, hx, by omega, q4, fun w' hE => ?_⟩
          · have hM := h.low hS hw
            refine ⟨hw, hM.dir_map ht h2, ?_⟩
            have := (hM.map b t ht h2).look hx
            rw [look_mem (hM.map b t ht h2).2 hmem] at this
            exact this
          · refine IH t.ns[k].2 (subP p t.ns[k].1) wr.drew v2 (xs ++ ys) t' ht' (by omega) (h.low hS hbd) q1 (q2.kept (fun _ _ _ _ _ _ => rfl)) (Nat.le_trans hB q4.size) ?_ (by omega)
            have h3 := congrArg List.length htot
            rw [List.length_append, List.length_append] at h3
            rw [List.length_append]
            omega
          · obtain ⟨v3, ys3, r1, r2, r3, r4, r5⟩ := hE
            have hbw : Below B u w' := q4.trans ⟨r4.os, r4.tape, r4.output, r4.size, r4.block⟩
            refine ⟨hbw, v3, ys ++ ys3, r1, by rw [← List.append_assoc]; exact r2, ?_, hbw, q5.trans r5, q6.kept (fun g e => ?_)⟩
            · rw [List.map_append, q3, r3, List.take_add_one, List.getElem?_eq_getElem hkn, List.flatMap_append]
              simp
            · obtain ⟨hlt1, hlo⟩ := q6.lt e
              obtain ⟨_, _, _, q64⟩ := q6
              rcases q64 with ⟨e0, _⟩ | ⟨g', cur, e', _, hh, _⟩
              · rw [e0] at e; cases e
              · rw [e] at e'
                cases e'
                exact r5 g cur 9 hh (by decide) (by omega)
        obtain ⟨an0, off, mp, c, x, v2, ys, rfl, hcl, hKB, hKE, hx, hpl, hbu, hfin⟩ := HQ.out
        have KB := hide hKB
        have KE := hide hKE
        have KT : Hid (∀ w, Calls Try.prog 38 #[.string sp, .string ⟨#[47]⟩] w fun e w' => e = .returned (.string (St (Lib.trimSuffix p [47]))) ∧ w' = w) := fun w => by rw [← hsp]; exact trims_any p w (by omega)
        have ha1 := St_app47 (Lib.trimSuffix p [47])
        have hz1 : ¬ 9223372036854775807 < (St (Lib.trimSuffix p [47])).size + 1 := by rw [St_size]; have := trims_len p; omega
        have ha2 : St (Lib.trimSuffix p [47] ++ [47]) ++ St x = St (subP p x) := St_app _ _
        have hz2 : ¬ 9223372036854775807 < (St (Lib.trimSuffix p [47] ++ [47])).size + (St x).size := by rw [St_size, St_size]; have := trims_len p; simp; omega
        have J := hKB wr.drew (bd1 hbu)
        have HF := hide hfin
        have hlt' : (k : Int) < (nl : Int) := by omega
        clear hKB hKE hfin hbu HQ hJ HT HDP IH
        generalize subP p x = pq at *
        generalize St (Lib.trimSuffix p [47]) = st at *
        generalize St (Lib.trimSuffix p [47] ++ [47]) = s1 at *
        generalize St pq = sq at *
        generalize St x = sx at *
        go_upto_region 6 with fail
        go_region_held3 (fun w => Hid (Below B u w) ∧ w.cell? ⟨b, 4, none⟩ = some (.map (some mp)) ∧ (Instr.lookup 57 (.map (some mp)) (.string sx) false).run Try.prog w = .ok (.pointer (some ⟨c, 0, none⟩)) w)
          (with_reducible (first | exact J | exact unhide KB _ (unhide B1)))
          (first
            | (go_at_call 38; refine (unhide KT _).mono ?_; rintro e w' ⟨rfl, rfl⟩)
            | (go_at_call 28; refine (unhide KE).mono ?_; rintro e w3 ⟨rfl, hE⟩
               have HG := hide (unhide HF w3 hE)
               have B1 := hide (unhide HF w3 hE).1
               clear hE))
        all_goals
          clear J KB KE KT HF B1
          go_wp2_with fail
          go_roundw
          case rel => exact ⟨k + 1, by omega, by go_num, HG.out.2⟩
          case measure => simp [intOf]; omega
      · obtain rfl : k = nl := by omega
        have HR : Hid (EP B m s (n + 1) p b xs u wr) := by
          obtain ⟨v2, ys, q1, q2, q3, q4, q5, _⟩ := hJ.out
          rw [List.take_of_length_le (by omega)] at q3
          exact ⟨v2, ys, q1, q2, by rw [q3, HT.out.2.2.2.2.2.2], q4, q5⟩
        clear hJ HT HDP IH
        go_wp2_with fail
        go_ret
        exact ⟨rfl, HR.out⟩

end Go.Proofs.Ytknmgefpjdfenaa
