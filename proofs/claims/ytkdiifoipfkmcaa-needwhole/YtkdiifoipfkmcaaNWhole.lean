/- The walk of NeedWhole. -/
import Derived.Test.YtkdiifoipfkmcaaNTree
import Derived.Test.YtkdiifoipfkmcaaNRTree
import Derived.Test.YtkdiifoipfkmcaaNWakes
import Derived.Test.YtkdiifoipfkmcaaNMoreM
import Derived.Test.YtkdiifoipfkmcaaGInts
import Derived.Deep.RegionLaw
namespace Go.Proofs.Ytkdiifoipfkmcaa
open Go.RowKit Go.Shelf Ieee
set_option linter.unusedVariables false
set_option maxRecDepth 100000

/-- append by its run, in a region that draws its order. -/
theorem step_append_run {w w' : World} {ops : Array Oper} {o : Oper} {a : Act} {K' : Act → World → Prop} {Q : Exit → Act → World → Prop} {E : Prop} (hw : Region.wanted o (yielded ops a.tmps) = true) (d s : Operand) (t : TypeId)
    (ho : o.op = .call { callee := .builtin .append, args := #[d, s], argTypes := #[t, t] }) (v x v' : Value) (hd : a.eval d = v) (hs : a.eval s = x)
    (hrun : ∀ ty, (Builtin.append_ #[t, t] ty #[v, x]).run Try.prog w = .ok v' w')
    (h : K' (a.put o.dst v') w') : if Region.wanted o (yielded ops a.tmps) = true then Oper.wp Try.prog o a w K' Q else E := by
  rw [if_pos hw]
  have hr := hrun o.type
  unfold Oper.wp
  simp [execOp, ho, resolve, invoke, builtin, hd, hs, hr, Result.andThen]
  exact h

/-- append of a slice of numbers to an empty row. -/
theorem step_app1 {w : World} {ops : Array Oper} {o : Oper} {a : Act} {K' : Act → World → Prop} {Q : Exit → Act → World → Prop} {E : Prop} (hw : Region.wanted o (yielded ops a.tmps) = true) (d s : Operand)
    (ho : o.op = .call { callee := .builtin .append, args := #[d, s], argTypes := #[24, 24] }) (g n c : Nat) (b : Option Addr) (ns : List Int) (hd : a.eval d = .slice (some ⟨g, 0, none⟩) 0 0) (hs : a.eval s = .slice b n c)
    (hg : w.heap[g]? = some (.cells #[] 3 (0, 0))) (h : IHas w b n ns) (hn : n ≤ 17592186043904)
    (K : ∀ v' w', w'.ownsRow g 3 1 v' n (ns.map (Value.int .i64)) → Below g w w' → (∀ k, k < w.heap.size → k ≠ g → w'.heap[k]? = w.heap[k]?) → K' (a.put o.dst v') w') : if Region.wanted o (yielded ops a.tmps) = true then Oper.wp Try.prog o a w K' Q else E := by
  obtain ⟨i0, hi, hz0, hz1, hz2⟩ := info_parts info3
  have hlt : g < w.heap.size := (Array.getElem?_eq_some_iff.1 hg).1
  have hown : w.ownsRow g 3 1 (.slice (some ⟨g, 0, none⟩) 0 0) 0 [] :=
    ⟨rfl, .inr ⟨g, 0, #[], rfl, Nat.le_refl _, hg, Nat.le_refl _, by unfold maxLen; omega, rfl, rfl⟩⟩
  by_cases h0 : n = 0
  · subst h0
    obtain rfl : ns = [] := List.eq_nil_of_length_eq_zero h.1
    refine step_append_run hw d s _ ho _ _ (.slice (some ⟨g, 0, none⟩) 0 0) hd hs (w' := w) (fun ty => ?_) (K _ _ hown (Below.refl _ _) (fun _ _ _ => rfl))
    cases b <;> simp [Builtin.append_, run_underlying Try.underlying24, sizeOf, typeInfo, hi, Builtin.lenOf, Builtin.firstCells, storeCells, loadCells, loadCellsFrom]
  · obtain ⟨b, off, rfl, hc⟩ := h.2 (by omega)
    have hl := h.1
    have hnews : ∀ (j : Nat) (u : Value), (ns.map (Value.int .i64))[j]? = some u → w.cell? ((⟨b, off, none⟩ : Addr).add j) = some u := by
      intro j u hj
      have hjl : j < n := by have := (List.getElem?_eq_some_iff.1 hj).1; simp at this; omega
      rw [World.add_zero_spot, hc j hjl]
      rw [List.getElem?_map, List.getElem?_eq_getElem (by omega)] at hj
      rw [List.getElem?_eq_getElem (by omega)]
      simpa using hj
    obtain ⟨v', w', hr, ho', hg', _⟩ := run_append_own (P := Try.prog) w g 24 0 3 i0 (.int .i64 0) 1 8 Try.underlying24 hi hz0 hz1 hz2 rfl (by decide) (.slice (some ⟨g, 0, none⟩) 0 0) 0 [] hown ⟨b, off, none⟩ n c (ns.map (Value.int .i64)) (by simp [hl]) hnews (oneCell_ints ns) (by unfold maxLen; omega) (by omega) (by omega)
    rw [Nat.zero_add, List.nil_append] at ho'
    refine step_append_run hw d s _ ho _ _ v' hd hs (w' := w') (fun ty => hr) (K _ _ ho' ?_ (fun k hk hne => hg'.block k hk (fun e => by simp [Value.ownBlock] at e; omega)))
    exact (Below.refl _ _).grown hg' (by omega) (fun k e => by simp [Value.ownBlock] at e; omega)

/-- append of one number to a row of the call's own. -/
theorem step_app2 {w : World} {ops : Array Oper} {o : Oper} {a : Act} {K' : Act → World → Prop} {Q : Exit → Act → World → Prop} {E : Prop} (hw : Region.wanted o (yielded ops a.tmps) = true) (d s : Operand)
    (ho : o.op = .call { callee := .builtin .append, args := #[d, s], argTypes := #[24, 24] }) (B g n : Nat) (v : Value) (z : Int) (ns : List Int) (hd : a.eval d = v) (hs : a.eval s = .slice (some ⟨g, 0, none⟩) 1 1)
    (hown : w.ownsRow B 3 1 v n (ns.map (Value.int .i64))) (hB : B ≤ w.heap.size) (hz : w.cell? ⟨g, 0, none⟩ = some (.int .i64 z)) (hn : n ≤ 17592186043904)
    (K : ∀ a' c' w', IHas w' a' (n + 1) (ns ++ [z]) → Below B w w' → K' (a.put o.dst (.slice a' (n + 1) c')) w') : if Region.wanted o (yielded ops a.tmps) = true then Oper.wp Try.prog o a w K' Q else E := by
  obtain ⟨i0, hi, hz0, hz1, hz2⟩ := info_parts info3
  have hnews : ∀ (j : Nat) (u : Value), [Value.int .i64 z][j]? = some u → w.cell? ((⟨g, 0, none⟩ : Addr).add j) = some u := by
    intro j u hj
    obtain rfl : j = 0 := by
      have := (List.getElem?_eq_some_iff.1 hj).1
      simp at this
      exact this
    simp at hj
    subst hj
    rw [World.add_zero_spot]
    exact hz
  obtain ⟨v', w', hr, ho', hg', _⟩ := run_append_own (P := Try.prog) w B 24 0 3 i0 (.int .i64 0) 1 8 Try.underlying24 hi hz0 hz1 hz2 rfl (by decide) v n (ns.map (Value.int .i64)) hown ⟨g, 0, none⟩ 1 1 [.int .i64 z] (by simp) hnews (by simp [Value.oneCell']) (by unfold maxLen; omega) (by omega) hB
  have e : ns.map (Value.int .i64) ++ [.int .i64 z] = (ns ++ [z]).map (Value.int .i64) := by simp
  rw [e] at ho'
  obtain ⟨a', c', rfl, hI⟩ := ihas_of_row ho'
  refine step_append_run hw d s _ ho _ _ _ hd hs (w' := w') (fun ty => hr) (K _ _ _ hI ?_)
  refine (Below.refl _ _).grown hg' hB ?_
  intro k hk
  rcases hown.2 with ⟨rfl, _⟩ | ⟨g', cap, cur, rfl, hg2, _⟩
  · simp [Value.ownBlock] at hk
  · simp [Value.ownBlock] at hk
    omega

theorem own_lat {B n : Nat} {u u' : World} {v : Value} {xs : List Value} (h : u.ownsRow B 3 1 v n xs) (hb : Below u.heap.size u u') : u'.ownsRow B 3 1 v n xs := by
  obtain ⟨h1, h2⟩ := h
  refine ⟨h1, ?_⟩
  rcases h2 with h2 | ⟨g, cap, cur, e, hg, hh, k1, k2, k3, k4⟩
  · exact .inl h2
  · exact .inr ⟨g, cap, cur, e, hg, (hb.block g (Array.getElem?_eq_some_iff.1 hh).1).trans hh, k1, k2, k3, k4⟩

theorem cell_of_heap {u : World} {g : Nat} {z : Value} {t : TypeId} (h : u.heap[g]? = some (.cells #[z] t (0, 0))) : u.cell? ⟨g, 0, none⟩ = some z := by
  simp [World.cell?, h]

theorem own_bas {B g n : Nat} {u : World} {v : Value} {xs : List Value} (hB : B ≤ g) (h : u.ownsRow g 3 1 v n xs) : u.ownsRow B 3 1 v n xs := by
  obtain ⟨h1, h2⟩ := h
  refine ⟨h1, ?_⟩
  rcases h2 with h2 | ⟨g', cap, cur, e, hg, r⟩
  · exact .inl h2
  · exact .inr ⟨g', cap, cur, e, by omega, r⟩

theorem heap_two (u : World) (z : Int) : ((u.alloc (.cells #[] 3)).alloc (.cells #[.int .i64 z] 3)).heap[u.heap.size + 1]? = some (.cells #[.int .i64 z] 3 (0, 0)) := by
  have := heap_alloc_new (u.alloc (.cells #[] 3)) (.cells #[.int .i64 z] 3)
  simpa using this

theorem heap_three (u : World) (z : Int) : ((u.alloc (.cells #[.int .i64 z] 3)).alloc (.cells #[] 3)).heap[u.heap.size]? = some (.cells #[.int .i64 z] 3 (0, 0)) :=
  (Below.heap_alloc (u.alloc _) _ u.heap.size (by simp)).trans (heap_alloc_new u _)

theorem heap_one (u : World) (z : Int) : ((u.alloc (.cells #[.int .i64 z] 3)).alloc (.cells #[] 3)).heap[u.heap.size + 1]? = some (.cells #[] 3 (0, 0)) := by
  have := heap_alloc_new (u.alloc (.cells #[.int .i64 z] 3)) (.cells #[] 3)
  simpa using this

theorem ahas_two {u : World} {b x1 y1 x2 y2 : Nat} {B1 I1 B2 I2 : Int} (h1 : Rd x1 B1) (h2 : Rd y1 I1) (h3 : Rd x2 B2) (h4 : Rd y2 I2) (k1 : inA B1) (k2 : inA I1) (k3 : inA B2) (k4 : inA I2)
    (c1 : u.cell? ⟨b, 0, none⟩ = some (.complex .f64 x1 y1)) (c2 : u.cell? ⟨b, 0 + 1, none⟩ = some (.complex .f64 x2 y2)) : AHas u (some ⟨b, 0, none⟩) 2 [(x1, y1, B1, I1), (x2, y2, B2, I2)] := by
  refine ⟨rfl, ?_, fun _ => ⟨b, 0, rfl, ?_⟩⟩
  · intro p hp
    simp only [List.mem_cons, List.not_mem_nil, or_false] at hp
    rcases hp with rfl | rfl
    · exact ⟨h1, h2, k1, k2⟩
    · exact ⟨h3, h4, k3, k4⟩
  · intro j p hj
    match j with
    | 0 => simp at hj; subst hj; exact c1
    | 1 => simp at hj; subst hj; exact c2
    | j + 2 => simp at hj

set_option maxHeartbeats 4000000 in
theorem whole_walk (P : Nat → Int) (z : Int) (a1 a2 : Option Addr) (l1 c1 l2 c2 : Nat) (F D : List Int) (w : World) (h1 : IHas w a1 l1 F) (h2 : IHas w a2 l2 D) (hl1 : l1 ≤ 17592186043904) (hl2 : l2 ≤ 17592186043904) :
    Calls Try.prog 5 #[Pv P, .slice a1 l1 c1, .slice a2 l2 c2, .int .i64 z] w fun e w' => e = .returned (.bool true) ∧ Below w.heap.size w w' := by
  have HK := hide (Kp.start w P)
  have HF := hide h1
  have HD := hide h2
  have HT := hide (fun w1 hb => tree_any P a1 a2 l1 c1 l2 c2 F D w1 (h1.later hb) (h2.later hb) (by omega) (by omega))
  have H1 := hide (file_any P z)
  have H2 := hide (fun w1 a c hb hi => tree_any P a a2 (l1 + 1) c l2 c2 (F ++ [z]) D w1 hi (h2.later hb) (by omega) (by omega))
  clear h1 h2
  go_enter Try.func5, Try.ntmps5
  go_wp2_with fail
  go_at_call 6
  refine (wakes_any _).mono ?_
  rintro r w0 ⟨rfl, rfl⟩
  obtain ⟨f0, f1, f2, f3, f4, f5, f6, f7, f8, f9, f10, f11⟩ := (unhide HK).cells
  go_wp2_with fail
  go_at_call 13
  refine (unhide HT _ (unhide HK).2).mono ?_
  rintro r w1 ⟨⟨x1, y1, rfl, hx, hy⟩, hb⟩
  have R1 := hide (And.intro hx hy)
  replace HK := hide ((unhide HK).call hb)
  clear hx hy hb HT f0 f1 f2 f3 f4 f5 f6 f7 f8 f9 f10 f11
  obtain ⟨f0, f1, f2, f3, f4, f5, f6, f7, f8, f9, f10, f11⟩ := (unhide HK).cells
  go_wp2_with fail
  go_at_call 7
  refine (unhide H1 _).mono ?_
  rintro r w2 ⟨⟨x2, y2, rfl, hx, hy⟩, hb⟩
  have R2 := hide (And.intro hx hy)
  replace HK := hide ((unhide HK).call hb)
  clear hx hy hb H1 f0 f1 f2 f3 f4 f5 f6 f7 f8 f9 f10 f11
  obtain ⟨f0, f1, f2, f3, f4, f5, f6, f7, f8, f9, f10, f11⟩ := (unhide HK).cells
  go_wp2
  have HI := hide ((unhide HF).later (unhide HK).2)
  have HM := hide (tr_more P F D z)
  have HB := hide (flB_bd (P := P) (n := z))
  generalize trE P F D = E1 at *
  generalize whE P z = E2 at *
  generalize trB P F D = B1 at *
  generalize trI P F D = I1 at *
  generalize flB P z = B2 at *
  generalize flI P z = I2 at *
  generalize trE P (F ++ [z]) D = E3 at *
  generalize trB P (F ++ [z]) D = B3 at *
  generalize trI P (F ++ [z]) D = I3 at *
  go_cut [13, 14] (fun v e wx => ∃ x y, v = .complex .f64 x y ∧ e = .int .i64 E3 ∧ Hid (Rd x B3 ∧ Rd y I3) ∧ Hid (Kp w P wx))
  case first =>
    obtain ⟨ga0, ga1, ga2, ga3, ga4, ga5, ga6, ga7, ga8, ga9, ga10, ga11⟩ := ((unhide HK).alloc (.cells #[] 3)).cells
    obtain ⟨gb0, gb1, gb2, gb3, gb4, gb5, gb6, gb7, gb8, gb9, gb10, gb11⟩ := ((unhide HK).alloc (.cells #[.int .i64 z] 3)).cells
    obtain ⟨gc0, gc1, gc2, gc3, gc4, gc5, gc6, gc7, gc8, gc9, gc10, gc11⟩ := (((unhide HK).alloc (.cells #[] 3)).alloc (.cells #[.int .i64 z] 3)).cells
    obtain ⟨gd0, gd1, gd2, gd3, gd4, gd5, gd6, gd7, gd8, gd9, gd10, gd11⟩ := (((unhide HK).alloc (.cells #[.int .i64 z] 3)).alloc (.cells #[] 3)).cells
    go_region_law (first
      | (refine step_app1 (by rfl) _ _ (by rfl) _ _ _ _ F (by rfl) (by rfl) (by first | exact heap_alloc_new w2 _ | exact (Below.heap_alloc (w2.alloc _) _ w2.heap.size (by simp)).trans (heap_alloc_new w2 _) | exact heap_one w2 z) (by first | exact (unhide HI).later ((Below.refl _ _).alloc (Nat.le_refl _) _).drew | exact (unhide HI).later (((Below.refl _ _).alloc (Nat.le_refl _) _).alloc (by simp) _).drew) hl1 ?_; intro v1 u1 o1 q1 n1; have O1 := hide (own_bas (B := w2.heap.size) (by first | exact Nat.le_refl _ | omega) o1); (first | have Q1 : Hid (Below w2.heap.size w2 u1) := hide ((((Below.refl _ _).alloc (Nat.le_refl _) _).drew).trans (q1.mono (by first | exact Nat.le_refl _ | omega))) | have Q1 : Hid (Below w2.heap.size w2 u1) := hide (((((Below.refl _ _).alloc (Nat.le_refl _) _).alloc (by simp) _).drew).trans (q1.mono (by first | exact Nat.le_refl _ | omega)))); (first | have Z1 : u1.heap[w2.heap.size + 1]? = some (.cells #[.int .i64 z] 3 (0, 0)) := (n1 _ (by simp) (by simp)).trans (heap_two w2 z) | have Z1 : u1.heap[w2.heap.size]? = some (.cells #[.int .i64 z] 3 (0, 0)) := (n1 _ (by simp; omega) (by simp)).trans (heap_three w2 z) | skip); clear o1 q1 n1; obtain ⟨ge0, ge1, ge2, ge3, ge4, ge5, ge6, ge7, ge8, ge9, ge10, ge11⟩ := ((unhide HK).call (unhide Q1)).cells; obtain ⟨gf0, gf1, gf2, gf3, gf4, gf5, gf6, gf7, gf8, gf9, gf10, gf11⟩ := (((unhide HK).call (unhide Q1)).alloc (.cells #[.int .i64 z] 3)).cells)
      | (refine step_app2 (by rfl) _ _ (by rfl) w2.heap.size _ l1 _ z F (by rfl) (by rfl) (by first | exact own_lat (unhide O1) ((Below.refl _ _).alloc (Nat.le_refl _) _) | exact own_lat (unhide O1) ((Below.refl _ _).alloc (Nat.le_refl _) _).drew) (by have := (unhide Q1).size; simp; omega) (cell_of_heap (heap_alloc_new u1 _)) hl1 ?_; intro a3 c3 u3 i3 q3; have I3 := hide i3; have Q3 : Hid (Below w2.heap.size w2 u3) := (by first | exact hide (((unhide Q1).alloc (unhide Q1).size _).trans q3) | exact hide (((unhide Q1).alloc (unhide Q1).size _).drew.trans q3)); clear i3 q3 O1 Q1; obtain ⟨gg0, gg1, gg2, gg3, gg4, gg5, gg6, gg7, gg8, gg9, gg10, gg11⟩ := ((unhide HK).call (unhide Q3)).cells)
      | (refine step_app2 (by rfl) _ _ (by rfl) w2.heap.size _ l1 _ z F (by rfl) (by rfl) (unhide O1) (unhide Q1).size (cell_of_heap Z1) hl1 ?_; intro a3 c3 u3 i3 q3; have I3 := hide i3; have Q3 : Hid (Below w2.heap.size w2 u3) := (by first | exact hide ((unhide Q1).trans q3) | exact hide ((unhide Q1).drew.trans q3)); clear i3 q3 O1 Q1 Z1; obtain ⟨gg0, gg1, gg2, gg3, gg4, gg5, gg6, gg7, gg8, gg9, gg10, gg11⟩ := ((unhide HK).call (unhide Q3)).cells)
      | (go_simp; go_at_call 13; (first | refine (unhide H2 _ _ _ ((unhide HK).2.trans ((unhide Q3).mono (unhide HK).2.size)) (unhide I3)).mono ?_ | refine (unhide H2 _ _ _ ((unhide HK).2.trans ((unhide Q3).mono (unhide HK).2.size)).drew (unhide I3)).mono ?_); rintro r u4 ⟨⟨x3, y3, rfl, hx, hy⟩, hb⟩; have R3 := hide (And.intro hx hy); have K4 : Hid (Kp w P u4) := (by first | exact hide (((unhide HK).call (unhide Q3)).call hb) | exact hide (((unhide HK).call (unhide Q3)).drew.call hb)); clear hx hy hb))
    all_goals
      go_wp2_with fail
      go_meet
      exact ⟨_, _, rfl, rfl, R3, K4⟩
  case rest =>
    obtain ⟨x3, y3, rfl, rfl, R3, K4⟩ := hcut
    clear HF HD HI HK H2 f0 f1 f2 f3 f4 f5 f6 f7 f8 f9 f10 f11
    by_cases hE : E1 ≠ 0 ∨ E2 ≠ 0
    · obtain ⟨g1, g2, g3⟩ := (unhide HM).1 hE
      have o1 : FloatKind.f64.format.order x3 0 = some .eq := order_at (unhide R3).1 rd_zero (by rw [g2]; exact cmp_eq _)
      have o2 : FloatKind.f64.format.order y3 0 = some .eq := order_at (unhide R3).2 rd_zero (by rw [g3]; exact cmp_eq _)
      clear g2 g3 HM HB R1 R2 R3
      by_cases h1 : E1 = 0
      · have h2 : E2 ≠ 0 := hE.elim (fun h => absurd h1 h) id
        rw [h1]
        clear hE h1
        go_wp2
        go_ret
        exact ⟨by simp [g1], (unhide K4).2⟩
      · clear hE
        go_wp2
        go_ret
        exact ⟨by simp [g1], (unhide K4).2⟩
    · have h1 : E1 = 0 := by omega
      have h2 : E2 = 0 := by omega
      obtain ⟨i1, i2, g1, g2, g3⟩ := (unhide HM).2 h1 h2
      have hb := unhide HB
      rw [h1, h2]
      have HA := hide (fun (u : World) (b : Nat) (c1 : u.cell? ⟨b, 0, none⟩ = some (.complex .f64 x1 y1)) (c2 : u.cell? ⟨b, 0 + 1, none⟩ = some (.complex .f64 x2 y2)) => ahas_two (unhide R1).1 (unhide R1).2 (unhide R2).1 (unhide R2).2 i1 i2 ⟨by omega, by omega⟩ ⟨by omega, by omega⟩ c1 c2)
      clear hE h1 h2 HM HB hb i1 i2
      have e1 : lb [(x1, y1, B1, I1), (x2, y2, B2, I2)] = B1 + B2 := by simp [lb]
      have e2 : li [(x1, y1, B1, I1), (x2, y2, B2, I2)] = I1 + I2 := by simp [li]
      have HS := hide (fun (u : World) (b c : Nat) h => nsum_any (some ⟨b, 0, none⟩) 2 c [(x1, y1, B1, I1), (x2, y2, B2, I2)] u h (by omega))
      have HE := hide (And.intro e1 e2)
      clear e1 e2 R1 R2
      go_wp2_with fail
      go_at_call 16
      refine (unhide HS _ _ _ (unhide HA _ _ (by simp [go_sem]) (by simp [go_sem]))).mono ?_
      rintro r u5 ⟨⟨p, q, rfl, hp, hq⟩, rfl⟩
      rw [(unhide HE).1, (unhide HE).2] at hp hq
      rw [(unhide HE).1, (unhide HE).2]
      have K5 := hide (((unhide K4).alloc (.cells #[.complex .f64 x1 y1, .complex .f64 x2 y2] 26)).2)
      clear HS HA HE
      unfold toE at *
      unfold toB at *
      unfold toI at *
      by_cases ho : okA (B1 + B2) (I1 + I2) = true
      · rw [if_pos ho] at g1 g2 g3 hp hq
        rw [if_pos ho]
        have o1 : FloatKind.f64.format.order x3 p = some .eq := order_at (unhide R3).1 hp (by rw [g2]; exact cmp_eq _)
        have o2 : FloatKind.f64.format.order y3 q = some .eq := order_at (unhide R3).2 hq (by rw [g3]; exact cmp_eq _)
        rw [g1]
        clear g1 g2 g3 hp hq R3 ho
        go_wp2
        go_ret
        exact ⟨by simp, unhide K5⟩
      · rw [if_neg ho] at g1 g2 g3 hp hq
        rw [if_neg ho]
        have o1 : FloatKind.f64.format.order x3 0 = some .eq := order_at (unhide R3).1 rd_zero (by rw [g2]; exact cmp_eq _)
        have o2 : FloatKind.f64.format.order y3 0 = some .eq := order_at (unhide R3).2 rd_zero (by rw [g3]; exact cmp_eq _)
        rw [g1]
        clear g1 g2 g3 hp hq R3 ho
        go_wp2
        go_ret
        exact ⟨by simp, unhide K5⟩

end Go.Proofs.Ytkdiifoipfkmcaa
