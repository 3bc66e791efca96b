/- The document's Tree: it makes a list of amounts, and sums them up. -/
import Derived.Test.YtkdiifoipfkmcaaNSum
import Derived.Test.YtkdiifoipfkmcaaNRDir
import Derived.Test.YtkdiifoipfkmcaaGApp
namespace Go.Proofs.Ytkdiifoipfkmcaa
open Go.RowKit Go.Shelf Ieee
set_option linter.unusedVariables false
set_option maxRecDepth 100000

theorem info_cx : (Try.prog.info? 26).map (fun i => (i.zero, i.size, i.bytes)) = some (some (.complex .f64 0 0), 1, 16) := by kernel_rfl

/-- A row of amounts of the call's own. -/
def LA (B : Nat) (u : World) (v : Value) (L : List (Nat × Nat × Int × Int)) : Prop := u.ownsRow B 26 1 v L.length (L.map itV) ∧ ∀ p ∈ L, itOk p

theorem LA.later {B : Nat} {u u' : World} {v : Value} {L : List (Nat × Nat × Int × Int)} (h : LA B u v L) (hb : Below u.heap.size u u') : LA B u' v L := by
  obtain ⟨⟨h1, h2⟩, h3⟩ := h
  refine ⟨⟨h1, ?_⟩, h3⟩
  rcases h2 with h2 | ⟨g, cap, cur, e, hg, hh, k1, k2, k3, k4⟩
  · exact .inl h2
  · exact .inr ⟨g, cap, cur, e, hg, (hb.block g (Array.getElem?_eq_some_iff.1 hh).1).trans hh, k1, k2, k3, k4⟩

theorem LA.nil (B : Nat) (u : World) : LA B u (.slice none 0 0) [] := ⟨⟨rfl, .inl ⟨rfl, rfl⟩⟩, fun p hp => by simp at hp⟩

theorem LA.app {B : Nat} {u : World} {v : Value} {L : List (Nat × Nat × Int × Int)} (h : LA B u v L) (hB : B ≤ u.heap.size) (p : Nat × Nat × Int × Int) (hp : itOk p) (hn : L.length ≤ 2097152) :
    ∃ v' w', (∀ ty, (Builtin.append_ #[38, 38] ty #[v, .slice (some ⟨u.heap.size, 0, none⟩) 1 1]).run Try.prog (u.alloc (.cells #[.complex .f64 p.1 p.2.1] 26)) = .ok v' w') ∧ LA B w' v' (L ++ [p]) ∧ Below B u w' := by
  obtain ⟨i0, hi, hz0, hz1, hz2⟩ := info_parts info_cx
  have hb0 : Below u.heap.size u (u.alloc (.cells #[.complex .f64 p.1 p.2.1] 26)) := (Below.refl _ u).alloc (Nat.le_refl _) _
  have h' := h.later hb0
  have hnews : ∀ (j : Nat) (x : Value), [itV p][j]? = some x → (u.alloc (.cells #[.complex .f64 p.1 p.2.1] 26)).cell? ((⟨u.heap.size, 0, none⟩ : Addr).add j) = some x := by
    intro j x hj
    have h0 : j = 0 := by
      have := (List.getElem?_eq_some_iff.1 hj).1
      simp at this
      exact this
    subst h0
    simp at hj
    subst hj
    rw [World.add_zero_spot]
    simp [go_sem, itV]
  obtain ⟨v', w', hr, ho, hg, _⟩ := run_append_own (P := Try.prog) (u.alloc (.cells #[.complex .f64 p.1 p.2.1] 26)) B 38 0 26 i0 (.complex .f64 0 0) 1 16 (by kernel_rfl) hi hz0 hz1 hz2 rfl (by decide) v L.length (L.map itV) h'.1 ⟨u.heap.size, 0, none⟩ 1 1 [itV p] (by simp) hnews (by simp [itV, Value.oneCell']) (by unfold maxLen; omega) (by omega) (by simp; omega)
  refine ⟨v', w', fun ty => hr, ⟨?_, ?_⟩, ?_⟩
  · have e : (L ++ [p]).map itV = L.map itV ++ [itV p] := by simp
    have e2 : (L ++ [p]).length = L.length + 1 := by simp
    rw [e, e2]
    exact ho
  · intro q hq
    simp at hq
    rcases hq with hq | rfl
    · exact h.2 q hq
    · exact hp
  · refine Below.grown ((hb0.mono hB)) hg (by simp; omega) ?_
    intro k hk
    rcases h.1.2 with ⟨rfl, _⟩ | ⟨g, cap, cur, rfl, hg2, _⟩
    · simp [Value.ownBlock] at hk
    · simp [Value.ownBlock] at hk
      omega

theorem LA.has {B : Nat} {u : World} {v : Value} {L : List (Nat × Nat × Int × Int)} (h : LA B u v L) : ∃ a c, v = .slice a L.length c ∧ AHas u a L.length L := by
  obtain ⟨⟨h1, h2⟩, h3⟩ := h
  rcases h2 with ⟨rfl, h0⟩ | ⟨g, cap, cur, rfl, hg, hh, k1, k2, k3, k4⟩
  · refine ⟨none, 0, by rw [h0], rfl, h3, fun hp => by omega⟩
  · refine ⟨_, cap, rfl, rfl, h3, fun hp => ⟨g, 0, rfl, fun j p hj => ?_⟩⟩
    have hjl := (List.getElem?_eq_some_iff.1 hj).1
    rw [Nat.zero_add]
    rw [Nat.mul_one] at k4
    have hx : (cur.toList.take L.length)[j]? = some (itV p) := by rw [k4, List.getElem?_map, hj]; rfl
    rw [List.getElem?_take_of_lt hjl] at hx
    simp only [World.cell?, hh]
    simpa using hx

theorem lb_app (L : List (Nat × Nat × Int × Int)) (p : Nat × Nat × Int × Int) : lb (L ++ [p]) = lb L + p.2.2.1 ∧ li (L ++ [p]) = li L + p.2.2.2 := by
  unfold lb li
  simp

/-- In the loop over the files. -/
def RT1 (w : World) (P : Nat → Int) (F : List Int) (k : Nat) (v : Value) (u : World) : Prop := Kp w P u ∧ allOk (whE P) F k ∧ ∃ L, LA (w.heap.size + 1) u v L ∧ L.length = k ∧ lb L = pre (flB P) F k ∧ li L = pre (flI P) F k

/-- In the loop over the directories. -/
def RT2 (w : World) (P : Nat → Int) (F D : List Int) (k : Nat) (v : Value) (u : World) : Prop := Kp w P u ∧ allOk (whE P) F F.length ∧ allOk (drE P) D k ∧ ∃ L, LA (w.heap.size + 1) u v L ∧ L.length = F.length + k ∧ lb L = (F.map (flB P)).sum + pre (drB P) D k ∧ li L = (F.map (flI P)).sum + pre (drI P) D k

theorem Kp.grow {w u u' : World} {P : Nat → Int} (h : Kp w P u) (hb : Below (w.heap.size + 1) u u') : Kp w P u' :=
  ⟨h.1.below hb (by omega), h.2.trans (hb.mono (by omega))⟩

theorem RT1.next {w : World} {P : Nat → Int} {F : List Int} {k x y : Nat} {v : Value} {s s' : World} (h : RT1 w P F k v s) (hk : k < F.length) (hF : F.length ≤ 1048576) (hb : Below s.heap.size s s') (hE : whE P (F[k]?.getD 0) = 0) (hx : Rd x (flB P (F[k]?.getD 0))) (hy : Rd y (flI P (F[k]?.getD 0))) :
    ∃ v' w', (∀ ty, (Builtin.append_ #[38, 38] ty #[v, .slice (some ⟨s'.heap.size, 0, none⟩) 1 1]).run Try.prog (s'.alloc (.cells #[.complex .f64 x y] 26)) = .ok v' w') ∧ RT1 w P F (k + 1) v' w' := by
  obtain ⟨h1, h2, L, h3, h4, h5, h6⟩ := h
  have hd := flB_bd (P := P) (n := F[k]?.getD 0)
  have hK := h1.call hb
  have hsz : w.heap.size + 1 ≤ s'.heap.size := by have := hK.1.lt; omega
  obtain ⟨v', w', hr, hL, hB⟩ := (h3.later hb).app hsz (x, y, flB P (F[k]?.getD 0), flI P (F[k]?.getD 0)) ⟨hx, hy, show inA (flB P _) from ⟨by omega, by omega⟩, show inA (flI P _) from ⟨by omega, by omega⟩⟩ (by omega)
  refine ⟨v', w', hr, hK.grow hB, allOk_next h2 hE, L ++ [_], hL, by simp; omega, ?_, ?_⟩
  · rw [(lb_app _ _).1, pre_next _ _ _ hk, h5]
  · rw [(lb_app _ _).2, pre_next _ _ _ hk, h6]

theorem RT2.next {w : World} {P : Nat → Int} {F D : List Int} {k x y : Nat} {v : Value} {s s' : World} (h : RT2 w P F D k v s) (hk : k < D.length) (hF : F.length + D.length ≤ 1048576) (hb : Below s.heap.size s s') (hE : drE P (D[k]?.getD 0) = 0) (hx : Rd x (drB P (D[k]?.getD 0))) (hy : Rd y (drI P (D[k]?.getD 0))) :
    ∃ v' w', (∀ ty, (Builtin.append_ #[38, 38] ty #[v, .slice (some ⟨s'.heap.size, 0, none⟩) 1 1]).run Try.prog (s'.alloc (.cells #[.complex .f64 x y] 26)) = .ok v' w') ∧ RT2 w P F D (k + 1) v' w' := by
  obtain ⟨h1, h2, h2', L, h3, h4, h5, h6⟩ := h
  have hd := drB_bd (P := P) (k := D[k]?.getD 0)
  have hK := h1.call hb
  have hsz : w.heap.size + 1 ≤ s'.heap.size := by have := hK.1.lt; omega
  obtain ⟨v', w', hr, hL, hB⟩ := (h3.later hb).app hsz (x, y, drB P (D[k]?.getD 0), drI P (D[k]?.getD 0)) ⟨hx, hy, show inA (drB P _) from ⟨by omega, by omega⟩, show inA (drI P _) from ⟨by omega, by omega⟩⟩ (by omega)
  refine ⟨v', w', hr, hK.grow hB, h2, allOk_next h2' hE, L ++ [_], hL, by simp; omega, ?_, ?_⟩
  · rw [(lb_app _ _).1, pre_next _ _ _ hk, h5]; dsimp only; omega
  · rw [(lb_app _ _).2, pre_next _ _ _ hk, h6]; dsimp only; omega

theorem RT1.done {w : World} {P : Nat → Int} {F : List Int} {v : Value} {s : World} (D : List Int) (h : RT1 w P F F.length v s) : RT2 w P F D 0 v s := by
  obtain ⟨h1, h2, L, h3, h4, h5, h6⟩ := h
  rw [pre_all] at h5 h6
  exact ⟨h1, h2, fun j hj => by omega, L, h3, by omega, by rw [pre_zero]; omega, by rw [pre_zero]; omega⟩

set_option maxHeartbeats 1000000 in
theorem rtree_form (P : Nat → Int) (a1 a2 : Option Addr) (l1 c1 l2 c2 : Nat) (F D : List Int) (w : World) (h : checkE P ≠ 0) :
    Calls Try.prog 14 #[Pv P, .slice a1 l1 c1, .slice a2 l2 c2] w fun e w' => AnsA e (trE P F D) (trB P F D) (trI P F D) ∧ Below w.heap.size w w' := by
  obtain ⟨e1, e2, e3⟩ := tr_form (F := F) (D := D) h
  rw [e1, e2, e3]
  have H1 := hide (refCheck_any P)
  have HK := hide (Kp.start w P)
  have h4 : checkE P = 4 := by have := checkE_two P; omega
  rw [h4] at H1
  clear h h4 e1 e2 e3
  go_enter Try.func14, Try.ntmps14
  go_wp2_with fail
  go_at_call 24
  refine (unhide H1 _).mono ?_
  rintro r w1 ⟨rfl, hx⟩
  replace HK := hide ((unhide HK).call hx)
  clear hx H1
  go_wp2
  go_ret2
  exact ⟨⟨0, 0, rfl, rd_zero, rd_zero⟩, (unhide HK).2⟩

/-- While a part is asked for: the plan's box and the part's number stay. -/
def Kq (w wr : World) (P : Nat → Int) (b o : Nat) (z : Int) (u : World) : Prop := Kp w P wr ∧ wr.cell? ⟨b, o, none⟩ = some (.int .i64 z) ∧ Below wr.heap.size wr u

theorem Kq.start {w wr : World} {P : Nat → Int} {b o : Nat} {z : Int} (h : Kp w P wr) (g : wr.cell? ⟨b, o, none⟩ = some (.int .i64 z)) : Kq w wr P b o z wr := ⟨h, g, Below.refl _ _⟩

theorem Kq.drew {w wr u : World} {P : Nat → Int} {b o : Nat} {z : Int} (h : Kq w wr P b o z u) : Kq w wr P b o z u.drew := ⟨h.1, h.2.1, h.2.2.drew⟩

theorem Kq.call {w wr u u' : World} {P : Nat → Int} {b o : Nat} {z : Int} (h : Kq w wr P b o z u) (hb : Below u.heap.size u u') : Kq w wr P b o z u' := ⟨h.1, h.2.1, h.2.2.trans (hb.mono h.2.2.size)⟩

theorem Kq.js {w wr u : World} {P : Nat → Int} {b o : Nat} {z : Int} (h : Kq w wr P b o z u) : Hid (Kq w wr P b o z u) ∧ u.cell? ⟨b, o, none⟩ = some (.int .i64 z) ∧ u.cell? ⟨w.heap.size, 0, none⟩ = some (.int .i64 (P 0)) ∧ u.cell? ⟨w.heap.size, 1, none⟩ = some (.int .i64 (P 1)) ∧ u.cell? ⟨w.heap.size, 2, none⟩ = some (.int .i64 (P 2)) ∧ u.cell? ⟨w.heap.size, 3, none⟩ = some (.int .i64 (P 3)) ∧ u.cell? ⟨w.heap.size, 4, none⟩ = some (.int .i64 (P 4)) ∧ u.cell? ⟨w.heap.size, 5, none⟩ = some (.int .i64 (P 5)) ∧ u.cell? ⟨w.heap.size, 6, none⟩ = some (.int .i64 (P 6)) ∧ u.cell? ⟨w.heap.size, 7, none⟩ = some (.int .i64 (P 7)) ∧ u.cell? ⟨w.heap.size, 8, none⟩ = some (.int .i64 (P 8)) ∧ u.cell? ⟨w.heap.size, 9, none⟩ = some (.int .i64 (P 9)) ∧ u.cell? ⟨w.heap.size, 10, none⟩ = some (.int .i64 (P 10)) ∧ u.cell? ⟨w.heap.size, 11, none⟩ = some (.int .i64 (P 11)) :=
  ⟨hide h, (h.2.2.cell (p := ⟨b, o, none⟩) (cell_block_lt h.2.1)).trans h.2.1, (h.1.call h.2.2).cells⟩

theorem below_undrew {n : Nat} {w w' : World} (h : Below n w.drew w') : Below n w w' := ⟨h.os, h.tape, h.output, h.size, h.block⟩

set_option maxHeartbeats 4000000 in
theorem rtree_good (P : Nat → Int) (a1 a2 : Option Addr) (l1 c1 l2 c2 : Nat) (F D : List Int) (w : World) (h : checkE P = 0) (h1 : IHas w a1 l1 F) (h2 : IHas w a2 l2 D) (hl : l1 + l2 ≤ 1048576) :
    Calls Try.prog 14 #[Pv P, .slice a1 l1 c1, .slice a2 l2 c2] w fun e w' => AnsA e (trE P F D) (trB P F D) (trI P F D) ∧ Below w.heap.size w w' := by
  have H1 := hide (refCheck_any P)
  have HK := hide (Kp.start w P)
  rw [h] at H1
  have HC := hide h
  have HF := hide h1
  have HD := hide h2
  have L1 : Hid (F.length = l1) := h1.1
  have L2 : Hid (D.length = l2) := h2.1
  have l1b : l1 ≤ 1048576 := by omega
  have l2b : l2 ≤ 1048576 := by omega
  have HL := hide hl
  clear h h1 h2 hl
  have H2 := hide (rfile_any P)
  have H3 := hide (rdir_any P)
  go_enter Try.func14, Try.ntmps14
  go_wp2_with fail
  go_at_call 24
  refine (unhide H1 _).mono ?_
  rintro r w1 ⟨rfl, hx⟩
  replace HK := hide ((unhide HK).call hx)
  clear hx H1
  go_wp2
  go_loopw [8, 9] (fun s i wr => ∃ k : Nat, i = .int .i64 (k : Int) ∧ k ≤ l1 ∧ Hid (RT1 w P F k s wr)) (fun _ i _ => l1 - (intOf i).toNat)
  case atStart => exact ⟨0, rfl, Nat.zero_le _, hide ⟨unhide HK, fun j hj => by omega, [], LA.nil _ _, rfl, rfl, rfl⟩⟩
  case round =>
    obtain ⟨k, rfl, hk, hJ⟩ := hrel
    clear HK
    by_cases hlt : k < l1
    · obtain ⟨b1, o1, rfl, hc1⟩ := ((unhide HF).later (unhide hJ).1.2).2 (by omega)
      have g1 := hc1 k hlt
      have HE := hide (fun x y s' hb => (unhide hJ).next (x := x) (y := y) (s' := s') (by rw [unhide L1]; exact hlt) (by rw [unhide L1]; exact l1b) hb)
      have HX := hide (fun hz => er_file (P := P) (F := F) (D := D) (k := k) (by rw [unhide L1]; exact hlt) (unhide hJ).2.1 hz)
      generalize F[k]?.getD 0 = z at *
      obtain ⟨f0, f1, f2, f3, f4, f5, f6, f7, f8, f9, f10, f11⟩ := (unhide hJ).1.cells
      have hlt' : (k : Int) < (l1 : Int) := by omega
      clear hc1 hlt
      go_wp2
      have HQ := hide (Kq.start (unhide hJ).1 g1)
      go_region_held3 (fun u => Hid (Kq w wr P b1 (o1 + k) z u) ∧ u.cell? ⟨b1, o1 + k, none⟩ = some (.int .i64 z) ∧ u.cell? ⟨w.heap.size, 0, none⟩ = some (.int .i64 (P 0)) ∧ u.cell? ⟨w.heap.size, 1, none⟩ = some (.int .i64 (P 1)) ∧ u.cell? ⟨w.heap.size, 2, none⟩ = some (.int .i64 (P 2)) ∧ u.cell? ⟨w.heap.size, 3, none⟩ = some (.int .i64 (P 3)) ∧ u.cell? ⟨w.heap.size, 4, none⟩ = some (.int .i64 (P 4)) ∧ u.cell? ⟨w.heap.size, 5, none⟩ = some (.int .i64 (P 5)) ∧ u.cell? ⟨w.heap.size, 6, none⟩ = some (.int .i64 (P 6)) ∧ u.cell? ⟨w.heap.size, 7, none⟩ = some (.int .i64 (P 7)) ∧ u.cell? ⟨w.heap.size, 8, none⟩ = some (.int .i64 (P 8)) ∧ u.cell? ⟨w.heap.size, 9, none⟩ = some (.int .i64 (P 9)) ∧ u.cell? ⟨w.heap.size, 10, none⟩ = some (.int .i64 (P 10)) ∧ u.cell? ⟨w.heap.size, 11, none⟩ = some (.int .i64 (P 11)))
        (with_reducible (first | exact (unhide HQ).drew.js | exact (unhide J1).js | exact (unhide HQ).js))
        ((go_at_call 8; refine (unhide H2 _ _).mono ?_; rintro e w6 ⟨⟨x, y, rfl, hx, hy⟩, hb⟩; have J1 : Hid (Kq w wr P b1 (o1 + k) z w6) := Kq.call (unhide (‹Hid (Kq w wr P b1 (o1 + k) z _) ∧ _›).1) hb; have HU := hide (And.intro hx hy); clear hb hx hy))
      all_goals
        have jj := hide (unhide (‹Hid (Kq w wr P b1 (o1 + k) z _) ∧ _›).1).2.2
        clear f0 f1 f2 f3 f4 f5 f6 f7 f8 f9 f10 f11 g1 HQ
        by_cases hz : whE P z = 0
        · obtain ⟨v', w', R, hN⟩ := unhide HE x y _ (unhide jj) hz (unhide HU).1 (unhide HU).2
          have HR := hide R
          have HN := hide hN
          rw [hz]
          clear R hN HE HX HU hz hJ jj
          go_wp2_with (at_builtin; refine wpList_append_run 38 rfl _ _ rfl _ _ _ rfl rfl (unhide HR) ?_; clear HR)
          exact ⟨⟨k + 1, by go_num, by omega, HN⟩, by simp [intOf]; omega⟩
        · have HT := hide (tr_err (unhide HC) (unhide HX hz) hz)
          clear HE HX HU
          generalize whE P z = E at *
          go_wp2
          go_ret2
          rw [(unhide HT).1, (unhide HT).2.1, (unhide HT).2.2]
          exact ⟨⟨0, 0, rfl, rd_zero, rd_zero⟩, ((unhide hJ).1.call (unhide jj)).2⟩
    · obtain rfl : k = l1 := by omega
      have hJ2 := unhide hJ
      rw [← unhide L1] at hJ2
      replace hJ2 := hide (hJ2.done D)
      clear hJ hlt hk
      go_wp2
      go_loopw [8, 12] (fun s i wr => ∃ j : Nat, i = .int .i64 (j : Int) ∧ j ≤ l2 ∧ Hid (RT2 w P F D j s wr)) (fun _ i _ => l2 - (intOf i).toNat)
      case atStart => exact ⟨0, rfl, Nat.zero_le _, hJ2⟩
      case round =>
        obtain ⟨j, rfl, hk, hJ⟩ := hrel
        clear hJ2
        by_cases hlt : j < l2
        · obtain ⟨b1, o1, rfl, hc1⟩ := ((unhide HD).later (unhide hJ).1.2).2 (by omega)
          have g1 := hc1 j hlt
          have HE := hide (fun x y s' hb => (unhide hJ).next (x := x) (y := y) (s' := s') (by rw [unhide L2]; exact hlt) (by rw [unhide L1, unhide L2]; exact unhide HL) hb)
          have HX := hide (fun hz => er_dir (P := P) (F := F) (D := D) (k := j) (unhide hJ).2.1 (by rw [unhide L2]; exact hlt) (unhide hJ).2.2.1 hz)
          generalize D[j]?.getD 0 = z at *
          obtain ⟨f0, f1, f2, f3, f4, f5, f6, f7, f8, f9, f10, f11⟩ := (unhide hJ).1.cells
          have hlt' : (j : Int) < (l2 : Int) := by omega
          clear hc1 hlt
          go_wp2
          have HQ := hide (Kq.start (unhide hJ).1 g1)
          go_region_held3 (fun u => Hid (Kq w wr P b1 (o1 + j) z u) ∧ u.cell? ⟨b1, o1 + j, none⟩ = some (.int .i64 z) ∧ u.cell? ⟨w.heap.size, 0, none⟩ = some (.int .i64 (P 0)) ∧ u.cell? ⟨w.heap.size, 1, none⟩ = some (.int .i64 (P 1)) ∧ u.cell? ⟨w.heap.size, 2, none⟩ = some (.int .i64 (P 2)) ∧ u.cell? ⟨w.heap.size, 3, none⟩ = some (.int .i64 (P 3)) ∧ u.cell? ⟨w.heap.size, 4, none⟩ = some (.int .i64 (P 4)) ∧ u.cell? ⟨w.heap.size, 5, none⟩ = some (.int .i64 (P 5)) ∧ u.cell? ⟨w.heap.size, 6, none⟩ = some (.int .i64 (P 6)) ∧ u.cell? ⟨w.heap.size, 7, none⟩ = some (.int .i64 (P 7)) ∧ u.cell? ⟨w.heap.size, 8, none⟩ = some (.int .i64 (P 8)) ∧ u.cell? ⟨w.heap.size, 9, none⟩ = some (.int .i64 (P 9)) ∧ u.cell? ⟨w.heap.size, 10, none⟩ = some (.int .i64 (P 10)) ∧ u.cell? ⟨w.heap.size, 11, none⟩ = some (.int .i64 (P 11)))
            (with_reducible (first | exact (unhide HQ).drew.js | exact (unhide J1).js | exact (unhide HQ).js))
            ((go_at_call 10; refine (unhide H3 _ _).mono ?_; rintro e w6 ⟨⟨x, y, rfl, hx, hy⟩, hb⟩; have J1 : Hid (Kq w wr P b1 (o1 + j) z w6) := Kq.call (unhide (‹Hid (Kq w wr P b1 (o1 + j) z _) ∧ _›).1) hb; have HU := hide (And.intro hx hy); clear hb hx hy))
          all_goals
            have jj := hide (unhide (‹Hid (Kq w wr P b1 (o1 + j) z _) ∧ _›).1).2.2
            clear f0 f1 f2 f3 f4 f5 f6 f7 f8 f9 f10 f11 g1 HQ
            by_cases hz : drE P z = 0
            · obtain ⟨v', w', R, hN⟩ := unhide HE x y _ (unhide jj) hz (unhide HU).1 (unhide HU).2
              have HR := hide R
              have HN := hide hN
              rw [hz]
              clear R hN HE HX HU hz hJ jj
              go_wp2_with (at_builtin; refine wpList_append_run 38 rfl _ _ rfl _ _ _ rfl rfl (unhide HR) ?_; clear HR)
              exact ⟨⟨j + 1, by go_num, by omega, HN⟩, by simp [intOf]; omega⟩
            · have HT := hide (tr_err (unhide HC) (unhide HX hz) hz)
              clear HE HX HU
              generalize drE P z = E at *
              go_wp2
              go_ret2
              rw [(unhide HT).1, (unhide HT).2.1, (unhide HT).2.2]
              exact ⟨⟨0, 0, rfl, rd_zero, rd_zero⟩, ((unhide hJ).1.call (unhide jj)).2⟩
        · obtain rfl : j = l2 := by omega
          have HT := hide (tr_sum (unhide HC) (er_none (unhide hJ).2.1 (by have := (unhide hJ).2.2.1; rw [← unhide L2] at this; exact this)))
          obtain ⟨hK, _, _, L, hL, hlen, hB, hI⟩ := unhide hJ
          obtain ⟨a, c, rfl, hA⟩ := hL.has
          rw [← unhide L2, pre_all] at hB hI
          have HS : Hid (lb L = suB P F D ∧ li L = suI P F D) := ⟨hB, hI⟩
          have H4 := hide (fun w1 hb => rsum_any a L.length c L w1 (hA.later hb) (by rw [hlen, unhide L1]; have := unhide HL; omega))
          rw [(unhide HS).1, (unhide HS).2] at H4
          have HK := hide hK
          clear hK hL hlen hB hI hA hlt hk hJ HS
          generalize L.length = n at *
          go_wp2_with fail
          go_at_call 26
          refine (unhide H4 _ (Below.refl _ _)).mono ?_
          rintro r w2 ⟨⟨u, v, rfl, hu, hv⟩, rfl⟩
          have HU := hide (And.intro hu hv)
          clear hu hv
          go_wp2
          go_ret2
          rw [(unhide HT).1, (unhide HT).2.1, (unhide HT).2.2]
          exact ⟨⟨u, v, rfl, (unhide HU).1, (unhide HU).2⟩, (unhide HK).2⟩

theorem rtree_any (P : Nat → Int) (a1 a2 : Option Addr) (l1 c1 l2 c2 : Nat) (F D : List Int) (w : World) (h1 : IHas w a1 l1 F) (h2 : IHas w a2 l2 D) (hl : l1 + l2 ≤ 1048576) :
    Calls Try.prog 14 #[Pv P, .slice a1 l1 c1, .slice a2 l2 c2] w fun e w' => AnsA e (trE P F D) (trB P F D) (trI P F D) ∧ Below w.heap.size w w' := by
  by_cases h : checkE P = 0
  · exact rtree_good P a1 a2 l1 c1 l2 c2 F D w h h1 h2 hl
  · exact rtree_form P a1 a2 l1 c1 l2 c2 F D w h

end Go.Proofs.Ytkdiifoipfkmcaa
