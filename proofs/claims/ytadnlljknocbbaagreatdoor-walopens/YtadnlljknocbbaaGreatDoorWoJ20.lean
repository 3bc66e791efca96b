/- Joined: DRWrite3, RAny. -/
import Derived.Test.YtadnlljknocbbaaGreatDoorWoJ19
import Derived.Test.YtadnlljknocbbaaGreatDoorWoJ17
/- The contract of the document's Write, where MaxSteps writes wait. -/
namespace Go.Proofs.YtadnlljknocbbaaGreatDoor
open Go.RowKit Go.Shelf
set_option linter.unusedVariables false

theorem shift_put (D : Dev) (i : Nat) : D.put i ((D.Y i)[0]?.getD []) ((D.Y i).drop 1) = D.shift i := rfl

theorem sizeOfS (w : World) : (sizeOf (Tryz.prog.elem 80)).run Tryz.prog w = .ok 1 w := by kernel_rfl

theorem elemS : Tryz.prog.underlying 80 = some (.slice (Tryz.prog.elem 80)) := by kernel_rfl

theorem run_scut (k len cap : Nat) (h : 1 ≤ len) (hc : cap ≠ 1) (w : World) :
    (Instr.slice 80 (.slice (some ⟨k, 0, none⟩) len cap) (some (.int .i64 1)) none none).run Tryz.prog w = .ok (.slice (some ⟨k, 1, none⟩) (len - 1) (cap - 1)) w := by
  have := run_slice_l (P := Tryz.prog) (w := w) 80 (some ⟨k, 0, none⟩) len cap elemS .i64 1 (by omega) (by omega)
  rw [this, sizeOfS]
  simp only [Result.andThen, sliced]
  simp [hc, Addr.add]

/-- append([][]byte{}, list[1:]...), and the store behind it. -/
theorem RvM.tail {w : World} {S : Nat → Prop} {g : Nat} {D : Dev} {m : RMem} (h : RvM w S g D m) {i : Nat} (hi : i < D.n) (hy : (D.Y i).length = 400) :
    ∃ kk cl a' c' w2, w.cell? ⟨m.h, i, none⟩ = some (.slice (some ⟨kk, 0, none⟩) 401 cl) ∧ 401 ≤ cl ∧ (∀ o, (w.alloc o).cell? ⟨m.h, i, none⟩ = some (.slice (some ⟨kk, 0, none⟩) 401 cl)) ∧
      (∀ ty, (Builtin.append_ #[80, 80] ty #[.slice (some ⟨w.heap.size, 0, none⟩) 0 0, .slice (some ⟨kk, 1, none⟩) 400 (cl - 1)]).run Tryz.prog (w.alloc (.cells #[] 50)).drew = .ok (.slice a' 400 c') w2) ∧
      w2.heap[g]? = w.heap[g]? ∧ w2.heap[m.h]? = w.heap[m.h]? ∧
      Hid (∃ S', Rv (w2.setCell ⟨m.h, i, none⟩ (.slice a' 400 c')) S' g (D.shift i) ∧ Nx S w S' (w2.setCell ⟨m.h, i, none⟩ (.slice a' 400 c'))) := by
  obtain ⟨kk, cl, e1, e2, e3, e4, l1, l2, l3⟩ := h.list hi
  obtain ⟨R, hR, hRa, hRo⟩ := h.row i hi
  rw [hy] at e1 e2 l1
  have hRl : R.length = 401 := by have := hR.1; simp [hy] at this; exact this
  rcases hR.2 with ⟨_, h0⟩ | ⟨k', c0, cur, eW, _, hh, hn, hm, hsz, ht⟩
  · simp at h0
  rw [e1] at eW
  simp only [List.length_cons, hy] at eW
  cases eW
  rw [Nat.mul_one] at hsz ht
  simp only [List.length_cons, hy] at ht
  obtain ⟨r0, R', rfl⟩ : ∃ r0 R', R = r0 :: R' := by
    cases R with
    | nil => simp at hRl
    | cons r0 R' => exact ⟨r0, R', rfl⟩
  have hR'l : R'.length = 400 := by simpa using hRl
  have hb0 := ((Below.refl w.heap.size w).alloc (Nat.le_refl _) (.cells #[] 50)).drew
  have hown : (w.alloc (.cells #[] 50)).drew.ownsRow 0 50 1 (.slice (some ⟨w.heap.size, 0, none⟩) 0 0) 0 [] := ⟨rfl, .inr ⟨_, 0, #[], rfl, Nat.zero_le _, World.alloc_heap_new _ _, Nat.le_refl _, by unfold maxLen; omega, rfl, rfl⟩⟩
  obtain ⟨v', w2, hrun, ho, hgr, hcase⟩ := run_append_vals 80 50 (.slice none 0 0) 24 Tryz.underlying80 infoS rfl hown ⟨kk, 1, none⟩ 400 (cl - 1) (R'.map (rv D.blk)) (by simp [hR'l]) (by omega) (by
      intro j x hj
      have hj4 : j < 400 := by have := (List.getElem?_eq_some_iff.1 hj).1; simp at this; omega
      rw [World.add_zero_spot]
      have hc : (cur.toList.take 401)[j + 1]? = some x := by rw [ht, List.map_cons, List.getElem?_cons_succ]; exact hj
      rw [List.getElem?_take_of_lt (by omega)] at hc
      rw [hb0.cell (p := ⟨kk, 1 + j, none⟩) (Array.getElem?_eq_some_iff.1 hh).1]
      simp only [World.cell?, hh]
      rw [Nat.add_comm 1 j]
      simpa using hc) (by
      intro x hx
      obtain ⟨r, _, rfl⟩ := List.mem_map.1 hx
      rfl) (by unfold maxLen; omega) (by omega)
  rw [Nat.zero_add, List.nil_append] at ho
  obtain ⟨a', c', rfl⟩ : ∃ a' c', v' = .slice a' 400 c' := by
    rcases ho.2 with ⟨_, h0⟩ | ⟨gg, cc, _, rfl, _⟩
    · omega
    · exact ⟨_, _, rfl⟩
  have hs0 : (w.alloc (.cells #[] 50)).drew.heap.size = w.heap.size + 1 := by show (w.alloc _).heap.size = _; simp
  have hb2 : Below w.heap.size w w2 := hb0.grown hgr (by omega) (fun k e => by simp [Value.ownBlock] at e; omega)
  have g2 := h.grow hb2
  have hnewb : ∀ k, (Value.slice a' 400 c').ownBlock = some k → w.heap.size ≤ k ∧ k < w2.heap.size := by
    intro k e
    constructor
    · rcases hcase with ⟨x1, _⟩ | ⟨k1, x1, x2, _⟩
      · rw [x1] at e; simp [Value.ownBlock] at e; omega
      · rw [x1] at e; cases e; omega
    · rcases ho.2 with ⟨_, h0⟩ | ⟨gg, cc, cur2, e3, _, hh2, _⟩
      · omega
      · rw [e3] at e
        simp [Value.ownBlock] at e
        subst e
        exact (Array.getElem?_eq_some_iff.1 hh2).1
  have hWR : WR w2 (exS S w w2) D.blk (.slice a' 400 c') (((D.Y i)[0]?.getD []) :: ((D.Y i).drop 1)) := by
    have hcons : ((D.Y i)[0]?.getD []) :: ((D.Y i).drop 1) = D.Y i := by
      have hY := hy
      revert hY
      cases D.Y i with
      | nil => intro hY; simp at hY
      | cons x xs => intro _; simp
    rw [hcons]
    refine ⟨R', by rw [hy]; exact ho, fun j hj => ?_, fun k e => .inr (hnewb k e)⟩
    have := hRa (j + 1) (by simpa using hj)
    rw [List.getElem?_cons_succ, List.getElem?_cons_succ] at this
    exact this.kept (fun k c hs _ => hb2.block k (h.lt k hs)) (fun k hk => .inl hk)
  have h3 := g2.setL hi hWR (by rw [List.length_drop]; omega) (fun j k hj hji e e2 => by
    have := (hnewb k e2).1
    have := h.lt _ ((h.row j hj).own e).1
    omega)
  refine ⟨kk, cl, a', c', w2, l1, e2, fun o => by rw [(h.lis.alloc o).cell (by have := h.hn.1; omega), e1], hrun, hb2.block g h.dev.lt, hb2.block m.h h.lis.lt, ?_⟩
  exact ⟨_, ⟨_, h3⟩, (Nx.grow hb2).trans (Nx.set (p := ⟨m.h, i, none⟩) g2.sh _)⟩

set_option maxRecDepth 100000 in
set_option maxHeartbeats 8000000 in
theorem rwrite_full (g i : Nat) (a : Option Addr) (cap : Nat) (zs : List Int) (S : Nat → Prop) (D : Dev) (w : World) (hD : Rv w S g D) (hi : i < D.n) (hb : ¬ D.burnt) (hr : Row w.heap.size w a D.blk cap zs) (ho : Out S D.blk a) (hlo : ∀ S' w', Nx S w S' w' → Out S' D.blk a) (hy : (D.Y i).length = 400) :
    Calls Tryz.prog 51 #[.pointer (some ⟨g, 0, none⟩), .int .i64 i, .slice a D.blk cap] w fun e w' => e = .returned (.int .i64 0) ∧ ∃ S', Rv w' S' g ((D.burn.shift i).add i zs) ∧ Nx S w S' w' := by
  have K := hide (rburn_burns g S D w hD hb)
  have KT : Hid (∀ w1, Rv w1 S g D.burn → Nx S w S w1 → ∃ hh hc kk cl a' c' w2, w1.cell? ⟨g, 1, none⟩ = some (.slice (some ⟨hh, 0, none⟩) D.n hc) ∧ (∀ o, (w1.alloc o).cell? ⟨g, 1, none⟩ = some (.slice (some ⟨hh, 0, none⟩) D.n hc)) ∧ w2.cell? ⟨g, 1, none⟩ = some (.slice (some ⟨hh, 0, none⟩) D.n hc) ∧
      w1.cell? ⟨hh, i, none⟩ = some (.slice (some ⟨kk, 0, none⟩) 401 cl) ∧ (∀ o, (w1.alloc o).cell? ⟨hh, i, none⟩ = some (.slice (some ⟨kk, 0, none⟩) 401 cl)) ∧ w2.cell? ⟨hh, i, none⟩ = some (.slice (some ⟨kk, 0, none⟩) 401 cl) ∧ w2.frozen? ⟨hh, i, none⟩ = false ∧
      (∀ w, (Instr.slice 80 (.slice (some ⟨kk, 0, none⟩) 401 cl) (some (.int .i64 1)) none none).run Tryz.prog w = .ok (.slice (some ⟨kk, 1, none⟩) 400 (cl - 1)) w) ∧
      Hid (∀ ty, (Builtin.append_ #[80, 80] ty #[.slice (some ⟨w1.heap.size, 0, none⟩) 0 0, .slice (some ⟨kk, 1, none⟩) 400 (cl - 1)]).run Tryz.prog (w1.alloc (.cells #[] 50)).drew = .ok (.slice a' 400 c') w2) ∧
      Hid (∃ S', Rv (w2.setCell ⟨hh, i, none⟩ (.slice a' 400 c')) S' g (D.burn.shift i) ∧ Nx S w S' (w2.setCell ⟨hh, i, none⟩ (.slice a' 400 c')))) := by
    intro w1 h hx
    obtain ⟨m, h⟩ := h
    obtain ⟨kk, cl, a', c', w2, l1, l2, l3, R, kg, kh, S', q1, q2⟩ := h.tail hi hy
    refine ⟨m.h, m.hc, kk, cl, a', c', w2, h.cells.2.1, fun o => (h.dev.alloc o).cell (i := 1) (by omega), (h.dev.of_block kg).cell (i := 1) (by omega), l1, l3, ?_, (h.lis.of_block kh).frozen i, fun w => run_scut kk 401 cl (by omega) (by omega) w, R, S', q1, hx.trans q2⟩
    rw [World.cell?_of_block (a := ⟨m.h, i, none⟩) kh]
    exact l1
  have KW : Hid (∀ w1 S1, Rv w1 S1 g (D.burn.shift i) → Nx S w S1 w1 → ∃ hh hc kk cl k c' w2 a2 c2 w3, WK g i D.n 399 D.blk a cap (fun wx => ∃ S', Rv wx S' g ((D.burn.shift i).add i zs) ∧ Nx S w S' wx) w1 hh hc kk cl k c' w2 a2 c2 w3) := by
    intro w1 S1 h hx
    have hl : ((D.burn.shift i).Y i).length = 399 := by show ((fun j => if j = i then (D.Y i).drop 1 else D.Y j) i).length = 399; simp [hy]
    obtain ⟨hh, hc, kk, cl, k, c', w2, a2, c2, w3, W⟩ := h.wk (i := i) hi (by rw [hl]; omega) (hr.nx hx ho)
    rw [hl] at W
    obtain ⟨S', q1, q2⟩ := W.fin
    exact ⟨hh, hc, kk, cl, k, c', w2, a2, c2, w3, { W with fin := ⟨S', q1, hx.trans q2⟩ }⟩
  obtain ⟨m, hD⟩ := hD
  obtain ⟨c0, c1, c2, c3, c4⟩ := hD.cells
  have hin : ¬ (D.n : Int) ≤ (i : Int) := by omega
  have hin2 : (i : Int) < (D.n : Int) := by omega
  have hz : ((D.blk : Int) != (D.blk : Int)) = false := by simp
  clear hD hb hr ho hy hlo
  generalize (D.burn.shift i).add i zs = D' at *
  generalize D.burn.shift i = D2 at *
  generalize D.burn = D1 at *
  generalize D.blk = bb at *
  generalize D.n = nn at *
  go_enter Tryz.func51, Tryz.ntmps51
  go_wp2_with fail
  go_at_call 93
  refine (unhide K).mono ?_
  rintro e w1 ⟨rfl, h1, h2⟩
  obtain ⟨hh, hc, kk, cl, a', c', w2, x1, x2, x3, y1, y2, y3, y4, cut, R, F⟩ := unhide KT w1 h1 h2
  clear K KT h1 h2 c0 c1 c2 c3 c4 hi
  go_upto_region 8 with fail
  have x1' : w1.drew.cell? ⟨g, 1, none⟩ = some (.slice (some ⟨hh, 0, none⟩) nn hc) := x1
  have y1' : w1.drew.cell? ⟨hh, i, none⟩ = some (.slice (some ⟨kk, 0, none⟩) 401 cl) := y1
  clear x1 y1 hin
  go_cut [] (fun wx => Hid (∃ S', Rv wx S' g D2 ∧ Nx S w S' wx))
  case first =>
    clear KW
    go_region_law (refine step_append_run (by rfl) _ _ _ (by rfl) _ _ _ (by rfl) (by rfl) (unhide R) ?_; clear R)
    all_goals
      go_wp2_with fail
      go_meet
      exact F
  case rest =>
    clear R F x1' x2 x3 y1' y2 y3 y4 cut
    obtain ⟨S1, f1, f2⟩ := unhide hcut
    obtain ⟨hh, hc, kk, cl, k, c', w2, a2, c2', w3, W⟩ := unhide KW wc S1 f1 f2
    have HW := hide W
    clear hcut KW f1 f2 W
    go_upto_region 9 with fail
    have x1' : wc.drew.cell? ⟨g, 1, none⟩ = some (.slice (some ⟨hh, 0, none⟩) nn hc) := (unhide HW).x1
    have y1' : wc.drew.cell? ⟨hh, i, none⟩ = some (.slice (some ⟨kk, 0, none⟩) (399 + 1) cl) := (unhide HW).y1
    have x2 := (unhide HW).x2
    have x3 := (unhide HW).x3
    have x4 := (unhide HW).x4
    have x5 := (unhide HW).x5
    have y2 := (unhide HW).y2
    have y3 := (unhide HW).y3
    have y4 := (unhide HW).y4
    have y5 := (unhide HW).y5
    have y6 := (unhide HW).y6
    have R1 := hide (unhide HW).r1
    have R2 := hide (unhide HW).r2
    have F := hide (unhide HW).fin
    simp only [Nat.reduceAdd] at y1' y2 y3 y4 y5 R2 F
    clear HW
    go_cut [] (fun wx => Hid (∃ S', Rv wx S' g D' ∧ Nx S w S' wx))
    case first =>
      go_region_law (first
        | (refine step_append_run (by rfl) _ _ _ (by rfl) _ _ _ (by rfl) (by rfl) (unhide R1) ?_; clear R1)
        | (refine step_append_run (by rfl) _ _ _ (by rfl) _ _ _ (by rfl) (by rfl) (unhide R2) ?_; clear R2))
      all_goals
        go_wp2_with fail
        go_meet
        exact F
    case rest =>
      clear R1 R2 F x1' x2 x3 x4 x5 y1' y2 y3 y4 y5 y6
      go_wp2_with fail
      go_ret
      exact ⟨rfl, unhide hcut⟩

end Go.Proofs.YtadnlljknocbbaaGreatDoor

/- The document's device: any write, any flush. -/
namespace Go.Proofs.YtadnlljknocbbaaGreatDoor
open Go.RowKit Go.Shelf
set_option linter.unusedVariables false

theorem rwrite_any (g i : Nat) (a : Option Addr) (cap : Nat) (zs : List Int) (S : Nat → Prop) (D : Dev) (w : World) (hD : Rv w S g D) (hi : i < D.n) (hr : Row w.heap.size w a D.blk cap zs) (ho : Out S D.blk a) :
    Calls Tryz.prog 51 #[.pointer (some ⟨g, 0, none⟩), .int .i64 i, .slice a D.blk cap] w fun e w' => e = .returned (.int .i64 D.wE) ∧ ∃ S', Rv w' S' g (D.wD i zs) ∧ Nx S w S' w' := by
  have hlo : ∀ S' w', Nx S w S' w' → Out S' D.blk a := fun S' w' hx hp x e hS => by
    obtain ⟨_, _, _, _, hc⟩ := hr
    obtain ⟨b, off, e', hb, _⟩ := hc hp
    rw [e] at e'
    cases e'
    exact ho hp _ e (hx.sub _ hb hS)
  by_cases hb : D.f = 0 ∨ D.dead = true
  · have e1 : D.wE = 7 := if_pos hb
    have e2 : D.wD i zs = D.die := if_pos hb
    rw [e1, e2]
    refine (rwrite_dies g i a cap S D w hD hi hb).mono ?_
    rintro e w' ⟨rfl, h1, h2⟩
    exact ⟨rfl, S, h1, h2⟩
  · have e1 : D.wE = 0 := if_neg hb
    by_cases hy : (D.Y i).length < 400
    · have e2 : D.wD i zs = D.burn.add i zs := by unfold Dev.wD; rw [if_neg hb, if_pos hy]
      rw [e1, e2]
      exact rwrite_ok g i a cap zs S D w hD hi hb hr ho hy
    · have e2 : D.wD i zs = (D.burn.shift i).add i zs := by unfold Dev.wD; rw [if_neg hb, if_neg hy]
      rw [e1, e2]
      exact rwrite_full g i a cap zs S D w hD hi hb hr ho hlo (by have := hD.ok.y i hi; omega)

theorem rflush_any (g : Nat) (S : Nat → Prop) (D : Dev) (w : World) (hD : Rv w S g D) :
    Calls Tryz.prog 52 #[.pointer (some ⟨g, 0, none⟩)] w fun e w' => e = .returned (.int .i64 D.wE) ∧ ∃ S', Rv w' S' g D.fD ∧ Nx S w S' w' := by
  by_cases hb : D.f = 0 ∨ D.dead = true
  · have e1 : D.wE = 7 := if_pos hb
    have e2 : D.fD = D.die := if_pos hb
    rw [e1, e2]
    refine (rflush_dies g S D w hD hb).mono ?_
    rintro e w' ⟨rfl, h1, h2⟩
    exact ⟨rfl, S, h1, h2⟩
  · have e1 : D.wE = 0 := if_neg hb
    have e2 : D.fD = D.burn.flush := if_neg hb
    rw [e1, e2]
    exact rflush_ok g S D w hD hb

theorem rblock_dev (g : Nat) (S : Nat → Prop) (D : Dev) (w : World) (hD : Rv w S g D) : Calls Tryz.prog 88 #[.pointer (some ⟨g, 0, none⟩)] w fun e w' => e = .returned (.int .i64 (D.blk : Int)) ∧ w = w' := by
  obtain ⟨m, h⟩ := hD
  exact rblock g w _ h.cells.1

theorem rblocks_dev (g : Nat) (S : Nat → Prop) (D : Dev) (w : World) (hD : Rv w S g D) : Calls Tryz.prog 79 #[.pointer (some ⟨g, 0, none⟩)] w fun e w' => e = .returned (.int .i64 (D.n : Int)) ∧ w = w' := by
  obtain ⟨m, h⟩ := hD
  exact rblocks g m.h D.n m.hc w h.cells.2.1

theorem rdead_dev (g : Nat) (S : Nat → Prop) (D : Dev) (w : World) (hD : Rv w S g D) : Calls Tryz.prog 76 #[.pointer (some ⟨g, 0, none⟩)] w fun e w' => e = .returned (.bool D.dead) ∧ w = w' := by
  obtain ⟨m, h⟩ := hD
  exact rdead g w _ h.cells.2.2.2.1

theorem rwrites_dev (g : Nat) (S : Nat → Prop) (D : Dev) (w : World) (hD : Rv w S g D) : Calls Tryz.prog 75 #[.pointer (some ⟨g, 0, none⟩)] w fun e w' => e = .returned (.int .i64 D.wr) ∧ w = w' := by
  obtain ⟨m, h⟩ := hD
  exact rwrites g w _ h.cells.2.2.2.2

end Go.Proofs.YtadnlljknocbbaaGreatDoor

